/- Layer 7: one question to both readers, kind by kind. -/
import Derived.Test.YtgabpmoibmhigaaRmf
import Derived.Test.YtgabpmoibmhigaaLs
namespace Go.Proofs.Ytgabpmoibmhigaa.Re
open Go.RowKit Go.Proofs.Ytgabpmoibmhigaa Go.Proofs.Ytgabpmoibmhigaa.Rp
set_option linter.unusedVariables false

set_option maxRecDepth 100000 in
set_option maxHeartbeats 4000000 in
theorem reads_0 (p : Value) (gr B g N : Nat) (a : Option Addr) (n c : Nat) (lb : List UInt8) (s : St) (w0 w : World) (x : It) (hx : ItOk x) (hk : x.kind = 0) (h : Two p gr B g N a n c lb s s w0 w) :
    Calls Try.prog 15 #[p, .pointer (some ⟨g, 0, none⟩), .agg x.cells.toArray] w fun e w' => e = .returned (.bool true) ∧ ∃ t, Two p gr B g N a n c lb t t w0 w' := by
  obtain ⟨cs, hcs⟩ : ∃ cs, cs = x.cells.toArray := ⟨_, rfl⟩
  rw [← hcs]
  have HB := Lib.hid (show (w.alloc (.cells cs 33)).heap[w.heap.size]? = some (.cells cs 33) from heap_alloc_last w _)
  have HX := Lib.hid (fun (y : World) (hb : y.heap[w.heap.size]? = some (.cells cs 33)) => (box_facts (w := y) hx (by rw [← hcs]; exact hb)).1)
  have HT := Lib.hid (h.on (below_n1 w (.cells cs 33)))
  have hneg : w.heap.size ≠ g := fun e => by have := h.m.err.2.2; omega
  have hner : w.heap.size ≠ gr := fun e => by have := h.gl; omega
  obtain ⟨c0, -, -, -, -, -, c38⟩ := HX.out _ HB.out
  have hmm : -9223372036854775808 ≤ x.most ∧ x.most ≤ 9223372036854775807 := hx.2.2.2
  obtain ⟨kd, hkd⟩ : ∃ kd, kd = x.kind := ⟨_, rfl⟩
  obtain ⟨mo, hmo⟩ : ∃ mo, mo = x.most := ⟨_, rfl⟩
  rw [← hkd] at c0 hk HX
  rw [← hmo] at c38 HX hmm
  clear hcs h hkd hmo hx
  subst hk
  go_enter Try.func15, Try.ntmps15
  obtain ⟨z, hz⟩ : ∃ z : Int, z = ((numS s 1).1 : Nat) := ⟨_, rfl⟩
  have hzb : 0 ≤ z ∧ z ≤ 255 := by have := numS_lt s 1; rw [hz]; omega
  have HZ := Lib.hid hz
  clear hz
  go_wp2_with fail
  refine (rbyte_any p gr s _ HT.out.r).mono ?_
  rintro e w1 ⟨rfl, hr, hA⟩
  rw [← HZ.out]
  have HT1 := Lib.hid (HT.out.left hr hA)
  clear hr hA
  go_wp2_with fail
  refine (mnum_any g N a n c lb s 1 (by omega) _ HT1.out.m).mono ?_
  rintro e w2 ⟨rfl, hm, hA⟩
  rw [← HZ.out]
  have HT2 := Lib.hid (HT1.out.right hm hA)
  clear hm hA
  obtain ⟨t, ht⟩ : ∃ t, t = (numS s 1).2 := ⟨_, rfl⟩
  rw [← ht] at HT2
  obtain ⟨tl, te⟩ := t
  obtain ⟨lz, hlz⟩ : ∃ lz : Nat, lz = leftS (tl, te) := ⟨_, rfl⟩
  have HLZ := Lib.hid hlz
  clear ht hlz
  go_wp2_with fail
  refine wp_region_held_drew (S := fun y => Two p gr B g N a n c lb (tl, te) (tl, te) w0 y) (by kernel_rfl) (HT2.out.on ((Below.refl _ _).drew)) (fun hS0 => ?_)
  refine wpAnyH_take (i := 0) (v := ?_) rfl (by kernel_rfl) (by kernel_rfl) (by kernel_rfl) (fun _ _ _ h => h) (Or.inl ⟨by kernel_rfl, by (intro wz hSz; go_simp; try with_reducible rfl)⟩) hS0 ?_
  go_simp
  refine wpAnyH_take (i := 1) (v := ?_) rfl (by kernel_rfl) (by kernel_rfl) (by kernel_rfl) (fun _ _ _ h => h) (Or.inl ⟨by kernel_rfl, by (intro wz hSz; go_simp; try with_reducible rfl)⟩) hS0 ?_
  go_simp
  refine wpAnyH_take (i := 2) (v := ?_) rfl (by kernel_rfl) (by kernel_rfl) (by kernel_rfl) (fun _ _ _ h => h) (Or.inl ⟨by kernel_rfl, by (intro wz hSz; go_simp; try with_reducible rfl)⟩) hS0 ?_
  go_simp
  refine wpAnyH_take (i := 4) (v := ?_) rfl (by kernel_rfl) (by kernel_rfl) (by kernel_rfl) (fun _ _ _ h => h) (Or.inl ⟨by kernel_rfl, by (intro wz hSz; go_simp; try with_reducible rfl)⟩) hS0 ?_
  go_simp
  refine wpAnyH_take (i := 5) (v := ?_) rfl (by kernel_rfl) (by kernel_rfl) (by kernel_rfl) (fun _ _ _ h => h) (Or.inl ⟨by kernel_rfl, by (intro wz hSz; go_simp; try with_reducible rfl)⟩) hS0 ?_
  go_simp
  refine wpAnyH_take (i := 6) (v := ?_) rfl (by kernel_rfl) (by kernel_rfl) (by kernel_rfl) (fun _ _ _ h => h) (Or.inl ⟨by kernel_rfl, by (intro wz hSz; go_simp; try with_reducible rfl)⟩) hS0 ?_
  go_simp
  refine wpAnyH_take (i := 7) (v := ?_) rfl (by kernel_rfl) (by kernel_rfl) (by kernel_rfl) (fun _ _ _ h => h) (Or.inl ⟨by kernel_rfl, by (intro wz hSz; have hcz := hSz.m.err.1; simp only [] at hcz; go_simp; try with_reducible rfl)⟩) hS0 ?_
  go_simp
  refine wpAnyH_ready (rs := [3]) (by kernel_rfl) (by simp) ?_
  refine AllReadyH.cons rfl (fun K hK => ?_) (AllReadyH.nil)
  go_simp
  go_wp2_with (go_at_call 30; refine (err_any _ gr _ _ hS0.r).mono ?_; rintro e y1 ⟨rfl, rfl⟩)
  refine hK.out _ _ hS0 (fun _ => ?_)
  clear hK K
  refine wpAnyH_take (i := 8) (v := ?_) rfl (by kernel_rfl) (by kernel_rfl) (by kernel_rfl) (fun _ _ _ h => h) (Or.inl ⟨by kernel_rfl, by (intro wz hSz; go_simp; try with_reducible rfl)⟩) hS0 ?_
  go_simp
  refine wpAnyH_take (i := 9) (v := ?_) rfl (by kernel_rfl) (by kernel_rfl) (by kernel_rfl) (fun _ _ _ h => h) (Or.inl ⟨by kernel_rfl, by (intro wz hSz; go_simp; try with_reducible rfl)⟩) hS0 ?_
  go_simp
  refine wpAnyH_take (i := 10) (v := ?_) rfl (by kernel_rfl) (by kernel_rfl) (by kernel_rfl) (fun _ _ _ h => h) (Or.inl ⟨by kernel_rfl, by (intro wz hSz; go_simp; try with_reducible rfl)⟩) hS0 ?_
  go_simp
  refine wpAnyH_take (i := 11) (v := ?_) rfl (by kernel_rfl) (by kernel_rfl) (by kernel_rfl) (fun _ _ _ h => h) (Or.inl ⟨by kernel_rfl, by (intro wz hSz; go_simp; try with_reducible rfl)⟩) hS0 ?_
  go_simp
  refine wpAnyH_take (i := 13) (v := ?_) rfl (by kernel_rfl) (by kernel_rfl) (by kernel_rfl) (fun _ _ _ h => h) (Or.inl ⟨by kernel_rfl, by (intro wz hSz; go_simp; try with_reducible rfl)⟩) hS0 ?_
  go_simp
  refine wpAnyH_ready (rs := [12]) (by kernel_rfl) (by simp) ?_
  refine AllReadyH.cons rfl (fun K hK => ?_) (AllReadyH.nil)
  go_simp
  go_wp2_with (go_at_call 36; refine (left_any _ gr _ _ hS0.r).mono ?_; rintro e y2 ⟨rfl, rfl⟩; rw [← HLZ.out])
  refine hK.out _ _ hS0 (fun _ => ?_)
  clear hK K
  refine wpAnyH_ready (rs := [14]) (by kernel_rfl) (by simp) ?_
  refine AllReadyH.cons rfl (fun K hK => ?_) (AllReadyH.nil)
  go_simp
  go_wp2_with (go_at_call 55; refine (mleft_any g N a n c lb _ _ hS0.m).mono ?_; rintro e y3 ⟨rfl, hm3, ha3⟩; rw [← HLZ.out])
  have hS3 := hS0.right hm3 ha3
  clear hm3 ha3
  refine hK.out _ _ hS3 (fun _ => ?_)
  clear hK K
  refine wpAnyH_take (i := 15) (v := ?_) rfl (by kernel_rfl) (by kernel_rfl) (by kernel_rfl) (fun _ _ _ h => h) (Or.inl ⟨by kernel_rfl, by (intro wz hSz; go_simp; try with_reducible rfl)⟩) hS3 ?_
  go_simp
  refine wpAnyH_take (i := 16) (v := ?_) rfl (by kernel_rfl) (by kernel_rfl) (by kernel_rfl) (fun _ _ _ h => h) (Or.inl ⟨by kernel_rfl, by (intro wz hSz; go_simp; try with_reducible rfl)⟩) hS3 ?_
  go_simp
  refine wpAnyH_take (i := 17) (v := ?_) rfl (by kernel_rfl) (by kernel_rfl) (by kernel_rfl) (fun _ _ _ h => h) (Or.inl ⟨by kernel_rfl, by (intro wz hSz; go_simp; try with_reducible rfl)⟩) hS3 ?_
  go_simp
  refine wpAnyH_done (by kernel_rfl) ?_ _
  go_wp2
  go_ret
  exact ⟨rfl, _, hS3⟩

set_option maxRecDepth 100000 in
set_option maxHeartbeats 4000000 in
theorem reads_1 (p : Value) (gr B g N : Nat) (a : Option Addr) (n c : Nat) (lb : List UInt8) (s : St) (w0 w : World) (x : It) (hx : ItOk x) (hk : x.kind = 1) (h : Two p gr B g N a n c lb s s w0 w) :
    Calls Try.prog 15 #[p, .pointer (some ⟨g, 0, none⟩), .agg x.cells.toArray] w fun e w' => e = .returned (.bool true) ∧ ∃ t, Two p gr B g N a n c lb t t w0 w' := by
  obtain ⟨cs, hcs⟩ : ∃ cs, cs = x.cells.toArray := ⟨_, rfl⟩
  rw [← hcs]
  have HB := Lib.hid (show (w.alloc (.cells cs 33)).heap[w.heap.size]? = some (.cells cs 33) from heap_alloc_last w _)
  have HX := Lib.hid (fun (y : World) (hb : y.heap[w.heap.size]? = some (.cells cs 33)) => (box_facts (w := y) hx (by rw [← hcs]; exact hb)).1)
  have HT := Lib.hid (h.on (below_n1 w (.cells cs 33)))
  have hneg : w.heap.size ≠ g := fun e => by have := h.m.err.2.2; omega
  have hner : w.heap.size ≠ gr := fun e => by have := h.gl; omega
  obtain ⟨c0, -, -, -, -, -, c38⟩ := HX.out _ HB.out
  have hmm : -9223372036854775808 ≤ x.most ∧ x.most ≤ 9223372036854775807 := hx.2.2.2
  obtain ⟨kd, hkd⟩ : ∃ kd, kd = x.kind := ⟨_, rfl⟩
  obtain ⟨mo, hmo⟩ : ∃ mo, mo = x.most := ⟨_, rfl⟩
  rw [← hkd] at c0 hk HX
  rw [← hmo] at c38 HX hmm
  clear hcs h hkd hmo hx
  subst hk
  go_enter Try.func15, Try.ntmps15
  obtain ⟨z, hz⟩ : ∃ z : Int, z = ((numS s 2).1 : Nat) := ⟨_, rfl⟩
  have hzb : 0 ≤ z ∧ z ≤ 65535 := by have := numS_lt s 2; rw [hz]; omega
  have HZ := Lib.hid hz
  clear hz
  go_wp2_with fail
  refine (rhalf_any p gr s _ HT.out.r).mono ?_
  rintro e w1 ⟨rfl, hr, hA⟩
  rw [← HZ.out]
  have HT1 := Lib.hid (HT.out.left hr hA)
  clear hr hA
  go_wp2_with fail
  refine (mnum_any g N a n c lb s 2 (by omega) _ HT1.out.m).mono ?_
  rintro e w2 ⟨rfl, hm, hA⟩
  rw [← HZ.out]
  have HT2 := Lib.hid (HT1.out.right hm hA)
  clear hm hA
  obtain ⟨t, ht⟩ : ∃ t, t = (numS s 2).2 := ⟨_, rfl⟩
  rw [← ht] at HT2
  obtain ⟨tl, te⟩ := t
  obtain ⟨lz, hlz⟩ : ∃ lz : Nat, lz = leftS (tl, te) := ⟨_, rfl⟩
  have HLZ := Lib.hid hlz
  clear ht hlz
  go_wp2_with fail
  refine wp_region_held_drew (S := fun y => Two p gr B g N a n c lb (tl, te) (tl, te) w0 y) (by kernel_rfl) (HT2.out.on ((Below.refl _ _).drew)) (fun hS0 => ?_)
  refine wpAnyH_take (i := 0) (v := ?_) rfl (by kernel_rfl) (by kernel_rfl) (by kernel_rfl) (fun _ _ _ h => h) (Or.inl ⟨by kernel_rfl, by (intro wz hSz; go_simp; try with_reducible rfl)⟩) hS0 ?_
  go_simp
  refine wpAnyH_take (i := 1) (v := ?_) rfl (by kernel_rfl) (by kernel_rfl) (by kernel_rfl) (fun _ _ _ h => h) (Or.inl ⟨by kernel_rfl, by (intro wz hSz; go_simp; try with_reducible rfl)⟩) hS0 ?_
  go_simp
  refine wpAnyH_take (i := 2) (v := ?_) rfl (by kernel_rfl) (by kernel_rfl) (by kernel_rfl) (fun _ _ _ h => h) (Or.inl ⟨by kernel_rfl, by (intro wz hSz; go_simp; try with_reducible rfl)⟩) hS0 ?_
  go_simp
  refine wpAnyH_take (i := 4) (v := ?_) rfl (by kernel_rfl) (by kernel_rfl) (by kernel_rfl) (fun _ _ _ h => h) (Or.inl ⟨by kernel_rfl, by (intro wz hSz; go_simp; try with_reducible rfl)⟩) hS0 ?_
  go_simp
  refine wpAnyH_take (i := 5) (v := ?_) rfl (by kernel_rfl) (by kernel_rfl) (by kernel_rfl) (fun _ _ _ h => h) (Or.inl ⟨by kernel_rfl, by (intro wz hSz; go_simp; try with_reducible rfl)⟩) hS0 ?_
  go_simp
  refine wpAnyH_take (i := 6) (v := ?_) rfl (by kernel_rfl) (by kernel_rfl) (by kernel_rfl) (fun _ _ _ h => h) (Or.inl ⟨by kernel_rfl, by (intro wz hSz; go_simp; try with_reducible rfl)⟩) hS0 ?_
  go_simp
  refine wpAnyH_take (i := 7) (v := ?_) rfl (by kernel_rfl) (by kernel_rfl) (by kernel_rfl) (fun _ _ _ h => h) (Or.inl ⟨by kernel_rfl, by (intro wz hSz; have hcz := hSz.m.err.1; simp only [] at hcz; go_simp; try with_reducible rfl)⟩) hS0 ?_
  go_simp
  refine wpAnyH_ready (rs := [3]) (by kernel_rfl) (by simp) ?_
  refine AllReadyH.cons rfl (fun K hK => ?_) (AllReadyH.nil)
  go_simp
  go_wp2_with (go_at_call 30; refine (err_any _ gr _ _ hS0.r).mono ?_; rintro e y1 ⟨rfl, rfl⟩)
  refine hK.out _ _ hS0 (fun _ => ?_)
  clear hK K
  refine wpAnyH_take (i := 8) (v := ?_) rfl (by kernel_rfl) (by kernel_rfl) (by kernel_rfl) (fun _ _ _ h => h) (Or.inl ⟨by kernel_rfl, by (intro wz hSz; go_simp; try with_reducible rfl)⟩) hS0 ?_
  go_simp
  refine wpAnyH_take (i := 9) (v := ?_) rfl (by kernel_rfl) (by kernel_rfl) (by kernel_rfl) (fun _ _ _ h => h) (Or.inl ⟨by kernel_rfl, by (intro wz hSz; go_simp; try with_reducible rfl)⟩) hS0 ?_
  go_simp
  refine wpAnyH_take (i := 10) (v := ?_) rfl (by kernel_rfl) (by kernel_rfl) (by kernel_rfl) (fun _ _ _ h => h) (Or.inl ⟨by kernel_rfl, by (intro wz hSz; go_simp; try with_reducible rfl)⟩) hS0 ?_
  go_simp
  refine wpAnyH_take (i := 11) (v := ?_) rfl (by kernel_rfl) (by kernel_rfl) (by kernel_rfl) (fun _ _ _ h => h) (Or.inl ⟨by kernel_rfl, by (intro wz hSz; go_simp; try with_reducible rfl)⟩) hS0 ?_
  go_simp
  refine wpAnyH_take (i := 13) (v := ?_) rfl (by kernel_rfl) (by kernel_rfl) (by kernel_rfl) (fun _ _ _ h => h) (Or.inl ⟨by kernel_rfl, by (intro wz hSz; go_simp; try with_reducible rfl)⟩) hS0 ?_
  go_simp
  refine wpAnyH_ready (rs := [12]) (by kernel_rfl) (by simp) ?_
  refine AllReadyH.cons rfl (fun K hK => ?_) (AllReadyH.nil)
  go_simp
  go_wp2_with (go_at_call 36; refine (left_any _ gr _ _ hS0.r).mono ?_; rintro e y2 ⟨rfl, rfl⟩; rw [← HLZ.out])
  refine hK.out _ _ hS0 (fun _ => ?_)
  clear hK K
  refine wpAnyH_ready (rs := [14]) (by kernel_rfl) (by simp) ?_
  refine AllReadyH.cons rfl (fun K hK => ?_) (AllReadyH.nil)
  go_simp
  go_wp2_with (go_at_call 55; refine (mleft_any g N a n c lb _ _ hS0.m).mono ?_; rintro e y3 ⟨rfl, hm3, ha3⟩; rw [← HLZ.out])
  have hS3 := hS0.right hm3 ha3
  clear hm3 ha3
  refine hK.out _ _ hS3 (fun _ => ?_)
  clear hK K
  refine wpAnyH_take (i := 15) (v := ?_) rfl (by kernel_rfl) (by kernel_rfl) (by kernel_rfl) (fun _ _ _ h => h) (Or.inl ⟨by kernel_rfl, by (intro wz hSz; go_simp; try with_reducible rfl)⟩) hS3 ?_
  go_simp
  refine wpAnyH_take (i := 16) (v := ?_) rfl (by kernel_rfl) (by kernel_rfl) (by kernel_rfl) (fun _ _ _ h => h) (Or.inl ⟨by kernel_rfl, by (intro wz hSz; go_simp; try with_reducible rfl)⟩) hS3 ?_
  go_simp
  refine wpAnyH_take (i := 17) (v := ?_) rfl (by kernel_rfl) (by kernel_rfl) (by kernel_rfl) (fun _ _ _ h => h) (Or.inl ⟨by kernel_rfl, by (intro wz hSz; go_simp; try with_reducible rfl)⟩) hS3 ?_
  go_simp
  refine wpAnyH_done (by kernel_rfl) ?_ _
  go_wp2
  go_ret
  exact ⟨rfl, _, hS3⟩

set_option maxRecDepth 100000 in
set_option maxHeartbeats 4000000 in
theorem reads_2 (p : Value) (gr B g N : Nat) (a : Option Addr) (n c : Nat) (lb : List UInt8) (s : St) (w0 w : World) (x : It) (hx : ItOk x) (hk : x.kind = 2) (h : Two p gr B g N a n c lb s s w0 w) :
    Calls Try.prog 15 #[p, .pointer (some ⟨g, 0, none⟩), .agg x.cells.toArray] w fun e w' => e = .returned (.bool true) ∧ ∃ t, Two p gr B g N a n c lb t t w0 w' := by
  obtain ⟨cs, hcs⟩ : ∃ cs, cs = x.cells.toArray := ⟨_, rfl⟩
  rw [← hcs]
  have HB := Lib.hid (show (w.alloc (.cells cs 33)).heap[w.heap.size]? = some (.cells cs 33) from heap_alloc_last w _)
  have HX := Lib.hid (fun (y : World) (hb : y.heap[w.heap.size]? = some (.cells cs 33)) => (box_facts (w := y) hx (by rw [← hcs]; exact hb)).1)
  have HT := Lib.hid (h.on (below_n1 w (.cells cs 33)))
  have hneg : w.heap.size ≠ g := fun e => by have := h.m.err.2.2; omega
  have hner : w.heap.size ≠ gr := fun e => by have := h.gl; omega
  obtain ⟨c0, -, -, -, -, -, c38⟩ := HX.out _ HB.out
  have hmm : -9223372036854775808 ≤ x.most ∧ x.most ≤ 9223372036854775807 := hx.2.2.2
  obtain ⟨kd, hkd⟩ : ∃ kd, kd = x.kind := ⟨_, rfl⟩
  obtain ⟨mo, hmo⟩ : ∃ mo, mo = x.most := ⟨_, rfl⟩
  rw [← hkd] at c0 hk HX
  rw [← hmo] at c38 HX hmm
  clear hcs h hkd hmo hx
  subst hk
  go_enter Try.func15, Try.ntmps15
  obtain ⟨z, hz⟩ : ∃ z : Int, z = ((numS s 4).1 : Nat) := ⟨_, rfl⟩
  have hzb : 0 ≤ z ∧ z ≤ 4294967295 := by have := numS_lt s 4; rw [hz]; omega
  have HZ := Lib.hid hz
  clear hz
  go_wp2_with fail
  refine (rword_any p gr s _ HT.out.r).mono ?_
  rintro e w1 ⟨rfl, hr, hA⟩
  rw [← HZ.out]
  have HT1 := Lib.hid (HT.out.left hr hA)
  clear hr hA
  go_wp2_with fail
  refine (mnum_any g N a n c lb s 4 (by omega) _ HT1.out.m).mono ?_
  rintro e w2 ⟨rfl, hm, hA⟩
  rw [← HZ.out]
  have HT2 := Lib.hid (HT1.out.right hm hA)
  clear hm hA
  obtain ⟨t, ht⟩ : ∃ t, t = (numS s 4).2 := ⟨_, rfl⟩
  rw [← ht] at HT2
  obtain ⟨tl, te⟩ := t
  obtain ⟨lz, hlz⟩ : ∃ lz : Nat, lz = leftS (tl, te) := ⟨_, rfl⟩
  have HLZ := Lib.hid hlz
  clear ht hlz
  go_wp2_with fail
  refine wp_region_held_drew (S := fun y => Two p gr B g N a n c lb (tl, te) (tl, te) w0 y) (by kernel_rfl) (HT2.out.on ((Below.refl _ _).drew)) (fun hS0 => ?_)
  refine wpAnyH_take (i := 0) (v := ?_) rfl (by kernel_rfl) (by kernel_rfl) (by kernel_rfl) (fun _ _ _ h => h) (Or.inl ⟨by kernel_rfl, by (intro wz hSz; go_simp; try with_reducible rfl)⟩) hS0 ?_
  go_simp
  refine wpAnyH_take (i := 1) (v := ?_) rfl (by kernel_rfl) (by kernel_rfl) (by kernel_rfl) (fun _ _ _ h => h) (Or.inl ⟨by kernel_rfl, by (intro wz hSz; go_simp; try with_reducible rfl)⟩) hS0 ?_
  go_simp
  refine wpAnyH_take (i := 2) (v := ?_) rfl (by kernel_rfl) (by kernel_rfl) (by kernel_rfl) (fun _ _ _ h => h) (Or.inl ⟨by kernel_rfl, by (intro wz hSz; go_simp; try with_reducible rfl)⟩) hS0 ?_
  go_simp
  refine wpAnyH_take (i := 4) (v := ?_) rfl (by kernel_rfl) (by kernel_rfl) (by kernel_rfl) (fun _ _ _ h => h) (Or.inl ⟨by kernel_rfl, by (intro wz hSz; go_simp; try with_reducible rfl)⟩) hS0 ?_
  go_simp
  refine wpAnyH_take (i := 5) (v := ?_) rfl (by kernel_rfl) (by kernel_rfl) (by kernel_rfl) (fun _ _ _ h => h) (Or.inl ⟨by kernel_rfl, by (intro wz hSz; go_simp; try with_reducible rfl)⟩) hS0 ?_
  go_simp
  refine wpAnyH_take (i := 6) (v := ?_) rfl (by kernel_rfl) (by kernel_rfl) (by kernel_rfl) (fun _ _ _ h => h) (Or.inl ⟨by kernel_rfl, by (intro wz hSz; go_simp; try with_reducible rfl)⟩) hS0 ?_
  go_simp
  refine wpAnyH_take (i := 7) (v := ?_) rfl (by kernel_rfl) (by kernel_rfl) (by kernel_rfl) (fun _ _ _ h => h) (Or.inl ⟨by kernel_rfl, by (intro wz hSz; have hcz := hSz.m.err.1; simp only [] at hcz; go_simp; try with_reducible rfl)⟩) hS0 ?_
  go_simp
  refine wpAnyH_ready (rs := [3]) (by kernel_rfl) (by simp) ?_
  refine AllReadyH.cons rfl (fun K hK => ?_) (AllReadyH.nil)
  go_simp
  go_wp2_with (go_at_call 30; refine (err_any _ gr _ _ hS0.r).mono ?_; rintro e y1 ⟨rfl, rfl⟩)
  refine hK.out _ _ hS0 (fun _ => ?_)
  clear hK K
  refine wpAnyH_take (i := 8) (v := ?_) rfl (by kernel_rfl) (by kernel_rfl) (by kernel_rfl) (fun _ _ _ h => h) (Or.inl ⟨by kernel_rfl, by (intro wz hSz; go_simp; try with_reducible rfl)⟩) hS0 ?_
  go_simp
  refine wpAnyH_take (i := 9) (v := ?_) rfl (by kernel_rfl) (by kernel_rfl) (by kernel_rfl) (fun _ _ _ h => h) (Or.inl ⟨by kernel_rfl, by (intro wz hSz; go_simp; try with_reducible rfl)⟩) hS0 ?_
  go_simp
  refine wpAnyH_take (i := 10) (v := ?_) rfl (by kernel_rfl) (by kernel_rfl) (by kernel_rfl) (fun _ _ _ h => h) (Or.inl ⟨by kernel_rfl, by (intro wz hSz; go_simp; try with_reducible rfl)⟩) hS0 ?_
  go_simp
  refine wpAnyH_take (i := 11) (v := ?_) rfl (by kernel_rfl) (by kernel_rfl) (by kernel_rfl) (fun _ _ _ h => h) (Or.inl ⟨by kernel_rfl, by (intro wz hSz; go_simp; try with_reducible rfl)⟩) hS0 ?_
  go_simp
  refine wpAnyH_take (i := 13) (v := ?_) rfl (by kernel_rfl) (by kernel_rfl) (by kernel_rfl) (fun _ _ _ h => h) (Or.inl ⟨by kernel_rfl, by (intro wz hSz; go_simp; try with_reducible rfl)⟩) hS0 ?_
  go_simp
  refine wpAnyH_ready (rs := [12]) (by kernel_rfl) (by simp) ?_
  refine AllReadyH.cons rfl (fun K hK => ?_) (AllReadyH.nil)
  go_simp
  go_wp2_with (go_at_call 36; refine (left_any _ gr _ _ hS0.r).mono ?_; rintro e y2 ⟨rfl, rfl⟩; rw [← HLZ.out])
  refine hK.out _ _ hS0 (fun _ => ?_)
  clear hK K
  refine wpAnyH_ready (rs := [14]) (by kernel_rfl) (by simp) ?_
  refine AllReadyH.cons rfl (fun K hK => ?_) (AllReadyH.nil)
  go_simp
  go_wp2_with (go_at_call 55; refine (mleft_any g N a n c lb _ _ hS0.m).mono ?_; rintro e y3 ⟨rfl, hm3, ha3⟩; rw [← HLZ.out])
  have hS3 := hS0.right hm3 ha3
  clear hm3 ha3
  refine hK.out _ _ hS3 (fun _ => ?_)
  clear hK K
  refine wpAnyH_take (i := 15) (v := ?_) rfl (by kernel_rfl) (by kernel_rfl) (by kernel_rfl) (fun _ _ _ h => h) (Or.inl ⟨by kernel_rfl, by (intro wz hSz; go_simp; try with_reducible rfl)⟩) hS3 ?_
  go_simp
  refine wpAnyH_take (i := 16) (v := ?_) rfl (by kernel_rfl) (by kernel_rfl) (by kernel_rfl) (fun _ _ _ h => h) (Or.inl ⟨by kernel_rfl, by (intro wz hSz; go_simp; try with_reducible rfl)⟩) hS3 ?_
  go_simp
  refine wpAnyH_take (i := 17) (v := ?_) rfl (by kernel_rfl) (by kernel_rfl) (by kernel_rfl) (fun _ _ _ h => h) (Or.inl ⟨by kernel_rfl, by (intro wz hSz; go_simp; try with_reducible rfl)⟩) hS3 ?_
  go_simp
  refine wpAnyH_done (by kernel_rfl) ?_ _
  go_wp2
  go_ret
  exact ⟨rfl, _, hS3⟩

set_option maxRecDepth 100000 in
set_option maxHeartbeats 4000000 in
theorem reads_3 (p : Value) (gr B g N : Nat) (a : Option Addr) (n c : Nat) (lb : List UInt8) (s : St) (w0 w : World) (x : It) (hx : ItOk x) (hk : x.kind = 3) (h : Two p gr B g N a n c lb s s w0 w) :
    Calls Try.prog 15 #[p, .pointer (some ⟨g, 0, none⟩), .agg x.cells.toArray] w fun e w' => e = .returned (.bool true) ∧ ∃ t, Two p gr B g N a n c lb t t w0 w' := by
  obtain ⟨cs, hcs⟩ : ∃ cs, cs = x.cells.toArray := ⟨_, rfl⟩
  rw [← hcs]
  have HB := Lib.hid (show (w.alloc (.cells cs 33)).heap[w.heap.size]? = some (.cells cs 33) from heap_alloc_last w _)
  have HX := Lib.hid (fun (y : World) (hb : y.heap[w.heap.size]? = some (.cells cs 33)) => (box_facts (w := y) hx (by rw [← hcs]; exact hb)).1)
  have HT := Lib.hid (h.on (below_n1 w (.cells cs 33)))
  have hneg : w.heap.size ≠ g := fun e => by have := h.m.err.2.2; omega
  have hner : w.heap.size ≠ gr := fun e => by have := h.gl; omega
  obtain ⟨c0, -, -, -, -, -, c38⟩ := HX.out _ HB.out
  have hmm : -9223372036854775808 ≤ x.most ∧ x.most ≤ 9223372036854775807 := hx.2.2.2
  obtain ⟨kd, hkd⟩ : ∃ kd, kd = x.kind := ⟨_, rfl⟩
  obtain ⟨mo, hmo⟩ : ∃ mo, mo = x.most := ⟨_, rfl⟩
  rw [← hkd] at c0 hk HX
  rw [← hmo] at c38 HX hmm
  clear hcs h hkd hmo hx
  subst hk
  go_enter Try.func15, Try.ntmps15
  obtain ⟨z, hz⟩ : ∃ z : Int, z = ((numS s 8).1 : Nat) := ⟨_, rfl⟩
  have hzb : 0 ≤ z ∧ z ≤ 18446744073709551615 := by have := numS_lt s 8; rw [hz]; omega
  have HZ := Lib.hid hz
  clear hz
  go_wp2_with fail
  refine (rlong_any p gr s _ HT.out.r).mono ?_
  rintro e w1 ⟨rfl, hr, hA⟩
  rw [← HZ.out]
  have HT1 := Lib.hid (HT.out.left hr hA)
  clear hr hA
  go_wp2_with fail
  refine (mnum_any g N a n c lb s 8 (by omega) _ HT1.out.m).mono ?_
  rintro e w2 ⟨rfl, hm, hA⟩
  rw [← HZ.out]
  have HT2 := Lib.hid (HT1.out.right hm hA)
  clear hm hA
  obtain ⟨t, ht⟩ : ∃ t, t = (numS s 8).2 := ⟨_, rfl⟩
  rw [← ht] at HT2
  obtain ⟨tl, te⟩ := t
  obtain ⟨lz, hlz⟩ : ∃ lz : Nat, lz = leftS (tl, te) := ⟨_, rfl⟩
  have HLZ := Lib.hid hlz
  clear ht hlz
  go_wp2_with fail
  refine wp_region_held_drew (S := fun y => Two p gr B g N a n c lb (tl, te) (tl, te) w0 y) (by kernel_rfl) (HT2.out.on ((Below.refl _ _).drew)) (fun hS0 => ?_)
  refine wpAnyH_take (i := 0) (v := ?_) rfl (by kernel_rfl) (by kernel_rfl) (by kernel_rfl) (fun _ _ _ h => h) (Or.inl ⟨by kernel_rfl, by (intro wz hSz; go_simp; try with_reducible rfl)⟩) hS0 ?_
  go_simp
  refine wpAnyH_take (i := 1) (v := ?_) rfl (by kernel_rfl) (by kernel_rfl) (by kernel_rfl) (fun _ _ _ h => h) (Or.inl ⟨by kernel_rfl, by (intro wz hSz; go_simp; try with_reducible rfl)⟩) hS0 ?_
  go_simp
  refine wpAnyH_take (i := 2) (v := ?_) rfl (by kernel_rfl) (by kernel_rfl) (by kernel_rfl) (fun _ _ _ h => h) (Or.inl ⟨by kernel_rfl, by (intro wz hSz; go_simp; try with_reducible rfl)⟩) hS0 ?_
  go_simp
  refine wpAnyH_take (i := 4) (v := ?_) rfl (by kernel_rfl) (by kernel_rfl) (by kernel_rfl) (fun _ _ _ h => h) (Or.inl ⟨by kernel_rfl, by (intro wz hSz; go_simp; try with_reducible rfl)⟩) hS0 ?_
  go_simp
  refine wpAnyH_take (i := 5) (v := ?_) rfl (by kernel_rfl) (by kernel_rfl) (by kernel_rfl) (fun _ _ _ h => h) (Or.inl ⟨by kernel_rfl, by (intro wz hSz; go_simp; try with_reducible rfl)⟩) hS0 ?_
  go_simp
  refine wpAnyH_take (i := 6) (v := ?_) rfl (by kernel_rfl) (by kernel_rfl) (by kernel_rfl) (fun _ _ _ h => h) (Or.inl ⟨by kernel_rfl, by (intro wz hSz; go_simp; try with_reducible rfl)⟩) hS0 ?_
  go_simp
  refine wpAnyH_take (i := 7) (v := ?_) rfl (by kernel_rfl) (by kernel_rfl) (by kernel_rfl) (fun _ _ _ h => h) (Or.inl ⟨by kernel_rfl, by (intro wz hSz; have hcz := hSz.m.err.1; simp only [] at hcz; go_simp; try with_reducible rfl)⟩) hS0 ?_
  go_simp
  refine wpAnyH_ready (rs := [3]) (by kernel_rfl) (by simp) ?_
  refine AllReadyH.cons rfl (fun K hK => ?_) (AllReadyH.nil)
  go_simp
  go_wp2_with (go_at_call 30; refine (err_any _ gr _ _ hS0.r).mono ?_; rintro e y1 ⟨rfl, rfl⟩)
  refine hK.out _ _ hS0 (fun _ => ?_)
  clear hK K
  refine wpAnyH_take (i := 8) (v := ?_) rfl (by kernel_rfl) (by kernel_rfl) (by kernel_rfl) (fun _ _ _ h => h) (Or.inl ⟨by kernel_rfl, by (intro wz hSz; go_simp; try with_reducible rfl)⟩) hS0 ?_
  go_simp
  refine wpAnyH_take (i := 9) (v := ?_) rfl (by kernel_rfl) (by kernel_rfl) (by kernel_rfl) (fun _ _ _ h => h) (Or.inl ⟨by kernel_rfl, by (intro wz hSz; go_simp; try with_reducible rfl)⟩) hS0 ?_
  go_simp
  refine wpAnyH_take (i := 10) (v := ?_) rfl (by kernel_rfl) (by kernel_rfl) (by kernel_rfl) (fun _ _ _ h => h) (Or.inl ⟨by kernel_rfl, by (intro wz hSz; go_simp; try with_reducible rfl)⟩) hS0 ?_
  go_simp
  refine wpAnyH_take (i := 11) (v := ?_) rfl (by kernel_rfl) (by kernel_rfl) (by kernel_rfl) (fun _ _ _ h => h) (Or.inl ⟨by kernel_rfl, by (intro wz hSz; go_simp; try with_reducible rfl)⟩) hS0 ?_
  go_simp
  refine wpAnyH_take (i := 13) (v := ?_) rfl (by kernel_rfl) (by kernel_rfl) (by kernel_rfl) (fun _ _ _ h => h) (Or.inl ⟨by kernel_rfl, by (intro wz hSz; go_simp; try with_reducible rfl)⟩) hS0 ?_
  go_simp
  refine wpAnyH_ready (rs := [12]) (by kernel_rfl) (by simp) ?_
  refine AllReadyH.cons rfl (fun K hK => ?_) (AllReadyH.nil)
  go_simp
  go_wp2_with (go_at_call 36; refine (left_any _ gr _ _ hS0.r).mono ?_; rintro e y2 ⟨rfl, rfl⟩; rw [← HLZ.out])
  refine hK.out _ _ hS0 (fun _ => ?_)
  clear hK K
  refine wpAnyH_ready (rs := [14]) (by kernel_rfl) (by simp) ?_
  refine AllReadyH.cons rfl (fun K hK => ?_) (AllReadyH.nil)
  go_simp
  go_wp2_with (go_at_call 55; refine (mleft_any g N a n c lb _ _ hS0.m).mono ?_; rintro e y3 ⟨rfl, hm3, ha3⟩; rw [← HLZ.out])
  have hS3 := hS0.right hm3 ha3
  clear hm3 ha3
  refine hK.out _ _ hS3 (fun _ => ?_)
  clear hK K
  refine wpAnyH_take (i := 15) (v := ?_) rfl (by kernel_rfl) (by kernel_rfl) (by kernel_rfl) (fun _ _ _ h => h) (Or.inl ⟨by kernel_rfl, by (intro wz hSz; go_simp; try with_reducible rfl)⟩) hS3 ?_
  go_simp
  refine wpAnyH_take (i := 16) (v := ?_) rfl (by kernel_rfl) (by kernel_rfl) (by kernel_rfl) (fun _ _ _ h => h) (Or.inl ⟨by kernel_rfl, by (intro wz hSz; go_simp; try with_reducible rfl)⟩) hS3 ?_
  go_simp
  refine wpAnyH_take (i := 17) (v := ?_) rfl (by kernel_rfl) (by kernel_rfl) (by kernel_rfl) (fun _ _ _ h => h) (Or.inl ⟨by kernel_rfl, by (intro wz hSz; go_simp; try with_reducible rfl)⟩) hS3 ?_
  go_simp
  refine wpAnyH_done (by kernel_rfl) ?_ _
  go_wp2
  go_ret
  exact ⟨rfl, _, hS3⟩

set_option maxRecDepth 100000 in
set_option maxHeartbeats 4000000 in
theorem reads_4 (p : Value) (gr B g N : Nat) (a : Option Addr) (n c : Nat) (lb : List UInt8) (s : St) (w0 w : World) (x : It) (hx : ItOk x) (hk : x.kind = 4) (h : Two p gr B g N a n c lb s s w0 w) :
    Calls Try.prog 15 #[p, .pointer (some ⟨g, 0, none⟩), .agg x.cells.toArray] w fun e w' => e = .returned (.bool true) ∧ ∃ t, Two p gr B g N a n c lb t t w0 w' := by
  obtain ⟨cs, hcs⟩ : ∃ cs, cs = x.cells.toArray := ⟨_, rfl⟩
  rw [← hcs]
  have HB := Lib.hid (show (w.alloc (.cells cs 33)).heap[w.heap.size]? = some (.cells cs 33) from heap_alloc_last w _)
  have HX := Lib.hid (fun (y : World) (hb : y.heap[w.heap.size]? = some (.cells cs 33)) => (box_facts (w := y) hx (by rw [← hcs]; exact hb)).1)
  have HT := Lib.hid (h.on (below_n1 w (.cells cs 33)))
  have hneg : w.heap.size ≠ g := fun e => by have := h.m.err.2.2; omega
  have hner : w.heap.size ≠ gr := fun e => by have := h.gl; omega
  obtain ⟨c0, -, -, -, -, -, c38⟩ := HX.out _ HB.out
  have hmm : -9223372036854775808 ≤ x.most ∧ x.most ≤ 9223372036854775807 := hx.2.2.2
  obtain ⟨kd, hkd⟩ : ∃ kd, kd = x.kind := ⟨_, rfl⟩
  obtain ⟨mo, hmo⟩ : ∃ mo, mo = x.most := ⟨_, rfl⟩
  rw [← hkd] at c0 hk HX
  rw [← hmo] at c38 HX hmm
  clear hcs h hkd hmo hx
  subst hk
  go_enter Try.func15, Try.ntmps15
  obtain ⟨z, hz⟩ : ∃ z : Int, z = (fixS s).1 := ⟨_, rfl⟩
  have HZ := Lib.hid hz
  clear hz
  go_wp2_with fail
  refine (rfix_any p gr s _ HT.out.r).mono ?_
  rintro e w1 ⟨rfl, hr, hA⟩
  rw [← HZ.out]
  have HT1 := Lib.hid (HT.out.left hr hA)
  clear hr hA
  go_wp2_with fail
  refine (mfix_any g N a n c lb s _ HT1.out.m).mono ?_
  rintro e w2 ⟨rfl, hm, hA⟩
  rw [← HZ.out]
  have HT2 := Lib.hid (HT1.out.right hm hA)
  clear hm hA
  obtain ⟨t, ht⟩ : ∃ t, t = (fixS s).2 := ⟨_, rfl⟩
  rw [← ht] at HT2
  obtain ⟨tl, te⟩ := t
  obtain ⟨lz, hlz⟩ : ∃ lz : Nat, lz = leftS (tl, te) := ⟨_, rfl⟩
  have HLZ := Lib.hid hlz
  clear ht hlz
  go_wp2_with fail
  refine wp_region_held_drew (S := fun y => Two p gr B g N a n c lb (tl, te) (tl, te) w0 y) (by kernel_rfl) (HT2.out.on ((Below.refl _ _).drew)) (fun hS0 => ?_)
  refine wpAnyH_take (i := 0) (v := ?_) rfl (by kernel_rfl) (by kernel_rfl) (by kernel_rfl) (fun _ _ _ h => h) (Or.inl ⟨by kernel_rfl, by (intro wz hSz; go_simp; try with_reducible rfl)⟩) hS0 ?_
  go_simp
  refine wpAnyH_take (i := 1) (v := ?_) rfl (by kernel_rfl) (by kernel_rfl) (by kernel_rfl) (fun _ _ _ h => h) (Or.inl ⟨by kernel_rfl, by (intro wz hSz; go_simp; try with_reducible rfl)⟩) hS0 ?_
  go_simp
  refine wpAnyH_take (i := 2) (v := ?_) rfl (by kernel_rfl) (by kernel_rfl) (by kernel_rfl) (fun _ _ _ h => h) (Or.inl ⟨by kernel_rfl, by (intro wz hSz; go_simp; try with_reducible rfl)⟩) hS0 ?_
  go_simp
  refine wpAnyH_take (i := 4) (v := ?_) rfl (by kernel_rfl) (by kernel_rfl) (by kernel_rfl) (fun _ _ _ h => h) (Or.inl ⟨by kernel_rfl, by (intro wz hSz; go_simp; try with_reducible rfl)⟩) hS0 ?_
  go_simp
  refine wpAnyH_take (i := 5) (v := ?_) rfl (by kernel_rfl) (by kernel_rfl) (by kernel_rfl) (fun _ _ _ h => h) (Or.inl ⟨by kernel_rfl, by (intro wz hSz; go_simp; try with_reducible rfl)⟩) hS0 ?_
  go_simp
  refine wpAnyH_take (i := 6) (v := ?_) rfl (by kernel_rfl) (by kernel_rfl) (by kernel_rfl) (fun _ _ _ h => h) (Or.inl ⟨by kernel_rfl, by (intro wz hSz; go_simp; try with_reducible rfl)⟩) hS0 ?_
  go_simp
  refine wpAnyH_take (i := 7) (v := ?_) rfl (by kernel_rfl) (by kernel_rfl) (by kernel_rfl) (fun _ _ _ h => h) (Or.inl ⟨by kernel_rfl, by (intro wz hSz; have hcz := hSz.m.err.1; simp only [] at hcz; go_simp; try with_reducible rfl)⟩) hS0 ?_
  go_simp
  refine wpAnyH_ready (rs := [3]) (by kernel_rfl) (by simp) ?_
  refine AllReadyH.cons rfl (fun K hK => ?_) (AllReadyH.nil)
  go_simp
  go_wp2_with (go_at_call 30; refine (err_any _ gr _ _ hS0.r).mono ?_; rintro e y1 ⟨rfl, rfl⟩)
  refine hK.out _ _ hS0 (fun _ => ?_)
  clear hK K
  refine wpAnyH_take (i := 8) (v := ?_) rfl (by kernel_rfl) (by kernel_rfl) (by kernel_rfl) (fun _ _ _ h => h) (Or.inl ⟨by kernel_rfl, by (intro wz hSz; go_simp; try with_reducible rfl)⟩) hS0 ?_
  go_simp
  refine wpAnyH_take (i := 9) (v := ?_) rfl (by kernel_rfl) (by kernel_rfl) (by kernel_rfl) (fun _ _ _ h => h) (Or.inl ⟨by kernel_rfl, by (intro wz hSz; go_simp; try with_reducible rfl)⟩) hS0 ?_
  go_simp
  refine wpAnyH_take (i := 10) (v := ?_) rfl (by kernel_rfl) (by kernel_rfl) (by kernel_rfl) (fun _ _ _ h => h) (Or.inl ⟨by kernel_rfl, by (intro wz hSz; go_simp; try with_reducible rfl)⟩) hS0 ?_
  go_simp
  refine wpAnyH_take (i := 11) (v := ?_) rfl (by kernel_rfl) (by kernel_rfl) (by kernel_rfl) (fun _ _ _ h => h) (Or.inl ⟨by kernel_rfl, by (intro wz hSz; go_simp; try with_reducible rfl)⟩) hS0 ?_
  go_simp
  refine wpAnyH_take (i := 13) (v := ?_) rfl (by kernel_rfl) (by kernel_rfl) (by kernel_rfl) (fun _ _ _ h => h) (Or.inl ⟨by kernel_rfl, by (intro wz hSz; go_simp; try with_reducible rfl)⟩) hS0 ?_
  go_simp
  refine wpAnyH_ready (rs := [12]) (by kernel_rfl) (by simp) ?_
  refine AllReadyH.cons rfl (fun K hK => ?_) (AllReadyH.nil)
  go_simp
  go_wp2_with (go_at_call 36; refine (left_any _ gr _ _ hS0.r).mono ?_; rintro e y2 ⟨rfl, rfl⟩; rw [← HLZ.out])
  refine hK.out _ _ hS0 (fun _ => ?_)
  clear hK K
  refine wpAnyH_ready (rs := [14]) (by kernel_rfl) (by simp) ?_
  refine AllReadyH.cons rfl (fun K hK => ?_) (AllReadyH.nil)
  go_simp
  go_wp2_with (go_at_call 55; refine (mleft_any g N a n c lb _ _ hS0.m).mono ?_; rintro e y3 ⟨rfl, hm3, ha3⟩; rw [← HLZ.out])
  have hS3 := hS0.right hm3 ha3
  clear hm3 ha3
  refine hK.out _ _ hS3 (fun _ => ?_)
  clear hK K
  refine wpAnyH_take (i := 15) (v := ?_) rfl (by kernel_rfl) (by kernel_rfl) (by kernel_rfl) (fun _ _ _ h => h) (Or.inl ⟨by kernel_rfl, by (intro wz hSz; go_simp; try with_reducible rfl)⟩) hS3 ?_
  go_simp
  refine wpAnyH_take (i := 16) (v := ?_) rfl (by kernel_rfl) (by kernel_rfl) (by kernel_rfl) (fun _ _ _ h => h) (Or.inl ⟨by kernel_rfl, by (intro wz hSz; go_simp; try with_reducible rfl)⟩) hS3 ?_
  go_simp
  refine wpAnyH_take (i := 17) (v := ?_) rfl (by kernel_rfl) (by kernel_rfl) (by kernel_rfl) (fun _ _ _ h => h) (Or.inl ⟨by kernel_rfl, by (intro wz hSz; go_simp; try with_reducible rfl)⟩) hS3 ?_
  go_simp
  refine wpAnyH_done (by kernel_rfl) ?_ _
  go_wp2
  go_ret
  exact ⟨rfl, _, hS3⟩

set_option maxRecDepth 100000 in
set_option maxHeartbeats 4000000 in
theorem reads_9 (p : Value) (gr B g N : Nat) (a : Option Addr) (n c : Nat) (lb : List UInt8) (s : St) (w0 w : World) (x : It) (hx : ItOk x) (hk : x.kind = 9) (h : Two p gr B g N a n c lb s s w0 w) :
    Calls Try.prog 15 #[p, .pointer (some ⟨g, 0, none⟩), .agg x.cells.toArray] w fun e w' => e = .returned (.bool true) ∧ ∃ t, Two p gr B g N a n c lb t t w0 w' := by
  obtain ⟨cs, hcs⟩ : ∃ cs, cs = x.cells.toArray := ⟨_, rfl⟩
  rw [← hcs]
  have HB := Lib.hid (show (w.alloc (.cells cs 33)).heap[w.heap.size]? = some (.cells cs 33) from heap_alloc_last w _)
  have HX := Lib.hid (fun (y : World) (hb : y.heap[w.heap.size]? = some (.cells cs 33)) => (box_facts (w := y) hx (by rw [← hcs]; exact hb)).1)
  have HT := Lib.hid (h.on (below_n1 w (.cells cs 33)))
  have hneg : w.heap.size ≠ g := fun e => by have := h.m.err.2.2; omega
  have hner : w.heap.size ≠ gr := fun e => by have := h.gl; omega
  obtain ⟨c0, -, -, -, -, -, c38⟩ := HX.out _ HB.out
  have hmm : -9223372036854775808 ≤ x.most ∧ x.most ≤ 9223372036854775807 := hx.2.2.2
  obtain ⟨kd, hkd⟩ : ∃ kd, kd = x.kind := ⟨_, rfl⟩
  obtain ⟨mo, hmo⟩ : ∃ mo, mo = x.most := ⟨_, rfl⟩
  rw [← hkd] at c0 hk HX
  rw [← hmo] at c38 HX hmm
  clear hcs h hkd hmo hx
  subst hk
  go_enter Try.func15, Try.ntmps15
  obtain ⟨z, hz⟩ : ∃ z : Int, z = small16 (numS s 2).1 := ⟨_, rfl⟩
  have HZ := Lib.hid hz
  clear hz
  go_wp2_with fail
  refine (rsmall_any p gr s _ HT.out.r).mono ?_
  rintro e w1 ⟨rfl, hr, hA⟩
  rw [← HZ.out]
  have HT1 := Lib.hid (HT.out.left hr hA)
  clear hr hA
  go_wp2_with fail
  refine (msmall_any g N a n c lb s _ HT1.out.m).mono ?_
  rintro e w2 ⟨rfl, hm, hA⟩
  rw [← HZ.out]
  have HT2 := Lib.hid (HT1.out.right hm hA)
  clear hm hA
  obtain ⟨t, ht⟩ : ∃ t, t = (numS s 2).2 := ⟨_, rfl⟩
  rw [← ht] at HT2
  obtain ⟨tl, te⟩ := t
  obtain ⟨lz, hlz⟩ : ∃ lz : Nat, lz = leftS (tl, te) := ⟨_, rfl⟩
  have HLZ := Lib.hid hlz
  clear ht hlz
  go_wp2_with fail
  refine wp_region_held_drew (S := fun y => Two p gr B g N a n c lb (tl, te) (tl, te) w0 y) (by kernel_rfl) (HT2.out.on ((Below.refl _ _).drew)) (fun hS0 => ?_)
  refine wpAnyH_take (i := 0) (v := ?_) rfl (by kernel_rfl) (by kernel_rfl) (by kernel_rfl) (fun _ _ _ h => h) (Or.inl ⟨by kernel_rfl, by (intro wz hSz; go_simp; try with_reducible rfl)⟩) hS0 ?_
  go_simp
  refine wpAnyH_take (i := 1) (v := ?_) rfl (by kernel_rfl) (by kernel_rfl) (by kernel_rfl) (fun _ _ _ h => h) (Or.inl ⟨by kernel_rfl, by (intro wz hSz; go_simp; try with_reducible rfl)⟩) hS0 ?_
  go_simp
  refine wpAnyH_take (i := 2) (v := ?_) rfl (by kernel_rfl) (by kernel_rfl) (by kernel_rfl) (fun _ _ _ h => h) (Or.inl ⟨by kernel_rfl, by (intro wz hSz; go_simp; try with_reducible rfl)⟩) hS0 ?_
  go_simp
  refine wpAnyH_take (i := 4) (v := ?_) rfl (by kernel_rfl) (by kernel_rfl) (by kernel_rfl) (fun _ _ _ h => h) (Or.inl ⟨by kernel_rfl, by (intro wz hSz; go_simp; try with_reducible rfl)⟩) hS0 ?_
  go_simp
  refine wpAnyH_take (i := 5) (v := ?_) rfl (by kernel_rfl) (by kernel_rfl) (by kernel_rfl) (fun _ _ _ h => h) (Or.inl ⟨by kernel_rfl, by (intro wz hSz; go_simp; try with_reducible rfl)⟩) hS0 ?_
  go_simp
  refine wpAnyH_take (i := 6) (v := ?_) rfl (by kernel_rfl) (by kernel_rfl) (by kernel_rfl) (fun _ _ _ h => h) (Or.inl ⟨by kernel_rfl, by (intro wz hSz; go_simp; try with_reducible rfl)⟩) hS0 ?_
  go_simp
  refine wpAnyH_take (i := 7) (v := ?_) rfl (by kernel_rfl) (by kernel_rfl) (by kernel_rfl) (fun _ _ _ h => h) (Or.inl ⟨by kernel_rfl, by (intro wz hSz; have hcz := hSz.m.err.1; simp only [] at hcz; go_simp; try with_reducible rfl)⟩) hS0 ?_
  go_simp
  refine wpAnyH_ready (rs := [3]) (by kernel_rfl) (by simp) ?_
  refine AllReadyH.cons rfl (fun K hK => ?_) (AllReadyH.nil)
  go_simp
  go_wp2_with (go_at_call 30; refine (err_any _ gr _ _ hS0.r).mono ?_; rintro e y1 ⟨rfl, rfl⟩)
  refine hK.out _ _ hS0 (fun _ => ?_)
  clear hK K
  refine wpAnyH_take (i := 8) (v := ?_) rfl (by kernel_rfl) (by kernel_rfl) (by kernel_rfl) (fun _ _ _ h => h) (Or.inl ⟨by kernel_rfl, by (intro wz hSz; go_simp; try with_reducible rfl)⟩) hS0 ?_
  go_simp
  refine wpAnyH_take (i := 9) (v := ?_) rfl (by kernel_rfl) (by kernel_rfl) (by kernel_rfl) (fun _ _ _ h => h) (Or.inl ⟨by kernel_rfl, by (intro wz hSz; go_simp; try with_reducible rfl)⟩) hS0 ?_
  go_simp
  refine wpAnyH_take (i := 10) (v := ?_) rfl (by kernel_rfl) (by kernel_rfl) (by kernel_rfl) (fun _ _ _ h => h) (Or.inl ⟨by kernel_rfl, by (intro wz hSz; go_simp; try with_reducible rfl)⟩) hS0 ?_
  go_simp
  refine wpAnyH_take (i := 11) (v := ?_) rfl (by kernel_rfl) (by kernel_rfl) (by kernel_rfl) (fun _ _ _ h => h) (Or.inl ⟨by kernel_rfl, by (intro wz hSz; go_simp; try with_reducible rfl)⟩) hS0 ?_
  go_simp
  refine wpAnyH_take (i := 13) (v := ?_) rfl (by kernel_rfl) (by kernel_rfl) (by kernel_rfl) (fun _ _ _ h => h) (Or.inl ⟨by kernel_rfl, by (intro wz hSz; go_simp; try with_reducible rfl)⟩) hS0 ?_
  go_simp
  refine wpAnyH_ready (rs := [12]) (by kernel_rfl) (by simp) ?_
  refine AllReadyH.cons rfl (fun K hK => ?_) (AllReadyH.nil)
  go_simp
  go_wp2_with (go_at_call 36; refine (left_any _ gr _ _ hS0.r).mono ?_; rintro e y2 ⟨rfl, rfl⟩; rw [← HLZ.out])
  refine hK.out _ _ hS0 (fun _ => ?_)
  clear hK K
  refine wpAnyH_ready (rs := [14]) (by kernel_rfl) (by simp) ?_
  refine AllReadyH.cons rfl (fun K hK => ?_) (AllReadyH.nil)
  go_simp
  go_wp2_with (go_at_call 55; refine (mleft_any g N a n c lb _ _ hS0.m).mono ?_; rintro e y3 ⟨rfl, hm3, ha3⟩; rw [← HLZ.out])
  have hS3 := hS0.right hm3 ha3
  clear hm3 ha3
  refine hK.out _ _ hS3 (fun _ => ?_)
  clear hK K
  refine wpAnyH_take (i := 15) (v := ?_) rfl (by kernel_rfl) (by kernel_rfl) (by kernel_rfl) (fun _ _ _ h => h) (Or.inl ⟨by kernel_rfl, by (intro wz hSz; go_simp; try with_reducible rfl)⟩) hS3 ?_
  go_simp
  refine wpAnyH_take (i := 16) (v := ?_) rfl (by kernel_rfl) (by kernel_rfl) (by kernel_rfl) (fun _ _ _ h => h) (Or.inl ⟨by kernel_rfl, by (intro wz hSz; go_simp; try with_reducible rfl)⟩) hS3 ?_
  go_simp
  refine wpAnyH_take (i := 17) (v := ?_) rfl (by kernel_rfl) (by kernel_rfl) (by kernel_rfl) (fun _ _ _ h => h) (Or.inl ⟨by kernel_rfl, by (intro wz hSz; go_simp; try with_reducible rfl)⟩) hS3 ?_
  go_simp
  refine wpAnyH_done (by kernel_rfl) ?_ _
  go_wp2
  go_ret
  exact ⟨rfl, _, hS3⟩

set_option maxRecDepth 100000 in
set_option maxHeartbeats 4000000 in
theorem reads_other (p : Value) (gr B g N : Nat) (a : Option Addr) (n c : Nat) (lb : List UInt8) (s : St) (w0 w : World) (x : It) (hx : ItOk x) (hk : x.kind < 0 ∨ 10 < x.kind) (h : Two p gr B g N a n c lb s s w0 w) :
    Calls Try.prog 15 #[p, .pointer (some ⟨g, 0, none⟩), .agg x.cells.toArray] w fun e w' => e = .returned (.bool true) ∧ ∃ t, Two p gr B g N a n c lb t t w0 w' := by
  obtain ⟨cs, hcs⟩ : ∃ cs, cs = x.cells.toArray := ⟨_, rfl⟩
  rw [← hcs]
  have HB := Lib.hid (show (w.alloc (.cells cs 33)).heap[w.heap.size]? = some (.cells cs 33) from heap_alloc_last w _)
  have HX := Lib.hid (fun (y : World) (hb : y.heap[w.heap.size]? = some (.cells cs 33)) => (box_facts (w := y) hx (by rw [← hcs]; exact hb)).1)
  have HT := Lib.hid (h.on (below_n1 w (.cells cs 33)))
  have hneg : w.heap.size ≠ g := fun e => by have := h.m.err.2.2; omega
  have hner : w.heap.size ≠ gr := fun e => by have := h.gl; omega
  obtain ⟨c0, -, -, -, -, -, c38⟩ := HX.out _ HB.out
  have hmm : -9223372036854775808 ≤ x.most ∧ x.most ≤ 9223372036854775807 := hx.2.2.2
  obtain ⟨kd, hkd⟩ : ∃ kd, kd = x.kind := ⟨_, rfl⟩
  obtain ⟨mo, hmo⟩ : ∃ mo, mo = x.most := ⟨_, rfl⟩
  rw [← hkd] at c0 hk HX
  rw [← hmo] at c38 HX hmm
  clear hcs h hkd hmo hx
  have e0 : (kd == 0) = false := by simp; omega
  have e1 : (kd == 1) = false := by simp; omega
  have e2 : (kd == 2) = false := by simp; omega
  have e3 : (kd == 3) = false := by simp; omega
  have e4 : (kd == 4) = false := by simp; omega
  have e5 : (kd == 5) = false := by simp; omega
  have e6 : (kd == 6) = false := by simp; omega
  have e7 : (kd == 7) = false := by simp; omega
  have e8 : (kd == 8) = false := by simp; omega
  have e9 : (kd == 9) = false := by simp; omega
  have e10 : (kd == 10) = false := by simp; omega
  go_enter Try.func15, Try.ntmps15
  obtain ⟨t, ht⟩ : ∃ t, t = s := ⟨_, rfl⟩
  rw [← ht] at HT
  obtain ⟨tl, te⟩ := t
  obtain ⟨lz, hlz⟩ : ∃ lz : Nat, lz = leftS (tl, te) := ⟨_, rfl⟩
  have HLZ := Lib.hid hlz
  clear ht hlz
  go_wp2_with fail
  refine wp_region_held_drew (S := fun y => Two p gr B g N a n c lb (tl, te) (tl, te) w0 y) (by kernel_rfl) (HT.out.on ((Below.refl _ _).drew)) (fun hS0 => ?_)
  refine wpAnyH_take (i := 0) (v := ?_) rfl (by kernel_rfl) (by kernel_rfl) (by kernel_rfl) (fun _ _ _ h => h) (Or.inl ⟨by kernel_rfl, by (intro wz hSz; go_simp; try with_reducible rfl)⟩) hS0 ?_
  go_simp
  refine wpAnyH_take (i := 1) (v := ?_) rfl (by kernel_rfl) (by kernel_rfl) (by kernel_rfl) (fun _ _ _ h => h) (Or.inl ⟨by kernel_rfl, by (intro wz hSz; go_simp; try with_reducible rfl)⟩) hS0 ?_
  go_simp
  refine wpAnyH_take (i := 2) (v := ?_) rfl (by kernel_rfl) (by kernel_rfl) (by kernel_rfl) (fun _ _ _ h => h) (Or.inl ⟨by kernel_rfl, by (intro wz hSz; go_simp; try with_reducible rfl)⟩) hS0 ?_
  go_simp
  refine wpAnyH_take (i := 4) (v := ?_) rfl (by kernel_rfl) (by kernel_rfl) (by kernel_rfl) (fun _ _ _ h => h) (Or.inl ⟨by kernel_rfl, by (intro wz hSz; go_simp; try with_reducible rfl)⟩) hS0 ?_
  go_simp
  refine wpAnyH_take (i := 5) (v := ?_) rfl (by kernel_rfl) (by kernel_rfl) (by kernel_rfl) (fun _ _ _ h => h) (Or.inl ⟨by kernel_rfl, by (intro wz hSz; go_simp; try with_reducible rfl)⟩) hS0 ?_
  go_simp
  refine wpAnyH_take (i := 6) (v := ?_) rfl (by kernel_rfl) (by kernel_rfl) (by kernel_rfl) (fun _ _ _ h => h) (Or.inl ⟨by kernel_rfl, by (intro wz hSz; go_simp; try with_reducible rfl)⟩) hS0 ?_
  go_simp
  refine wpAnyH_take (i := 7) (v := ?_) rfl (by kernel_rfl) (by kernel_rfl) (by kernel_rfl) (fun _ _ _ h => h) (Or.inl ⟨by kernel_rfl, by (intro wz hSz; have hcz := hSz.m.err.1; simp only [] at hcz; go_simp; try with_reducible rfl)⟩) hS0 ?_
  go_simp
  refine wpAnyH_ready (rs := [3]) (by kernel_rfl) (by simp) ?_
  refine AllReadyH.cons rfl (fun K hK => ?_) (AllReadyH.nil)
  go_simp
  go_wp2_with (go_at_call 30; refine (err_any _ gr _ _ hS0.r).mono ?_; rintro e y1 ⟨rfl, rfl⟩)
  refine hK.out _ _ hS0 (fun _ => ?_)
  clear hK K
  refine wpAnyH_take (i := 8) (v := ?_) rfl (by kernel_rfl) (by kernel_rfl) (by kernel_rfl) (fun _ _ _ h => h) (Or.inl ⟨by kernel_rfl, by (intro wz hSz; go_simp; try with_reducible rfl)⟩) hS0 ?_
  go_simp
  refine wpAnyH_take (i := 9) (v := ?_) rfl (by kernel_rfl) (by kernel_rfl) (by kernel_rfl) (fun _ _ _ h => h) (Or.inl ⟨by kernel_rfl, by (intro wz hSz; go_simp; try with_reducible rfl)⟩) hS0 ?_
  go_simp
  refine wpAnyH_take (i := 10) (v := ?_) rfl (by kernel_rfl) (by kernel_rfl) (by kernel_rfl) (fun _ _ _ h => h) (Or.inl ⟨by kernel_rfl, by (intro wz hSz; go_simp; try with_reducible rfl)⟩) hS0 ?_
  go_simp
  refine wpAnyH_take (i := 11) (v := ?_) rfl (by kernel_rfl) (by kernel_rfl) (by kernel_rfl) (fun _ _ _ h => h) (Or.inl ⟨by kernel_rfl, by (intro wz hSz; go_simp; try with_reducible rfl)⟩) hS0 ?_
  go_simp
  refine wpAnyH_take (i := 13) (v := ?_) rfl (by kernel_rfl) (by kernel_rfl) (by kernel_rfl) (fun _ _ _ h => h) (Or.inl ⟨by kernel_rfl, by (intro wz hSz; go_simp; try with_reducible rfl)⟩) hS0 ?_
  go_simp
  refine wpAnyH_ready (rs := [12]) (by kernel_rfl) (by simp) ?_
  refine AllReadyH.cons rfl (fun K hK => ?_) (AllReadyH.nil)
  go_simp
  go_wp2_with (go_at_call 36; refine (left_any _ gr _ _ hS0.r).mono ?_; rintro e y2 ⟨rfl, rfl⟩; rw [← HLZ.out])
  refine hK.out _ _ hS0 (fun _ => ?_)
  clear hK K
  refine wpAnyH_ready (rs := [14]) (by kernel_rfl) (by simp) ?_
  refine AllReadyH.cons rfl (fun K hK => ?_) (AllReadyH.nil)
  go_simp
  go_wp2_with (go_at_call 55; refine (mleft_any g N a n c lb _ _ hS0.m).mono ?_; rintro e y3 ⟨rfl, hm3, ha3⟩; rw [← HLZ.out])
  have hS3 := hS0.right hm3 ha3
  clear hm3 ha3
  refine hK.out _ _ hS3 (fun _ => ?_)
  clear hK K
  refine wpAnyH_take (i := 15) (v := ?_) rfl (by kernel_rfl) (by kernel_rfl) (by kernel_rfl) (fun _ _ _ h => h) (Or.inl ⟨by kernel_rfl, by (intro wz hSz; go_simp; try with_reducible rfl)⟩) hS3 ?_
  go_simp
  refine wpAnyH_take (i := 16) (v := ?_) rfl (by kernel_rfl) (by kernel_rfl) (by kernel_rfl) (fun _ _ _ h => h) (Or.inl ⟨by kernel_rfl, by (intro wz hSz; go_simp; try with_reducible rfl)⟩) hS3 ?_
  go_simp
  refine wpAnyH_take (i := 17) (v := ?_) rfl (by kernel_rfl) (by kernel_rfl) (by kernel_rfl) (fun _ _ _ h => h) (Or.inl ⟨by kernel_rfl, by (intro wz hSz; go_simp; try with_reducible rfl)⟩) hS3 ?_
  go_simp
  refine wpAnyH_done (by kernel_rfl) ?_ _
  go_wp2
  go_ret
  exact ⟨rfl, _, hS3⟩

end Go.Proofs.Ytgabpmoibmhigaa.Re
