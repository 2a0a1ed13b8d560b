/- Layer 7: one question to both readers, kind by kind. -/
import Derived.Test.YtgabpmoibmhigaaRmf
import Derived.Test.YtgabpmoibmhigaaLs
namespace Go.Proofs.Ytgabpmoibmhigaa.Re
open Go.RowKit Go.Proofs.Ytgabpmoibmhigaa Go.Proofs.Ytgabpmoibmhigaa.Rp
set_option linter.unusedVariables false

theorem infoI64 : (Try.prog.info? 2).map (fun i => (i.zero, i.size, i.bytes)) = some (some (.int .i64 0), 1, 8) := by kernel_rfl
theorem cellsI64 : Try.prog.cellsOf 2 = 1 := by kernel_rfl
theorem eq_v3 (x y z : Int) (W : World) : (Op.equalIn 10000 30 (.agg #[.int .i64 x, .int .i64 y, .int .i64 z]) (.agg #[.int .i64 x, .int .i64 y, .int .i64 z])).run Try.prog W = .ok true W := by
  obtain ⟨i0, hi, hz0, hz1, hz2⟩ := info_parts infoI64
  rw [run_equalIn_array W 9999 _ _ Try.underlying30 hi, cellsI64]
  simp only [show List.range 3 = [0, 1, 2] from rfl, Op.eqItems, Sem.run_bind]
  simp [go_sem]
theorem eq_h3 (x y z : Int) (W : World) : (Op.equalIn 10000 60 (.agg #[.int .i64 x, .int .i64 y, .int .i64 z]) (.agg #[.int .i64 x, .int .i64 y, .int .i64 z])).run Try.prog W = .ok true W := by
  obtain ⟨i0, hi, hz0, hz1, hz2⟩ := info_parts infoI64
  rw [run_equalIn_array W 9999 _ _ Try.underlying60 hi, cellsI64]
  simp only [show List.range 3 = [0, 1, 2] from rfl, Op.eqItems, Sem.run_bind]
  simp [go_sem]

theorem eq_bytes (L : Array Value) (W : World) (d : Nat) (h : ∀ i, i < L.size → ∃ z, L[i]? = some (.int .u8 z)) : ∀ is : List Nat, (∀ i ∈ is, i < L.size) → (Op.eqItems (d + 1) 5 1 L L is).run Try.prog W = .ok true W
  | [], _ => by simp [Op.eqItems]
  | i :: is, hi => by
    obtain ⟨z, hz⟩ := h i (hi i (by simp))
    have ih := eq_bytes L W d h is (fun j hj => hi j (by simp [hj]))
    have hp := run_part_plain (P := Try.prog) (e := 5) (w := W) (by kernel_rfl) (xs := L) (off := i) hz
    have he := run_equalIn_int (P := Try.prog) W d 5 .u8 .u8 z z Try.underlying5
    simp [Op.eqItems, Sem.run_bind, hp, he, ih]

theorem eq_sum (s : St) (W : World) : (Op.equalIn 10000 65 (.agg (vals (sumS s).1).toArray) (.agg (vals (sumS s).1).toArray)).run Try.prog W = .ok true W := by
  obtain ⟨i0, hi, hz0, hz1, hz2⟩ := info_parts infoByte
  rw [run_equalIn_array W 9999 _ _ Try.underlying65 hi, show Try.prog.cellsOf 5 = 1 by kernel_rfl]
  have hn : (vals (sumS s).1).toArray.size = 32 := by simp [vals_length, sumS_len]
  refine eq_bytes _ W 9998 (fun i hi => ?_) _ (fun i hi => by rw [hn]; simpa using hi)
  rw [List.size_toArray, vals_length] at hi
  exact ⟨((sumS s).1[i]).toNat, by simp [vals, hi]⟩

theorem from5_any (ax ay az : Int) (w : World) :
    Calls Try.prog 26 #[V3 ax ay az] w fun e w' => e = .returned (V3 ax ay az) ∧ Below w.heap.size w w' := by
  go_enter Try.func26, Try.ntmps26
  go_wp2
  exact bodyPost_ret (v := V3 ax ay az) (by simp [results, Try.results26, go_sem]) rfl ⟨rfl, below_n2 _ _ _⟩

set_option maxRecDepth 100000 in
set_option maxHeartbeats 4000000 in
theorem reads_5 (p : Value) (gr B g N : Nat) (a : Option Addr) (n c : Nat) (lb : List UInt8) (s : St) (w0 w : World) (x : It) (hx : ItOk x) (hk : x.kind = 5) (h : Two p gr B g N a n c lb s s w0 w) :
    Calls Try.prog 15 #[p, .pointer (some ⟨g, 0, none⟩), .agg x.cells.toArray] w fun e w' => e = .returned (.bool true) ∧ ∃ t, Two p gr B g N a n c lb t t w0 w' := by
  obtain ⟨cs, hcs⟩ : ∃ cs, cs = x.cells.toArray := ⟨_, rfl⟩
  rw [← hcs]
  have HB := Lib.hid (show (w.alloc (.cells cs 33)).heap[w.heap.size]? = some (.cells cs 33) from heap_alloc_last w _)
  have HX := Lib.hid (fun (y : World) (hb : y.heap[w.heap.size]? = some (.cells cs 33)) => (box_facts (w := y) hx (by rw [← hcs]; exact hb)).1)
  have HT := Lib.hid (h.on (below_n1 w (.cells cs 33)))
  have hneg : w.heap.size ≠ g := fun e => by have := h.m.err.2.2; omega
  have hner : w.heap.size ≠ gr := fun e => by have := h.gl; omega
  obtain ⟨c0, -, -, -, -, -, c38⟩ := HX.out _ HB.out
  have hmm : -9223372036854775808 ≤ x.most ∧ x.most ≤ 9223372036854775807 := hx.2.2.2
  obtain ⟨kd, hkd⟩ : ∃ kd, kd = x.kind := ⟨_, rfl⟩
  obtain ⟨mo, hmo⟩ : ∃ mo, mo = x.most := ⟨_, rfl⟩
  rw [← hkd] at c0 hk HX
  rw [← hmo] at c38 HX hmm
  clear hcs h hkd hmo hx
  subst hk
  go_enter Try.func15, Try.ntmps15
  obtain ⟨z0, hz0⟩ : ∃ z, z = (threeS s).1 0 := ⟨_, rfl⟩
  obtain ⟨z1, hz1⟩ : ∃ z, z = (threeS s).1 1 := ⟨_, rfl⟩
  obtain ⟨z2, hz2⟩ : ∃ z, z = (threeS s).1 2 := ⟨_, rfl⟩
  have HZ := Lib.hid (And.intro hz0 (And.intro hz1 hz2))
  clear hz0 hz1 hz2
  have heq := eq_v3 z0 z1 z2
  go_wp2_with fail
  refine (rvec_any p gr s _ HT.out.r HT.out.gl (HT.out.bsz)).mono ?_
  rintro e w1 ⟨rfl, hr, hA⟩
  rw [← HZ.out.1, ← HZ.out.2.1, ← HZ.out.2.2]
  have HT1 := Lib.hid (HT.out.left hr hA)
  clear hr hA
  go_wp2_with fail
  refine (from_any z0 z1 z2 _).mono ?_
  rintro e w3 ⟨rfl, hb3⟩
  have HT3 := Lib.hid (HT1.out.on hb3)
  clear hb3
  go_wp2_with fail
  refine (mvec_any g N a n c lb s _ HT3.out.m).mono ?_
  rintro e w2 ⟨rfl, hm, hA⟩
  rw [← HZ.out.1, ← HZ.out.2.1, ← HZ.out.2.2]
  have HT2 := Lib.hid (HT3.out.right hm hA)
  clear hm hA
  obtain ⟨t, ht⟩ : ∃ t, t = (threeS s).2 := ⟨_, rfl⟩
  rw [← ht] at HT2
  obtain ⟨tl, te⟩ := t
  obtain ⟨lz, hlz⟩ : ∃ lz : Nat, lz = leftS (tl, te) := ⟨_, rfl⟩
  have HLZ := Lib.hid hlz
  clear ht hlz
  go_wp2_with fail
  refine wp_region_held_drew (S := fun y => Two p gr B g N a n c lb (tl, te) (tl, te) w0 y) (by kernel_rfl) (HT2.out.on ((Below.refl _ _).drew)) (fun hS0 => ?_)
  refine wpAnyH_take (i := 0) (v := ?_) rfl (by kernel_rfl) (by kernel_rfl) (by kernel_rfl) (fun _ _ _ h => h) (Or.inl ⟨by kernel_rfl, by (intro wz hSz; go_simp; try with_reducible rfl)⟩) hS0 ?_
  go_simp
  refine wpAnyH_take (i := 1) (v := ?_) rfl (by kernel_rfl) (by kernel_rfl) (by kernel_rfl) (fun _ _ _ h => h) (Or.inl ⟨by kernel_rfl, by (intro wz hSz; go_simp; try with_reducible rfl)⟩) hS0 ?_
  go_simp
  refine wpAnyH_take (i := 2) (v := ?_) rfl (by kernel_rfl) (by kernel_rfl) (by kernel_rfl) (fun _ _ _ h => h) (Or.inl ⟨by kernel_rfl, by (intro wz hSz; go_simp; try with_reducible rfl)⟩) hS0 ?_
  go_simp
  refine wpAnyH_take (i := 4) (v := ?_) rfl (by kernel_rfl) (by kernel_rfl) (by kernel_rfl) (fun _ _ _ h => h) (Or.inl ⟨by kernel_rfl, by (intro wz hSz; go_simp; try with_reducible rfl)⟩) hS0 ?_
  go_simp
  refine wpAnyH_take (i := 5) (v := ?_) rfl (by kernel_rfl) (by kernel_rfl) (by kernel_rfl) (fun _ _ _ h => h) (Or.inl ⟨by kernel_rfl, by (intro wz hSz; go_simp; try with_reducible rfl)⟩) hS0 ?_
  go_simp
  refine wpAnyH_take (i := 6) (v := ?_) rfl (by kernel_rfl) (by kernel_rfl) (by kernel_rfl) (fun _ _ _ h => h) (Or.inl ⟨by kernel_rfl, by (intro wz hSz; go_simp; try with_reducible rfl)⟩) hS0 ?_
  go_simp
  refine wpAnyH_take (i := 7) (v := ?_) rfl (by kernel_rfl) (by kernel_rfl) (by kernel_rfl) (fun _ _ _ h => h) (Or.inl ⟨by kernel_rfl, by (intro wz hSz; have hcz := hSz.m.err.1; simp only [] at hcz; go_simp; try with_reducible rfl)⟩) hS0 ?_
  go_simp
  refine wpAnyH_ready (rs := [3]) (by kernel_rfl) (by simp) ?_
  refine AllReadyH.cons rfl (fun K hK => ?_) (AllReadyH.nil)
  go_simp
  go_wp2_with (go_at_call 30; refine (err_any _ gr _ _ hS0.r).mono ?_; rintro e y1 ⟨rfl, rfl⟩)
  refine hK.out _ _ hS0 (fun _ => ?_)
  clear hK K
  refine wpAnyH_take (i := 8) (v := ?_) rfl (by kernel_rfl) (by kernel_rfl) (by kernel_rfl) (fun _ _ _ h => h) (Or.inl ⟨by kernel_rfl, by (intro wz hSz; go_simp; try with_reducible rfl)⟩) hS0 ?_
  go_simp
  refine wpAnyH_take (i := 9) (v := ?_) rfl (by kernel_rfl) (by kernel_rfl) (by kernel_rfl) (fun _ _ _ h => h) (Or.inl ⟨by kernel_rfl, by (intro wz hSz; go_simp; try with_reducible rfl)⟩) hS0 ?_
  go_simp
  refine wpAnyH_take (i := 10) (v := ?_) rfl (by kernel_rfl) (by kernel_rfl) (by kernel_rfl) (fun _ _ _ h => h) (Or.inl ⟨by kernel_rfl, by (intro wz hSz; go_simp; try with_reducible rfl)⟩) hS0 ?_
  go_simp
  refine wpAnyH_take (i := 11) (v := ?_) rfl (by kernel_rfl) (by kernel_rfl) (by kernel_rfl) (fun _ _ _ h => h) (Or.inl ⟨by kernel_rfl, by (intro wz hSz; go_simp; try with_reducible rfl)⟩) hS0 ?_
  go_simp
  refine wpAnyH_take (i := 13) (v := ?_) rfl (by kernel_rfl) (by kernel_rfl) (by kernel_rfl) (fun _ _ _ h => h) (Or.inl ⟨by kernel_rfl, by (intro wz hSz; go_simp; try with_reducible rfl)⟩) hS0 ?_
  go_simp
  refine wpAnyH_ready (rs := [12]) (by kernel_rfl) (by simp) ?_
  refine AllReadyH.cons rfl (fun K hK => ?_) (AllReadyH.nil)
  go_simp
  go_wp2_with (go_at_call 36; refine (left_any _ gr _ _ hS0.r).mono ?_; rintro e y2 ⟨rfl, rfl⟩; rw [← HLZ.out])
  refine hK.out _ _ hS0 (fun _ => ?_)
  clear hK K
  refine wpAnyH_ready (rs := [14]) (by kernel_rfl) (by simp) ?_
  refine AllReadyH.cons rfl (fun K hK => ?_) (AllReadyH.nil)
  go_simp
  go_wp2_with (go_at_call 55; refine (mleft_any g N a n c lb _ _ hS0.m).mono ?_; rintro e y3 ⟨rfl, hm3, ha3⟩; rw [← HLZ.out])
  have hS3 := hS0.right hm3 ha3
  clear hm3 ha3
  refine hK.out _ _ hS3 (fun _ => ?_)
  clear hK K
  refine wpAnyH_take (i := 15) (v := ?_) rfl (by kernel_rfl) (by kernel_rfl) (by kernel_rfl) (fun _ _ _ h => h) (Or.inl ⟨by kernel_rfl, by (intro wz hSz; go_simp; try with_reducible rfl)⟩) hS3 ?_
  go_simp
  refine wpAnyH_take (i := 16) (v := ?_) rfl (by kernel_rfl) (by kernel_rfl) (by kernel_rfl) (fun _ _ _ h => h) (Or.inl ⟨by kernel_rfl, by (intro wz hSz; go_simp; try with_reducible rfl)⟩) hS3 ?_
  go_simp
  refine wpAnyH_take (i := 17) (v := ?_) rfl (by kernel_rfl) (by kernel_rfl) (by kernel_rfl) (fun _ _ _ h => h) (Or.inl ⟨by kernel_rfl, by (intro wz hSz; go_simp; try with_reducible rfl)⟩) hS3 ?_
  go_simp
  refine wpAnyH_done (by kernel_rfl) ?_ _
  go_wp2
  go_ret
  exact ⟨rfl, _, hS3⟩

set_option maxRecDepth 100000 in
set_option maxHeartbeats 4000000 in
theorem reads_6 (p : Value) (gr B g N : Nat) (a : Option Addr) (n c : Nat) (lb : List UInt8) (s : St) (w0 w : World) (x : It) (hx : ItOk x) (hk : x.kind = 6) (h : Two p gr B g N a n c lb s s w0 w) :
    Calls Try.prog 15 #[p, .pointer (some ⟨g, 0, none⟩), .agg x.cells.toArray] w fun e w' => e = .returned (.bool true) ∧ ∃ t, Two p gr B g N a n c lb t t w0 w' := by
  obtain ⟨cs, hcs⟩ : ∃ cs, cs = x.cells.toArray := ⟨_, rfl⟩
  rw [← hcs]
  have HB := Lib.hid (show (w.alloc (.cells cs 33)).heap[w.heap.size]? = some (.cells cs 33) from heap_alloc_last w _)
  have HX := Lib.hid (fun (y : World) (hb : y.heap[w.heap.size]? = some (.cells cs 33)) => (box_facts (w := y) hx (by rw [← hcs]; exact hb)).1)
  have HT := Lib.hid (h.on (below_n1 w (.cells cs 33)))
  have hneg : w.heap.size ≠ g := fun e => by have := h.m.err.2.2; omega
  have hner : w.heap.size ≠ gr := fun e => by have := h.gl; omega
  obtain ⟨c0, -, -, -, -, -, c38⟩ := HX.out _ HB.out
  have hmm : -9223372036854775808 ≤ x.most ∧ x.most ≤ 9223372036854775807 := hx.2.2.2
  obtain ⟨kd, hkd⟩ : ∃ kd, kd = x.kind := ⟨_, rfl⟩
  obtain ⟨mo, hmo⟩ : ∃ mo, mo = x.most := ⟨_, rfl⟩
  rw [← hkd] at c0 hk HX
  rw [← hmo] at c38 HX hmm
  clear hcs h hkd hmo hx
  subst hk
  go_enter Try.func15, Try.ntmps15
  obtain ⟨z0, hz0⟩ : ∃ z, z = (threeS s).1 0 := ⟨_, rfl⟩
  obtain ⟨z1, hz1⟩ : ∃ z, z = (threeS s).1 1 := ⟨_, rfl⟩
  obtain ⟨z2, hz2⟩ : ∃ z, z = (threeS s).1 2 := ⟨_, rfl⟩
  have HZ := Lib.hid (And.intro hz0 (And.intro hz1 hz2))
  clear hz0 hz1 hz2
  have heq := eq_h3 z0 z1 z2
  go_wp2_with fail
  refine (rhue_any p gr s _ HT.out.r HT.out.gl (HT.out.bsz)).mono ?_
  rintro e w1 ⟨rfl, hr, hA⟩
  rw [← HZ.out.1, ← HZ.out.2.1, ← HZ.out.2.2]
  have HT1 := Lib.hid (HT.out.left hr hA)
  clear hr hA
  go_wp2_with fail
  refine (from5_any z0 z1 z2 _).mono ?_
  rintro e w3 ⟨rfl, hb3⟩
  have HT3 := Lib.hid (HT1.out.on hb3)
  clear hb3
  go_wp2_with fail
  refine (mvec_any g N a n c lb s _ HT3.out.m).mono ?_
  rintro e w2 ⟨rfl, hm, hA⟩
  rw [← HZ.out.1, ← HZ.out.2.1, ← HZ.out.2.2]
  have HT2 := Lib.hid (HT3.out.right hm hA)
  clear hm hA
  obtain ⟨t, ht⟩ : ∃ t, t = (threeS s).2 := ⟨_, rfl⟩
  rw [← ht] at HT2
  obtain ⟨tl, te⟩ := t
  obtain ⟨lz, hlz⟩ : ∃ lz : Nat, lz = leftS (tl, te) := ⟨_, rfl⟩
  have HLZ := Lib.hid hlz
  clear ht hlz
  go_wp2_with fail
  refine wp_region_held_drew (S := fun y => Two p gr B g N a n c lb (tl, te) (tl, te) w0 y) (by kernel_rfl) (HT2.out.on ((Below.refl _ _).drew)) (fun hS0 => ?_)
  refine wpAnyH_take (i := 0) (v := ?_) rfl (by kernel_rfl) (by kernel_rfl) (by kernel_rfl) (fun _ _ _ h => h) (Or.inl ⟨by kernel_rfl, by (intro wz hSz; go_simp; try with_reducible rfl)⟩) hS0 ?_
  go_simp
  refine wpAnyH_take (i := 1) (v := ?_) rfl (by kernel_rfl) (by kernel_rfl) (by kernel_rfl) (fun _ _ _ h => h) (Or.inl ⟨by kernel_rfl, by (intro wz hSz; go_simp; try with_reducible rfl)⟩) hS0 ?_
  go_simp
  refine wpAnyH_take (i := 2) (v := ?_) rfl (by kernel_rfl) (by kernel_rfl) (by kernel_rfl) (fun _ _ _ h => h) (Or.inl ⟨by kernel_rfl, by (intro wz hSz; go_simp; try with_reducible rfl)⟩) hS0 ?_
  go_simp
  refine wpAnyH_take (i := 4) (v := ?_) rfl (by kernel_rfl) (by kernel_rfl) (by kernel_rfl) (fun _ _ _ h => h) (Or.inl ⟨by kernel_rfl, by (intro wz hSz; go_simp; try with_reducible rfl)⟩) hS0 ?_
  go_simp
  refine wpAnyH_take (i := 5) (v := ?_) rfl (by kernel_rfl) (by kernel_rfl) (by kernel_rfl) (fun _ _ _ h => h) (Or.inl ⟨by kernel_rfl, by (intro wz hSz; go_simp; try with_reducible rfl)⟩) hS0 ?_
  go_simp
  refine wpAnyH_take (i := 6) (v := ?_) rfl (by kernel_rfl) (by kernel_rfl) (by kernel_rfl) (fun _ _ _ h => h) (Or.inl ⟨by kernel_rfl, by (intro wz hSz; go_simp; try with_reducible rfl)⟩) hS0 ?_
  go_simp
  refine wpAnyH_take (i := 7) (v := ?_) rfl (by kernel_rfl) (by kernel_rfl) (by kernel_rfl) (fun _ _ _ h => h) (Or.inl ⟨by kernel_rfl, by (intro wz hSz; have hcz := hSz.m.err.1; simp only [] at hcz; go_simp; try with_reducible rfl)⟩) hS0 ?_
  go_simp
  refine wpAnyH_ready (rs := [3]) (by kernel_rfl) (by simp) ?_
  refine AllReadyH.cons rfl (fun K hK => ?_) (AllReadyH.nil)
  go_simp
  go_wp2_with (go_at_call 30; refine (err_any _ gr _ _ hS0.r).mono ?_; rintro e y1 ⟨rfl, rfl⟩)
  refine hK.out _ _ hS0 (fun _ => ?_)
  clear hK K
  refine wpAnyH_take (i := 8) (v := ?_) rfl (by kernel_rfl) (by kernel_rfl) (by kernel_rfl) (fun _ _ _ h => h) (Or.inl ⟨by kernel_rfl, by (intro wz hSz; go_simp; try with_reducible rfl)⟩) hS0 ?_
  go_simp
  refine wpAnyH_take (i := 9) (v := ?_) rfl (by kernel_rfl) (by kernel_rfl) (by kernel_rfl) (fun _ _ _ h => h) (Or.inl ⟨by kernel_rfl, by (intro wz hSz; go_simp; try with_reducible rfl)⟩) hS0 ?_
  go_simp
  refine wpAnyH_take (i := 10) (v := ?_) rfl (by kernel_rfl) (by kernel_rfl) (by kernel_rfl) (fun _ _ _ h => h) (Or.inl ⟨by kernel_rfl, by (intro wz hSz; go_simp; try with_reducible rfl)⟩) hS0 ?_
  go_simp
  refine wpAnyH_take (i := 11) (v := ?_) rfl (by kernel_rfl) (by kernel_rfl) (by kernel_rfl) (fun _ _ _ h => h) (Or.inl ⟨by kernel_rfl, by (intro wz hSz; go_simp; try with_reducible rfl)⟩) hS0 ?_
  go_simp
  refine wpAnyH_take (i := 13) (v := ?_) rfl (by kernel_rfl) (by kernel_rfl) (by kernel_rfl) (fun _ _ _ h => h) (Or.inl ⟨by kernel_rfl, by (intro wz hSz; go_simp; try with_reducible rfl)⟩) hS0 ?_
  go_simp
  refine wpAnyH_ready (rs := [12]) (by kernel_rfl) (by simp) ?_
  refine AllReadyH.cons rfl (fun K hK => ?_) (AllReadyH.nil)
  go_simp
  go_wp2_with (go_at_call 36; refine (left_any _ gr _ _ hS0.r).mono ?_; rintro e y2 ⟨rfl, rfl⟩; rw [← HLZ.out])
  refine hK.out _ _ hS0 (fun _ => ?_)
  clear hK K
  refine wpAnyH_ready (rs := [14]) (by kernel_rfl) (by simp) ?_
  refine AllReadyH.cons rfl (fun K hK => ?_) (AllReadyH.nil)
  go_simp
  go_wp2_with (go_at_call 55; refine (mleft_any g N a n c lb _ _ hS0.m).mono ?_; rintro e y3 ⟨rfl, hm3, ha3⟩; rw [← HLZ.out])
  have hS3 := hS0.right hm3 ha3
  clear hm3 ha3
  refine hK.out _ _ hS3 (fun _ => ?_)
  clear hK K
  refine wpAnyH_take (i := 15) (v := ?_) rfl (by kernel_rfl) (by kernel_rfl) (by kernel_rfl) (fun _ _ _ h => h) (Or.inl ⟨by kernel_rfl, by (intro wz hSz; go_simp; try with_reducible rfl)⟩) hS3 ?_
  go_simp
  refine wpAnyH_take (i := 16) (v := ?_) rfl (by kernel_rfl) (by kernel_rfl) (by kernel_rfl) (fun _ _ _ h => h) (Or.inl ⟨by kernel_rfl, by (intro wz hSz; go_simp; try with_reducible rfl)⟩) hS3 ?_
  go_simp
  refine wpAnyH_take (i := 17) (v := ?_) rfl (by kernel_rfl) (by kernel_rfl) (by kernel_rfl) (fun _ _ _ h => h) (Or.inl ⟨by kernel_rfl, by (intro wz hSz; go_simp; try with_reducible rfl)⟩) hS3 ?_
  go_simp
  refine wpAnyH_done (by kernel_rfl) ?_ _
  go_wp2
  go_ret
  exact ⟨rfl, _, hS3⟩

set_option maxRecDepth 100000 in
set_option maxHeartbeats 4000000 in
theorem reads_7 (p : Value) (gr B g N : Nat) (a : Option Addr) (n c : Nat) (lb : List UInt8) (s : St) (w0 w : World) (x : It) (hx : ItOk x) (hk : x.kind = 7) (h : Two p gr B g N a n c lb s s w0 w) :
    Calls Try.prog 15 #[p, .pointer (some ⟨g, 0, none⟩), .agg x.cells.toArray] w fun e w' => e = .returned (.bool true) ∧ ∃ t, Two p gr B g N a n c lb t t w0 w' := by
  obtain ⟨cs, hcs⟩ : ∃ cs, cs = x.cells.toArray := ⟨_, rfl⟩
  rw [← hcs]
  have HB := Lib.hid (show (w.alloc (.cells cs 33)).heap[w.heap.size]? = some (.cells cs 33) from heap_alloc_last w _)
  have HX := Lib.hid (fun (y : World) (hb : y.heap[w.heap.size]? = some (.cells cs 33)) => (box_facts (w := y) hx (by rw [← hcs]; exact hb)).1)
  have HT := Lib.hid (h.on (below_n1 w (.cells cs 33)))
  have hneg : w.heap.size ≠ g := fun e => by have := h.m.err.2.2; omega
  have hner : w.heap.size ≠ gr := fun e => by have := h.gl; omega
  obtain ⟨c0, -, -, -, -, -, c38⟩ := HX.out _ HB.out
  have hmm : -9223372036854775808 ≤ x.most ∧ x.most ≤ 9223372036854775807 := hx.2.2.2
  obtain ⟨kd, hkd⟩ : ∃ kd, kd = x.kind := ⟨_, rfl⟩
  obtain ⟨mo, hmo⟩ : ∃ mo, mo = x.most := ⟨_, rfl⟩
  rw [← hkd] at c0 hk HX
  rw [← hmo] at c38 HX hmm
  clear hcs h hkd hmo hx
  subst hk
  go_enter Try.func15, Try.ntmps15
  obtain ⟨L, hL⟩ : ∃ L, L = (vals (sumS s).1).toArray := ⟨_, rfl⟩
  have heq := eq_sum s
  rw [← hL] at heq
  have HL := Lib.hid hL
  clear hL
  go_wp2_with fail
  refine (rsum_any p gr s _ HT.out.r HT.out.gl (HT.out.bsz)).mono ?_
  rintro e w1 ⟨rfl, hr, hA⟩
  rw [← HL.out]
  have HT1 := Lib.hid (HT.out.left hr hA)
  clear hr hA
  go_wp2_with fail
  refine (msum_any g N a n c lb s _ HT1.out.m).mono ?_
  rintro e w2 ⟨rfl, hm, hA⟩
  rw [← HL.out]
  have HT2 := Lib.hid (HT1.out.right hm hA)
  clear hm hA
  obtain ⟨t, ht⟩ : ∃ t, t = (sumS s).2 := ⟨_, rfl⟩
  rw [← ht] at HT2
  obtain ⟨tl, te⟩ := t
  obtain ⟨lz, hlz⟩ : ∃ lz : Nat, lz = leftS (tl, te) := ⟨_, rfl⟩
  have HLZ := Lib.hid hlz
  clear ht hlz
  go_wp2_with fail
  refine wp_region_held_drew (S := fun y => Two p gr B g N a n c lb (tl, te) (tl, te) w0 y) (by kernel_rfl) (HT2.out.on ((Below.refl _ _).drew)) (fun hS0 => ?_)
  refine wpAnyH_take (i := 0) (v := ?_) rfl (by kernel_rfl) (by kernel_rfl) (by kernel_rfl) (fun _ _ _ h => h) (Or.inl ⟨by kernel_rfl, by (intro wz hSz; go_simp; try with_reducible rfl)⟩) hS0 ?_
  go_simp
  refine wpAnyH_take (i := 1) (v := ?_) rfl (by kernel_rfl) (by kernel_rfl) (by kernel_rfl) (fun _ _ _ h => h) (Or.inl ⟨by kernel_rfl, by (intro wz hSz; go_simp; try with_reducible rfl)⟩) hS0 ?_
  go_simp
  refine wpAnyH_take (i := 2) (v := ?_) rfl (by kernel_rfl) (by kernel_rfl) (by kernel_rfl) (fun _ _ _ h => h) (Or.inl ⟨by kernel_rfl, by (intro wz hSz; go_simp; try with_reducible rfl)⟩) hS0 ?_
  go_simp
  refine wpAnyH_take (i := 4) (v := ?_) rfl (by kernel_rfl) (by kernel_rfl) (by kernel_rfl) (fun _ _ _ h => h) (Or.inl ⟨by kernel_rfl, by (intro wz hSz; go_simp; try with_reducible rfl)⟩) hS0 ?_
  go_simp
  refine wpAnyH_take (i := 5) (v := ?_) rfl (by kernel_rfl) (by kernel_rfl) (by kernel_rfl) (fun _ _ _ h => h) (Or.inl ⟨by kernel_rfl, by (intro wz hSz; go_simp; try with_reducible rfl)⟩) hS0 ?_
  go_simp
  refine wpAnyH_take (i := 6) (v := ?_) rfl (by kernel_rfl) (by kernel_rfl) (by kernel_rfl) (fun _ _ _ h => h) (Or.inl ⟨by kernel_rfl, by (intro wz hSz; go_simp; try with_reducible rfl)⟩) hS0 ?_
  go_simp
  refine wpAnyH_take (i := 7) (v := ?_) rfl (by kernel_rfl) (by kernel_rfl) (by kernel_rfl) (fun _ _ _ h => h) (Or.inl ⟨by kernel_rfl, by (intro wz hSz; have hcz := hSz.m.err.1; simp only [] at hcz; go_simp; try with_reducible rfl)⟩) hS0 ?_
  go_simp
  refine wpAnyH_ready (rs := [3]) (by kernel_rfl) (by simp) ?_
  refine AllReadyH.cons rfl (fun K hK => ?_) (AllReadyH.nil)
  go_simp
  go_wp2_with (go_at_call 30; refine (err_any _ gr _ _ hS0.r).mono ?_; rintro e y1 ⟨rfl, rfl⟩)
  refine hK.out _ _ hS0 (fun _ => ?_)
  clear hK K
  refine wpAnyH_take (i := 8) (v := ?_) rfl (by kernel_rfl) (by kernel_rfl) (by kernel_rfl) (fun _ _ _ h => h) (Or.inl ⟨by kernel_rfl, by (intro wz hSz; go_simp; try with_reducible rfl)⟩) hS0 ?_
  go_simp
  refine wpAnyH_take (i := 9) (v := ?_) rfl (by kernel_rfl) (by kernel_rfl) (by kernel_rfl) (fun _ _ _ h => h) (Or.inl ⟨by kernel_rfl, by (intro wz hSz; go_simp; try with_reducible rfl)⟩) hS0 ?_
  go_simp
  refine wpAnyH_take (i := 10) (v := ?_) rfl (by kernel_rfl) (by kernel_rfl) (by kernel_rfl) (fun _ _ _ h => h) (Or.inl ⟨by kernel_rfl, by (intro wz hSz; go_simp; try with_reducible rfl)⟩) hS0 ?_
  go_simp
  refine wpAnyH_take (i := 11) (v := ?_) rfl (by kernel_rfl) (by kernel_rfl) (by kernel_rfl) (fun _ _ _ h => h) (Or.inl ⟨by kernel_rfl, by (intro wz hSz; go_simp; try with_reducible rfl)⟩) hS0 ?_
  go_simp
  refine wpAnyH_take (i := 13) (v := ?_) rfl (by kernel_rfl) (by kernel_rfl) (by kernel_rfl) (fun _ _ _ h => h) (Or.inl ⟨by kernel_rfl, by (intro wz hSz; go_simp; try with_reducible rfl)⟩) hS0 ?_
  go_simp
  refine wpAnyH_ready (rs := [12]) (by kernel_rfl) (by simp) ?_
  refine AllReadyH.cons rfl (fun K hK => ?_) (AllReadyH.nil)
  go_simp
  go_wp2_with (go_at_call 36; refine (left_any _ gr _ _ hS0.r).mono ?_; rintro e y2 ⟨rfl, rfl⟩; rw [← HLZ.out])
  refine hK.out _ _ hS0 (fun _ => ?_)
  clear hK K
  refine wpAnyH_ready (rs := [14]) (by kernel_rfl) (by simp) ?_
  refine AllReadyH.cons rfl (fun K hK => ?_) (AllReadyH.nil)
  go_simp
  go_wp2_with (go_at_call 55; refine (mleft_any g N a n c lb _ _ hS0.m).mono ?_; rintro e y3 ⟨rfl, hm3, ha3⟩; rw [← HLZ.out])
  have hS3 := hS0.right hm3 ha3
  clear hm3 ha3
  refine hK.out _ _ hS3 (fun _ => ?_)
  clear hK K
  refine wpAnyH_take (i := 15) (v := ?_) rfl (by kernel_rfl) (by kernel_rfl) (by kernel_rfl) (fun _ _ _ h => h) (Or.inl ⟨by kernel_rfl, by (intro wz hSz; go_simp; try with_reducible rfl)⟩) hS3 ?_
  go_simp
  refine wpAnyH_take (i := 16) (v := ?_) rfl (by kernel_rfl) (by kernel_rfl) (by kernel_rfl) (fun _ _ _ h => h) (Or.inl ⟨by kernel_rfl, by (intro wz hSz; go_simp; try with_reducible rfl)⟩) hS3 ?_
  go_simp
  refine wpAnyH_take (i := 17) (v := ?_) rfl (by kernel_rfl) (by kernel_rfl) (by kernel_rfl) (fun _ _ _ h => h) (Or.inl ⟨by kernel_rfl, by (intro wz hSz; go_simp; try with_reducible rfl)⟩) hS3 ?_
  go_simp
  refine wpAnyH_done (by kernel_rfl) ?_ _
  go_wp2
  go_ret
  exact ⟨rfl, _, hS3⟩

end Go.Proofs.Ytgabpmoibmhigaa.Re
