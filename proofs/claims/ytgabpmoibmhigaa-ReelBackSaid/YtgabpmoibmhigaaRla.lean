/- Layer 7: a value that is laid by the program: the contract, kind by kind. -/
import Derived.Test.YtgabpmoibmhigaaRit
namespace Go.Proofs.Ytgabpmoibmhigaa.Re
open Go.RowKit Go.Proofs.Ytgabpmoibmhigaa Go.Proofs.Ytgabpmoibmhigaa.Rp
set_option linter.unusedVariables false

set_option maxHeartbeats 2000000 in
theorem lay_0 (g : Nat) (S : Nat → Prop) (l : List UInt8) (x : It) (hx : ItOk x) (hk : x.kind = 0) (w : World) (hW : WAt g S l w) (hb : Bs w (.slice x.a x.plen x.pcap) x.p) (hS : ∀ ad, x.a = some ad → x.p ≠ [] → S ad.block) (hp : x.p.length ≤ 3000) (hsz : l.length ≤ 1000000) :
    Calls Try.prog 10 #[.pointer (some ⟨g, 0, none⟩), .agg x.cells.toArray] w fun e w' => e = .returned (.tuple #[]) ∧ WAt g S (l ++ enc x) w' ∧ Aw S w w' := by
  obtain ⟨cs, hcs⟩ : ∃ cs, cs = x.cells.toArray := ⟨_, rfl⟩
  rw [← hcs]
  have HF := Lib.hid (box_facts (w := w.alloc (.cells cs 33)) hx (by rw [← hcs]; exact heap_alloc_last w _))
  have HH := Lib.hid (show (w.alloc (.cells cs 33)).heap[w.heap.size]? = some (.cells cs 33) from heap_alloc_last w _)
  have HW := Lib.hid (hW.on (below_n1 w (.cells cs 33)))
  have HB := Lib.hid (hb.on (below_n1 w (.cells cs 33)))
  have HA := Lib.hid ((Aw.refl S w).alloc (.cells cs 33))
  clear hW hb hcs
  have HE := Lib.hid (show enc x = bytesOf (u64 x.n) 1 by unfold enc; simp [hk])
  obtain ⟨kd, hkd⟩ : ∃ kd, kd = x.kind := ⟨_, rfl⟩
  obtain ⟨c0, c1, c2, c3, c4, c37, c38⟩ := HF.out.1
  obtain ⟨nn, hnn⟩ : ∃ nn, nn = x.n := ⟨_, rfl⟩
  rw [← hkd] at c0 hk
  rw [← hnn] at c1
  have HN := Lib.hid hnn
  clear hkd hnn
  subst hk
  go_enter Try.func10, Try.ntmps10
  go_wp2_with fail
  refine (byte_any g _ l _ 1 nn _ (HW.out.push2 _ (w.heap.size + 1) (by simp)) (Ints.one2 _ _ (w.heap.size + 1) (by simp)) (by omega)).mono ?_
  rintro e w1 ⟨rfl, hw1, ha1⟩
  rw [HN.out] at hw1
  have HI := Lib.hid (hw1.weak fun k hk => .inl hk)
  have hA2 := (HA.out.alloc _).trans (ha1.weak fun k hk => .inl hk)
  clear hw1 ha1
  go_wp2_with fail
  go_end0
  exact ⟨rfl, by rw [HE.out]; exact HI.out, hA2⟩

set_option maxHeartbeats 2000000 in
theorem lay_1 (g : Nat) (S : Nat → Prop) (l : List UInt8) (x : It) (hx : ItOk x) (hk : x.kind = 1) (w : World) (hW : WAt g S l w) (hb : Bs w (.slice x.a x.plen x.pcap) x.p) (hS : ∀ ad, x.a = some ad → x.p ≠ [] → S ad.block) (hp : x.p.length ≤ 3000) (hsz : l.length ≤ 1000000) :
    Calls Try.prog 10 #[.pointer (some ⟨g, 0, none⟩), .agg x.cells.toArray] w fun e w' => e = .returned (.tuple #[]) ∧ WAt g S (l ++ enc x) w' ∧ Aw S w w' := by
  obtain ⟨cs, hcs⟩ : ∃ cs, cs = x.cells.toArray := ⟨_, rfl⟩
  rw [← hcs]
  have HF := Lib.hid (box_facts (w := w.alloc (.cells cs 33)) hx (by rw [← hcs]; exact heap_alloc_last w _))
  have HH := Lib.hid (show (w.alloc (.cells cs 33)).heap[w.heap.size]? = some (.cells cs 33) from heap_alloc_last w _)
  have HW := Lib.hid (hW.on (below_n1 w (.cells cs 33)))
  have HB := Lib.hid (hb.on (below_n1 w (.cells cs 33)))
  have HA := Lib.hid ((Aw.refl S w).alloc (.cells cs 33))
  clear hW hb hcs
  have HE := Lib.hid (show enc x = bytesOf (u64 x.n) 2 by unfold enc; simp [hk])
  obtain ⟨kd, hkd⟩ : ∃ kd, kd = x.kind := ⟨_, rfl⟩
  obtain ⟨c0, c1, c2, c3, c4, c37, c38⟩ := HF.out.1
  obtain ⟨nn, hnn⟩ : ∃ nn, nn = x.n := ⟨_, rfl⟩
  rw [← hkd] at c0 hk
  rw [← hnn] at c1
  have HN := Lib.hid hnn
  clear hkd hnn
  subst hk
  go_enter Try.func10, Try.ntmps10
  go_wp2_with fail
  refine (half_one g _ l _ 1 nn _ (HW.out.push2 _ (w.heap.size + 1) (by simp)) (Ints.one2 _ _ (w.heap.size + 1) (by simp)) (by omega)).mono ?_
  rintro e w1 ⟨rfl, hw1, ha1⟩
  rw [HN.out] at hw1
  have HI := Lib.hid (hw1.weak fun k hk => .inl hk)
  have hA2 := (HA.out.alloc _).trans (ha1.weak fun k hk => .inl hk)
  clear hw1 ha1
  go_wp2_with fail
  go_end0
  exact ⟨rfl, by rw [HE.out]; exact HI.out, hA2⟩

set_option maxHeartbeats 2000000 in
theorem lay_2 (g : Nat) (S : Nat → Prop) (l : List UInt8) (x : It) (hx : ItOk x) (hk : x.kind = 2) (w : World) (hW : WAt g S l w) (hb : Bs w (.slice x.a x.plen x.pcap) x.p) (hS : ∀ ad, x.a = some ad → x.p ≠ [] → S ad.block) (hp : x.p.length ≤ 3000) (hsz : l.length ≤ 1000000) :
    Calls Try.prog 10 #[.pointer (some ⟨g, 0, none⟩), .agg x.cells.toArray] w fun e w' => e = .returned (.tuple #[]) ∧ WAt g S (l ++ enc x) w' ∧ Aw S w w' := by
  obtain ⟨cs, hcs⟩ : ∃ cs, cs = x.cells.toArray := ⟨_, rfl⟩
  rw [← hcs]
  have HF := Lib.hid (box_facts (w := w.alloc (.cells cs 33)) hx (by rw [← hcs]; exact heap_alloc_last w _))
  have HH := Lib.hid (show (w.alloc (.cells cs 33)).heap[w.heap.size]? = some (.cells cs 33) from heap_alloc_last w _)
  have HW := Lib.hid (hW.on (below_n1 w (.cells cs 33)))
  have HB := Lib.hid (hb.on (below_n1 w (.cells cs 33)))
  have HA := Lib.hid ((Aw.refl S w).alloc (.cells cs 33))
  clear hW hb hcs
  have HE := Lib.hid (show enc x = bytesOf (u64 x.n) 4 by unfold enc; simp [hk])
  obtain ⟨kd, hkd⟩ : ∃ kd, kd = x.kind := ⟨_, rfl⟩
  obtain ⟨c0, c1, c2, c3, c4, c37, c38⟩ := HF.out.1
  obtain ⟨nn, hnn⟩ : ∃ nn, nn = x.n := ⟨_, rfl⟩
  rw [← hkd] at c0 hk
  rw [← hnn] at c1
  have HN := Lib.hid hnn
  clear hkd hnn
  subst hk
  go_enter Try.func10, Try.ntmps10
  go_wp2_with fail
  refine (word_any g _ l _ 1 nn _ (HW.out.push2 _ (w.heap.size + 1) (by simp)) (Ints.one2 _ _ (w.heap.size + 1) (by simp)) (by omega)).mono ?_
  rintro e w1 ⟨rfl, hw1, ha1⟩
  rw [HN.out] at hw1
  have HI := Lib.hid (hw1.weak fun k hk => .inl hk)
  have hA2 := (HA.out.alloc _).trans (ha1.weak fun k hk => .inl hk)
  clear hw1 ha1
  go_wp2_with fail
  go_end0
  exact ⟨rfl, by rw [HE.out]; exact HI.out, hA2⟩

set_option maxHeartbeats 2000000 in
theorem lay_3 (g : Nat) (S : Nat → Prop) (l : List UInt8) (x : It) (hx : ItOk x) (hk : x.kind = 3) (w : World) (hW : WAt g S l w) (hb : Bs w (.slice x.a x.plen x.pcap) x.p) (hS : ∀ ad, x.a = some ad → x.p ≠ [] → S ad.block) (hp : x.p.length ≤ 3000) (hsz : l.length ≤ 1000000) :
    Calls Try.prog 10 #[.pointer (some ⟨g, 0, none⟩), .agg x.cells.toArray] w fun e w' => e = .returned (.tuple #[]) ∧ WAt g S (l ++ enc x) w' ∧ Aw S w w' := by
  obtain ⟨cs, hcs⟩ : ∃ cs, cs = x.cells.toArray := ⟨_, rfl⟩
  rw [← hcs]
  have HF := Lib.hid (box_facts (w := w.alloc (.cells cs 33)) hx (by rw [← hcs]; exact heap_alloc_last w _))
  have HH := Lib.hid (show (w.alloc (.cells cs 33)).heap[w.heap.size]? = some (.cells cs 33) from heap_alloc_last w _)
  have HW := Lib.hid (hW.on (below_n1 w (.cells cs 33)))
  have HB := Lib.hid (hb.on (below_n1 w (.cells cs 33)))
  have HA := Lib.hid ((Aw.refl S w).alloc (.cells cs 33))
  clear hW hb hcs
  have HE := Lib.hid (show enc x = bytesOf (u64 x.n) 8 by unfold enc; simp [hk])
  obtain ⟨kd, hkd⟩ : ∃ kd, kd = x.kind := ⟨_, rfl⟩
  obtain ⟨c0, c1, c2, c3, c4, c37, c38⟩ := HF.out.1
  obtain ⟨nn, hnn⟩ : ∃ nn, nn = x.n := ⟨_, rfl⟩
  rw [← hkd] at c0 hk
  rw [← hnn] at c1
  have HN := Lib.hid hnn
  clear hkd hnn
  subst hk
  go_enter Try.func10, Try.ntmps10
  obtain ⟨m, hm⟩ : ∃ m : Nat, m = u64 nn := ⟨_, rfl⟩
  have hnz : IntKind.u64.wrap nn = (m : Int) := by rw [hm, u64_wrap]
  have hml : m < 18446744073709551616 := by rw [hm]; exact u64_lt nn
  have HM := Lib.hid hm
  clear hm
  go_wp2_with fail
  refine (long_any g S l m hml _ HW.out (by omega)).mono ?_
  rintro e w1 ⟨rfl, hw1, ha1⟩
  rw [HM.out, HN.out] at hw1
  have HI := Lib.hid hw1
  have hA2 := HA.out.trans ha1
  clear hw1 ha1
  go_wp2_with fail
  go_end0
  exact ⟨rfl, by rw [HE.out]; exact HI.out, hA2⟩

set_option maxHeartbeats 2000000 in
theorem lay_4 (g : Nat) (S : Nat → Prop) (l : List UInt8) (x : It) (hx : ItOk x) (hk : x.kind = 4) (w : World) (hW : WAt g S l w) (hb : Bs w (.slice x.a x.plen x.pcap) x.p) (hS : ∀ ad, x.a = some ad → x.p ≠ [] → S ad.block) (hp : x.p.length ≤ 3000) (hsz : l.length ≤ 1000000) :
    Calls Try.prog 10 #[.pointer (some ⟨g, 0, none⟩), .agg x.cells.toArray] w fun e w' => e = .returned (.tuple #[]) ∧ WAt g S (l ++ enc x) w' ∧ Aw S w w' := by
  obtain ⟨cs, hcs⟩ : ∃ cs, cs = x.cells.toArray := ⟨_, rfl⟩
  rw [← hcs]
  have HF := Lib.hid (box_facts (w := w.alloc (.cells cs 33)) hx (by rw [← hcs]; exact heap_alloc_last w _))
  have HH := Lib.hid (show (w.alloc (.cells cs 33)).heap[w.heap.size]? = some (.cells cs 33) from heap_alloc_last w _)
  have HW := Lib.hid (hW.on (below_n1 w (.cells cs 33)))
  have HB := Lib.hid (hb.on (below_n1 w (.cells cs 33)))
  have HA := Lib.hid ((Aw.refl S w).alloc (.cells cs 33))
  clear hW hb hcs
  have HE := Lib.hid (show enc x = bytesOf (u64 x.n) 5 by unfold enc; simp [hk])
  obtain ⟨kd, hkd⟩ : ∃ kd, kd = x.kind := ⟨_, rfl⟩
  obtain ⟨c0, c1, c2, c3, c4, c37, c38⟩ := HF.out.1
  obtain ⟨nn, hnn⟩ : ∃ nn, nn = x.n := ⟨_, rfl⟩
  rw [← hkd] at c0 hk
  rw [← hnn] at c1
  have HN := Lib.hid hnn
  clear hkd hnn
  subst hk
  go_enter Try.func10, Try.ntmps10
  go_wp2_with fail
  refine (fix_list g _ l _ 1 [nn] _ (HW.out.push2 _ (w.heap.size + 1) (by simp)) (Ints.one2 _ _ (w.heap.size + 1) (by simp)) (by simp) (by omega)).mono ?_
  rintro e w1 ⟨rfl, hw1, ha1⟩
  rw [numsOf_one, HN.out] at hw1
  have HI := Lib.hid (hw1.weak fun k hk => .inl hk)
  have hA2 := (HA.out.alloc _).trans (ha1.weak fun k hk => .inl hk)
  clear hw1 ha1
  go_wp2_with fail
  go_end0
  exact ⟨rfl, by rw [HE.out]; exact HI.out, hA2⟩

set_option maxHeartbeats 2000000 in
theorem lay_5 (g : Nat) (S : Nat → Prop) (l : List UInt8) (x : It) (hx : ItOk x) (hk : x.kind = 5) (w : World) (hW : WAt g S l w) (hb : Bs w (.slice x.a x.plen x.pcap) x.p) (hS : ∀ ad, x.a = some ad → x.p ≠ [] → S ad.block) (hp : x.p.length ≤ 3000) (hsz : l.length ≤ 1000000) :
    Calls Try.prog 10 #[.pointer (some ⟨g, 0, none⟩), .agg x.cells.toArray] w fun e w' => e = .returned (.tuple #[]) ∧ WAt g S (l ++ enc x) w' ∧ Aw S w w' := by
  obtain ⟨cs, hcs⟩ : ∃ cs, cs = x.cells.toArray := ⟨_, rfl⟩
  rw [← hcs]
  have HF := Lib.hid (box_facts (w := w.alloc (.cells cs 33)) hx (by rw [← hcs]; exact heap_alloc_last w _))
  have HH := Lib.hid (show (w.alloc (.cells cs 33)).heap[w.heap.size]? = some (.cells cs 33) from heap_alloc_last w _)
  have HW := Lib.hid (hW.on (below_n1 w (.cells cs 33)))
  have HB := Lib.hid (hb.on (below_n1 w (.cells cs 33)))
  have HA := Lib.hid ((Aw.refl S w).alloc (.cells cs 33))
  clear hW hb hcs
  have HE := Lib.hid (show enc x = numsOf 5 [x.v0, x.v1, x.v2] by unfold enc; simp [hk])
  obtain ⟨kd, hkd⟩ : ∃ kd, kd = x.kind := ⟨_, rfl⟩
  obtain ⟨c0, c1, c2, c3, c4, c37, c38⟩ := HF.out.1
  obtain ⟨nn, hnn⟩ : ∃ nn, nn = x.n := ⟨_, rfl⟩
  rw [← hkd] at c0 hk
  rw [← hnn] at c1
  have HN := Lib.hid hnn
  clear hkd hnn
  subst hk
  go_enter Try.func10, Try.ntmps10
  go_wp2_with fail
  refine (to_any x.v0 x.v1 x.v2 _).mono ?_
  rintro e w1 ⟨rfl, hb1⟩
  have HW1 := Lib.hid (HW.out.on hb1)
  have HA1 := Lib.hid (HA.out.trans (Aw.of (S := S) hb1))
  clear hb1
  go_wp2_with fail
  refine (vec_any g _ l w1.heap.size 1 _ x.v0 x.v1 x.v2 _ (HW1.out.push _) (heap_alloc_last w1 _) (.inr rfl) (by omega)).mono ?_
  rintro e w2 ⟨rfl, hw2, ha2⟩
  have HI := Lib.hid (hw2.weak fun k hk => .inl hk)
  have hA2 := (HA1.out.alloc _).trans (ha2.weak fun k hk => .inl hk)
  clear hw2 ha2
  go_wp2_with fail
  go_end0
  exact ⟨rfl, by rw [HE.out]; exact HI.out, hA2⟩

set_option maxHeartbeats 2000000 in
theorem lay_6 (g : Nat) (S : Nat → Prop) (l : List UInt8) (x : It) (hx : ItOk x) (hk : x.kind = 6) (w : World) (hW : WAt g S l w) (hb : Bs w (.slice x.a x.plen x.pcap) x.p) (hS : ∀ ad, x.a = some ad → x.p ≠ [] → S ad.block) (hp : x.p.length ≤ 3000) (hsz : l.length ≤ 1000000) :
    Calls Try.prog 10 #[.pointer (some ⟨g, 0, none⟩), .agg x.cells.toArray] w fun e w' => e = .returned (.tuple #[]) ∧ WAt g S (l ++ enc x) w' ∧ Aw S w w' := by
  obtain ⟨cs, hcs⟩ : ∃ cs, cs = x.cells.toArray := ⟨_, rfl⟩
  rw [← hcs]
  have HF := Lib.hid (box_facts (w := w.alloc (.cells cs 33)) hx (by rw [← hcs]; exact heap_alloc_last w _))
  have HH := Lib.hid (show (w.alloc (.cells cs 33)).heap[w.heap.size]? = some (.cells cs 33) from heap_alloc_last w _)
  have HW := Lib.hid (hW.on (below_n1 w (.cells cs 33)))
  have HB := Lib.hid (hb.on (below_n1 w (.cells cs 33)))
  have HA := Lib.hid ((Aw.refl S w).alloc (.cells cs 33))
  clear hW hb hcs
  have HE := Lib.hid (show enc x = numsOf 5 [x.v0, x.v1, x.v2] by unfold enc; simp [hk])
  obtain ⟨kd, hkd⟩ : ∃ kd, kd = x.kind := ⟨_, rfl⟩
  obtain ⟨c0, c1, c2, c3, c4, c37, c38⟩ := HF.out.1
  obtain ⟨nn, hnn⟩ : ∃ nn, nn = x.n := ⟨_, rfl⟩
  rw [← hkd] at c0 hk
  rw [← hnn] at c1
  have HN := Lib.hid hnn
  clear hkd hnn
  subst hk
  go_enter Try.func10, Try.ntmps10
  go_wp2_with fail
  refine (hto_any x.v0 x.v1 x.v2 _).mono ?_
  rintro e w1 ⟨rfl, hb1⟩
  have HW1 := Lib.hid (HW.out.on hb1)
  have HA1 := Lib.hid (HA.out.trans (Aw.of (S := S) hb1))
  clear hb1
  go_wp2_with fail
  refine (hue_any g _ l w1.heap.size 1 _ x.v0 x.v1 x.v2 _ (HW1.out.push _) (heap_alloc_last w1 _) (.inr rfl) (by omega)).mono ?_
  rintro e w2 ⟨rfl, hw2, ha2⟩
  have HI := Lib.hid (hw2.weak fun k hk => .inl hk)
  have hA2 := (HA1.out.alloc _).trans (ha2.weak fun k hk => .inl hk)
  clear hw2 ha2
  go_wp2_with fail
  go_end0
  exact ⟨rfl, by rw [HE.out]; exact HI.out, hA2⟩

set_option maxHeartbeats 2000000 in
theorem lay_7 (g : Nat) (S : Nat → Prop) (l : List UInt8) (x : It) (hx : ItOk x) (hk : x.kind = 7) (w : World) (hW : WAt g S l w) (hb : Bs w (.slice x.a x.plen x.pcap) x.p) (hS : ∀ ad, x.a = some ad → x.p ≠ [] → S ad.block) (hp : x.p.length ≤ 3000) (hsz : l.length ≤ 1000000) :
    Calls Try.prog 10 #[.pointer (some ⟨g, 0, none⟩), .agg x.cells.toArray] w fun e w' => e = .returned (.tuple #[]) ∧ WAt g S (l ++ enc x) w' ∧ Aw S w w' := by
  obtain ⟨cs, hcs⟩ : ∃ cs, cs = x.cells.toArray := ⟨_, rfl⟩
  rw [← hcs]
  have HF := Lib.hid (box_facts (w := w.alloc (.cells cs 33)) hx (by rw [← hcs]; exact heap_alloc_last w _))
  have HH := Lib.hid (show (w.alloc (.cells cs 33)).heap[w.heap.size]? = some (.cells cs 33) from heap_alloc_last w _)
  have HW := Lib.hid (hW.on (below_n1 w (.cells cs 33)))
  have HB := Lib.hid (hb.on (below_n1 w (.cells cs 33)))
  have HA := Lib.hid ((Aw.refl S w).alloc (.cells cs 33))
  clear hW hb hcs
  have HE := Lib.hid (show enc x = x.d by unfold enc; simp [hk])
  obtain ⟨kd, hkd⟩ : ∃ kd, kd = x.kind := ⟨_, rfl⟩
  obtain ⟨c0, c1, c2, c3, c4, c37, c38⟩ := HF.out.1
  obtain ⟨nn, hnn⟩ : ∃ nn, nn = x.n := ⟨_, rfl⟩
  rw [← hkd] at c0 hk
  rw [← hnn] at c1
  have HN := Lib.hid hnn
  clear hkd hnn
  subst hk
  go_enter Try.func10, Try.ntmps10
  obtain ⟨dl, hdl⟩ : ∃ dl, dl = vals x.d := ⟨_, rfl⟩
  have hr := HF.out.2
  rw [← hdl] at hr
  have HD := Lib.hid hdl
  have HSZ := Lib.hid (show (Try.prog.info? 31).map (·.size) = some dl.length by rw [hdl, vals_length, hx.1]; kernel_rfl)
  clear hdl
  go_wp2_with (with_reducible refine wpList_load_mid rfl 31 _ rfl w.heap.size 5 rfl dl _ hr Try.underlying31 rfl HSZ.out ?_)
  rw [HD.out]
  refine (wsum_any g S l x.d hx.1 _ HW.out (by omega)).mono ?_
  rintro e w1 ⟨rfl, hw1, ha1⟩
  have HI := Lib.hid hw1
  have hA2 := HA.out.trans ha1
  clear hw1 ha1
  go_wp2_with fail
  go_end0
  exact ⟨rfl, by rw [HE.out]; exact HI.out, hA2⟩

set_option maxHeartbeats 2000000 in
theorem lay_8 (g : Nat) (S : Nat → Prop) (l : List UInt8) (x : It) (hx : ItOk x) (hk : x.kind = 8) (w : World) (hW : WAt g S l w) (hb : Bs w (.slice x.a x.plen x.pcap) x.p) (hS : ∀ ad, x.a = some ad → x.p ≠ [] → S ad.block) (hp : x.p.length ≤ 3000) (hsz : l.length ≤ 1000000) :
    Calls Try.prog 10 #[.pointer (some ⟨g, 0, none⟩), .agg x.cells.toArray] w fun e w' => e = .returned (.tuple #[]) ∧ WAt g S (l ++ enc x) w' ∧ Aw S w w' := by
  obtain ⟨cs, hcs⟩ : ∃ cs, cs = x.cells.toArray := ⟨_, rfl⟩
  rw [← hcs]
  have HF := Lib.hid (box_facts (w := w.alloc (.cells cs 33)) hx (by rw [← hcs]; exact heap_alloc_last w _))
  have HH := Lib.hid (show (w.alloc (.cells cs 33)).heap[w.heap.size]? = some (.cells cs 33) from heap_alloc_last w _)
  have HW := Lib.hid (hW.on (below_n1 w (.cells cs 33)))
  have HB := Lib.hid (hb.on (below_n1 w (.cells cs 33)))
  have HA := Lib.hid ((Aw.refl S w).alloc (.cells cs 33))
  clear hW hb hcs
  have HE := Lib.hid (show enc x = bytesOf x.p.length 4 ++ x.p by unfold enc; simp [hk])
  obtain ⟨kd, hkd⟩ : ∃ kd, kd = x.kind := ⟨_, rfl⟩
  obtain ⟨c0, c1, c2, c3, c4, c37, c38⟩ := HF.out.1
  obtain ⟨nn, hnn⟩ : ∃ nn, nn = x.n := ⟨_, rfl⟩
  rw [← hkd] at c0 hk
  rw [← hnn] at c1
  have HN := Lib.hid hnn
  clear hkd hnn
  subst hk
  go_enter Try.func10, Try.ntmps10
  go_wp2_with fail
  refine (wblob_any g S l x.p _ _ _ _ HW.out HB.out hS (by have := hx.2.1 hp; omega) (by omega)).mono ?_
  rintro e w1 ⟨rfl, hw1, ha1⟩
  rw [List.append_assoc] at hw1
  have HI := Lib.hid hw1
  have hA2 := HA.out.trans ha1
  clear hw1 ha1
  go_wp2_with fail
  go_end0
  exact ⟨rfl, by rw [HE.out]; exact HI.out, hA2⟩

set_option maxHeartbeats 2000000 in
theorem lay_other (g : Nat) (S : Nat → Prop) (l : List UInt8) (x : It) (hx : ItOk x) (hk : x.kind < 0 ∨ 8 < x.kind) (w : World) (hW : WAt g S l w) (hb : Bs w (.slice x.a x.plen x.pcap) x.p) (hS : ∀ ad, x.a = some ad → x.p ≠ [] → S ad.block) (hp : x.p.length ≤ 3000) (hsz : l.length ≤ 1000000) :
    Calls Try.prog 10 #[.pointer (some ⟨g, 0, none⟩), .agg x.cells.toArray] w fun e w' => e = .returned (.tuple #[]) ∧ WAt g S (l ++ enc x) w' ∧ Aw S w w' := by
  obtain ⟨cs, hcs⟩ : ∃ cs, cs = x.cells.toArray := ⟨_, rfl⟩
  rw [← hcs]
  have HF := Lib.hid (box_facts (w := w.alloc (.cells cs 33)) hx (by rw [← hcs]; exact heap_alloc_last w _))
  have HH := Lib.hid (show (w.alloc (.cells cs 33)).heap[w.heap.size]? = some (.cells cs 33) from heap_alloc_last w _)
  have HW := Lib.hid (hW.on (below_n1 w (.cells cs 33)))
  have HB := Lib.hid (hb.on (below_n1 w (.cells cs 33)))
  have HA := Lib.hid ((Aw.refl S w).alloc (.cells cs 33))
  clear hW hb hcs
  have HE := Lib.hid (show enc x = [] by unfold enc; rw [if_neg (by omega), if_neg (by omega), if_neg (by omega), if_neg (by omega), if_neg (by omega), if_neg (by omega), if_neg (by omega), if_neg (by omega), if_neg (by omega)])
  obtain ⟨kd, hkd⟩ : ∃ kd, kd = x.kind := ⟨_, rfl⟩
  obtain ⟨c0, c1, c2, c3, c4, c37, c38⟩ := HF.out.1
  obtain ⟨nn, hnn⟩ : ∃ nn, nn = x.n := ⟨_, rfl⟩
  rw [← hkd] at c0 hk
  rw [← hnn] at c1
  have HN := Lib.hid hnn
  clear hkd hnn
  have e0 : (kd == 0) = false := by simp; omega
  have e1 : (kd == 1) = false := by simp; omega
  have e2 : (kd == 2) = false := by simp; omega
  have e3 : (kd == 3) = false := by simp; omega
  have e4 : (kd == 4) = false := by simp; omega
  have e5 : (kd == 5) = false := by simp; omega
  have e6 : (kd == 6) = false := by simp; omega
  have e7 : (kd == 7) = false := by simp; omega
  have e8 : (kd == 8) = false := by simp; omega
  go_enter Try.func10, Try.ntmps10
  have hA2 := HA.out
  have HI := Lib.hid (show WAt g S (l ++ []) (w.alloc (.cells cs 33)) by rw [List.append_nil]; exact HW.out)
  go_wp2_with fail
  go_end0
  exact ⟨rfl, by rw [HE.out]; exact HI.out, hA2⟩

theorem lay_any (g : Nat) (S : Nat → Prop) (l : List UInt8) (x : It) (hx : ItOk x) (w : World) (hW : WAt g S l w) (hb : Bs w (.slice x.a x.plen x.pcap) x.p) (hS : ∀ ad, x.a = some ad → x.p ≠ [] → S ad.block) (hp : x.p.length ≤ 3000) (hsz : l.length ≤ 1000000) :
    Calls Try.prog 10 #[.pointer (some ⟨g, 0, none⟩), .agg x.cells.toArray] w fun e w' => e = .returned (.tuple #[]) ∧ WAt g S (l ++ enc x) w' ∧ Aw S w w' := by
  by_cases h : x.kind < 0 ∨ 8 < x.kind
  · exact lay_other g S l x hx h w hW hb hS hp hsz
  · have hc : x.kind = 0 ∨ x.kind = 1 ∨ x.kind = 2 ∨ x.kind = 3 ∨ x.kind = 4 ∨ x.kind = 5 ∨ x.kind = 6 ∨ x.kind = 7 ∨ x.kind = 8 := by omega
    rcases hc with hk | hk | hk | hk | hk | hk | hk | hk | hk
    · exact lay_0 g S l x hx hk w hW hb hS hp hsz
    · exact lay_1 g S l x hx hk w hW hb hS hp hsz
    · exact lay_2 g S l x hx hk w hW hb hS hp hsz
    · exact lay_3 g S l x hx hk w hW hb hS hp hsz
    · exact lay_4 g S l x hx hk w hW hb hS hp hsz
    · exact lay_5 g S l x hx hk w hW hb hS hp hsz
    · exact lay_6 g S l x hx hk w hW hb hS hp hsz
    · exact lay_7 g S l x hx hk w hW hb hS hp hsz
    · exact lay_8 g S l x hx hk w hW hb hS hp hsz
end Go.Proofs.Ytgabpmoibmhigaa.Re
