/- Layer 7: a value that is laid by the document: the contract, kind by kind. -/
import Derived.Test.YtgabpmoibmhigaaRlc
import Derived.Maps.AppendAt
namespace Go.Proofs.Ytgabpmoibmhigaa.Re
open Go.RowKit Go.Proofs.Ytgabpmoibmhigaa Go.Proofs.Ytgabpmoibmhigaa.Rp
set_option linter.unusedVariables false

theorem own_new {S : Nat → Prop} {w : World} {base : Nat} {v : Value} {l : List UInt8} (h : w.ownsRow base 5 1 v l.length (vals l)) (hS : ∀ k, S k → k < base) : Own S v l w :=
  ⟨own_mono h (Nat.zero_le _), fun q hq e => by have := (h.lt q hq).1; have := hS q e; omega⟩
theorem own_form3 {base : Nat} {w : World} {v : Value} {n : Nat} {xs : List Value} (h : w.ownsRow base 5 1 v n xs) : ∃ a m c, v = .slice a m c := by
  obtain ⟨a, c, hv⟩ := own_form h
  exact ⟨a, n, c, hv⟩
theorem own_keep {S : Nat → Prop} {v : Value} {l : List UInt8} {w w' : World} (h : Own S v l w) (hb : Below w.heap.size w w') : Own S v l w' :=
  ⟨own_heap h.1 fun q hq => hb.block q (h.1.lt q hq).2, h.2⟩

set_option maxHeartbeats 2000000 in
theorem laid_0 (S : Nat → Prop) (l : List UInt8) (x : It) (hx : ItOk x) (hk : x.kind = 0) (v : Value) (w : World) (hSS : ∀ k, S k → k < w.heap.size) (hO : Own S v l w) (hb : Bs w (.slice x.a x.plen x.pcap) x.p) (hp : x.p.length ≤ 3000) (hsz : l.length ≤ 1000000) :
    Calls Try.prog 11 #[v, .agg x.cells.toArray] w fun e w' => (∃ v', e = .returned v' ∧ Own S v' (l ++ enc x) w') ∧ Aw S w w' := by
  obtain ⟨cs, hcs⟩ : ∃ cs, cs = x.cells.toArray := ⟨_, rfl⟩
  rw [← hcs]
  have HF := Lib.hid (box_facts (w := w.alloc (.cells cs 33)) hx (by rw [← hcs]; exact heap_alloc_last w _))
  have HW := Lib.hid (own_keep hO (below_n1 w (.cells cs 33)))
  have HB := Lib.hid (hb.on (below_n1 w (.cells cs 33)))
  have HA := Lib.hid ((Aw.refl S w).alloc (.cells cs 33))
  have HS := Lib.hid (show ∀ k, S k → k < (w.alloc (.cells cs 33)).heap.size from fun k hk => by have := hSS k hk; simp; omega)
  obtain ⟨va, vc, hv⟩ := own_form hO.1
  obtain ⟨L, hL⟩ : ∃ L, L = l.length := ⟨_, rfl⟩
  subst hv
  rw [← hL] at HW hO ⊢
  have HL := Lib.hid hL
  clear hO hb hcs hL
  have HE := Lib.hid (show enc x = bytesOf (u64 x.n) 1 by unfold enc; simp [hk])
  obtain ⟨kd, hkd⟩ : ∃ kd, kd = x.kind := ⟨_, rfl⟩
  obtain ⟨c0, c1, c2, c3, c4, c37, c38⟩ := HF.out.1
  obtain ⟨nn, hnn⟩ : ∃ nn, nn = x.n := ⟨_, rfl⟩
  rw [← hkd] at c0 hk
  rw [← hnn] at c1
  obtain ⟨m, hm⟩ : ∃ m : Nat, m = u64 nn := ⟨_, rfl⟩
  have hnz : IntKind.u64.wrap nn = (m : Int) := by rw [hm, u64_wrap]
  have hml : m < 18446744073709551616 := by rw [hm]; exact u64_lt nn
  rw [hnn] at hm
  have HN := Lib.hid hm
  clear hkd hnn hm
  subst hk
  go_enter Try.func11, Try.ntmps11
  go_wp2_with fail
  refine (num_any l m 1 hml (by omega) _ _ (by have h := own_bs HW.out.1; exact h) (by omega)).mono ?_
  rw [HN.out]
  rintro e w1 ⟨⟨v', rfl, ho⟩, hb1⟩
  have HO := Lib.hid (own_new ho (S := S) HS.out)
  have hA2 := HA.out.trans (Aw.of (S := S) hb1)
  obtain ⟨a9, n9, c9, hv9⟩ := own_form3 ho
  subst hv9
  clear ho
  go_wp2_with fail
  go_ret
  exact ⟨⟨_, rfl, by rw [HE.out]; exact HO.out⟩, hA2⟩

set_option maxHeartbeats 2000000 in
theorem laid_1 (S : Nat → Prop) (l : List UInt8) (x : It) (hx : ItOk x) (hk : x.kind = 1) (v : Value) (w : World) (hSS : ∀ k, S k → k < w.heap.size) (hO : Own S v l w) (hb : Bs w (.slice x.a x.plen x.pcap) x.p) (hp : x.p.length ≤ 3000) (hsz : l.length ≤ 1000000) :
    Calls Try.prog 11 #[v, .agg x.cells.toArray] w fun e w' => (∃ v', e = .returned v' ∧ Own S v' (l ++ enc x) w') ∧ Aw S w w' := by
  obtain ⟨cs, hcs⟩ : ∃ cs, cs = x.cells.toArray := ⟨_, rfl⟩
  rw [← hcs]
  have HF := Lib.hid (box_facts (w := w.alloc (.cells cs 33)) hx (by rw [← hcs]; exact heap_alloc_last w _))
  have HW := Lib.hid (own_keep hO (below_n1 w (.cells cs 33)))
  have HB := Lib.hid (hb.on (below_n1 w (.cells cs 33)))
  have HA := Lib.hid ((Aw.refl S w).alloc (.cells cs 33))
  have HS := Lib.hid (show ∀ k, S k → k < (w.alloc (.cells cs 33)).heap.size from fun k hk => by have := hSS k hk; simp; omega)
  obtain ⟨va, vc, hv⟩ := own_form hO.1
  obtain ⟨L, hL⟩ : ∃ L, L = l.length := ⟨_, rfl⟩
  subst hv
  rw [← hL] at HW hO ⊢
  have HL := Lib.hid hL
  clear hO hb hcs hL
  have HE := Lib.hid (show enc x = bytesOf (u64 x.n) 2 by unfold enc; simp [hk])
  obtain ⟨kd, hkd⟩ : ∃ kd, kd = x.kind := ⟨_, rfl⟩
  obtain ⟨c0, c1, c2, c3, c4, c37, c38⟩ := HF.out.1
  obtain ⟨nn, hnn⟩ : ∃ nn, nn = x.n := ⟨_, rfl⟩
  rw [← hkd] at c0 hk
  rw [← hnn] at c1
  obtain ⟨m, hm⟩ : ∃ m : Nat, m = u64 nn := ⟨_, rfl⟩
  have hnz : IntKind.u64.wrap nn = (m : Int) := by rw [hm, u64_wrap]
  have hml : m < 18446744073709551616 := by rw [hm]; exact u64_lt nn
  rw [hnn] at hm
  have HN := Lib.hid hm
  clear hkd hnn hm
  subst hk
  go_enter Try.func11, Try.ntmps11
  go_wp2_with fail
  refine (num_any l m 2 hml (by omega) _ _ (by have h := own_bs HW.out.1; exact h) (by omega)).mono ?_
  rw [HN.out]
  rintro e w1 ⟨⟨v', rfl, ho⟩, hb1⟩
  have HO := Lib.hid (own_new ho (S := S) HS.out)
  have hA2 := HA.out.trans (Aw.of (S := S) hb1)
  obtain ⟨a9, n9, c9, hv9⟩ := own_form3 ho
  subst hv9
  clear ho
  go_wp2_with fail
  go_ret
  exact ⟨⟨_, rfl, by rw [HE.out]; exact HO.out⟩, hA2⟩

set_option maxHeartbeats 2000000 in
theorem laid_2 (S : Nat → Prop) (l : List UInt8) (x : It) (hx : ItOk x) (hk : x.kind = 2) (v : Value) (w : World) (hSS : ∀ k, S k → k < w.heap.size) (hO : Own S v l w) (hb : Bs w (.slice x.a x.plen x.pcap) x.p) (hp : x.p.length ≤ 3000) (hsz : l.length ≤ 1000000) :
    Calls Try.prog 11 #[v, .agg x.cells.toArray] w fun e w' => (∃ v', e = .returned v' ∧ Own S v' (l ++ enc x) w') ∧ Aw S w w' := by
  obtain ⟨cs, hcs⟩ : ∃ cs, cs = x.cells.toArray := ⟨_, rfl⟩
  rw [← hcs]
  have HF := Lib.hid (box_facts (w := w.alloc (.cells cs 33)) hx (by rw [← hcs]; exact heap_alloc_last w _))
  have HW := Lib.hid (own_keep hO (below_n1 w (.cells cs 33)))
  have HB := Lib.hid (hb.on (below_n1 w (.cells cs 33)))
  have HA := Lib.hid ((Aw.refl S w).alloc (.cells cs 33))
  have HS := Lib.hid (show ∀ k, S k → k < (w.alloc (.cells cs 33)).heap.size from fun k hk => by have := hSS k hk; simp; omega)
  obtain ⟨va, vc, hv⟩ := own_form hO.1
  obtain ⟨L, hL⟩ : ∃ L, L = l.length := ⟨_, rfl⟩
  subst hv
  rw [← hL] at HW hO ⊢
  have HL := Lib.hid hL
  clear hO hb hcs hL
  have HE := Lib.hid (show enc x = bytesOf (u64 x.n) 4 by unfold enc; simp [hk])
  obtain ⟨kd, hkd⟩ : ∃ kd, kd = x.kind := ⟨_, rfl⟩
  obtain ⟨c0, c1, c2, c3, c4, c37, c38⟩ := HF.out.1
  obtain ⟨nn, hnn⟩ : ∃ nn, nn = x.n := ⟨_, rfl⟩
  rw [← hkd] at c0 hk
  rw [← hnn] at c1
  obtain ⟨m, hm⟩ : ∃ m : Nat, m = u64 nn := ⟨_, rfl⟩
  have hnz : IntKind.u64.wrap nn = (m : Int) := by rw [hm, u64_wrap]
  have hml : m < 18446744073709551616 := by rw [hm]; exact u64_lt nn
  rw [hnn] at hm
  have HN := Lib.hid hm
  clear hkd hnn hm
  subst hk
  go_enter Try.func11, Try.ntmps11
  go_wp2_with fail
  refine (num_any l m 4 hml (by omega) _ _ (by have h := own_bs HW.out.1; exact h) (by omega)).mono ?_
  rw [HN.out]
  rintro e w1 ⟨⟨v', rfl, ho⟩, hb1⟩
  have HO := Lib.hid (own_new ho (S := S) HS.out)
  have hA2 := HA.out.trans (Aw.of (S := S) hb1)
  obtain ⟨a9, n9, c9, hv9⟩ := own_form3 ho
  subst hv9
  clear ho
  go_wp2_with fail
  go_ret
  exact ⟨⟨_, rfl, by rw [HE.out]; exact HO.out⟩, hA2⟩

set_option maxHeartbeats 2000000 in
theorem laid_3 (S : Nat → Prop) (l : List UInt8) (x : It) (hx : ItOk x) (hk : x.kind = 3) (v : Value) (w : World) (hSS : ∀ k, S k → k < w.heap.size) (hO : Own S v l w) (hb : Bs w (.slice x.a x.plen x.pcap) x.p) (hp : x.p.length ≤ 3000) (hsz : l.length ≤ 1000000) :
    Calls Try.prog 11 #[v, .agg x.cells.toArray] w fun e w' => (∃ v', e = .returned v' ∧ Own S v' (l ++ enc x) w') ∧ Aw S w w' := by
  obtain ⟨cs, hcs⟩ : ∃ cs, cs = x.cells.toArray := ⟨_, rfl⟩
  rw [← hcs]
  have HF := Lib.hid (box_facts (w := w.alloc (.cells cs 33)) hx (by rw [← hcs]; exact heap_alloc_last w _))
  have HW := Lib.hid (own_keep hO (below_n1 w (.cells cs 33)))
  have HB := Lib.hid (hb.on (below_n1 w (.cells cs 33)))
  have HA := Lib.hid ((Aw.refl S w).alloc (.cells cs 33))
  have HS := Lib.hid (show ∀ k, S k → k < (w.alloc (.cells cs 33)).heap.size from fun k hk => by have := hSS k hk; simp; omega)
  obtain ⟨va, vc, hv⟩ := own_form hO.1
  obtain ⟨L, hL⟩ : ∃ L, L = l.length := ⟨_, rfl⟩
  subst hv
  rw [← hL] at HW hO ⊢
  have HL := Lib.hid hL
  clear hO hb hcs hL
  have HE := Lib.hid (show enc x = bytesOf (u64 x.n) 8 by unfold enc; simp [hk])
  obtain ⟨kd, hkd⟩ : ∃ kd, kd = x.kind := ⟨_, rfl⟩
  obtain ⟨c0, c1, c2, c3, c4, c37, c38⟩ := HF.out.1
  obtain ⟨nn, hnn⟩ : ∃ nn, nn = x.n := ⟨_, rfl⟩
  rw [← hkd] at c0 hk
  rw [← hnn] at c1
  obtain ⟨m, hm⟩ : ∃ m : Nat, m = u64 nn := ⟨_, rfl⟩
  have hnz : IntKind.u64.wrap nn = (m : Int) := by rw [hm, u64_wrap]
  have hml : m < 18446744073709551616 := by rw [hm]; exact u64_lt nn
  rw [hnn] at hm
  have HN := Lib.hid hm
  clear hkd hnn hm
  subst hk
  go_enter Try.func11, Try.ntmps11
  go_wp2_with fail
  refine (num_any l m 8 hml (by omega) _ _ (by have h := own_bs HW.out.1; exact h) (by omega)).mono ?_
  rw [HN.out]
  rintro e w1 ⟨⟨v', rfl, ho⟩, hb1⟩
  have HO := Lib.hid (own_new ho (S := S) HS.out)
  have hA2 := HA.out.trans (Aw.of (S := S) hb1)
  obtain ⟨a9, n9, c9, hv9⟩ := own_form3 ho
  subst hv9
  clear ho
  go_wp2_with fail
  go_ret
  exact ⟨⟨_, rfl, by rw [HE.out]; exact HO.out⟩, hA2⟩

set_option maxHeartbeats 2000000 in
theorem laid_4 (S : Nat → Prop) (l : List UInt8) (x : It) (hx : ItOk x) (hk : x.kind = 4) (v : Value) (w : World) (hSS : ∀ k, S k → k < w.heap.size) (hO : Own S v l w) (hb : Bs w (.slice x.a x.plen x.pcap) x.p) (hp : x.p.length ≤ 3000) (hsz : l.length ≤ 1000000) :
    Calls Try.prog 11 #[v, .agg x.cells.toArray] w fun e w' => (∃ v', e = .returned v' ∧ Own S v' (l ++ enc x) w') ∧ Aw S w w' := by
  obtain ⟨cs, hcs⟩ : ∃ cs, cs = x.cells.toArray := ⟨_, rfl⟩
  rw [← hcs]
  have HF := Lib.hid (box_facts (w := w.alloc (.cells cs 33)) hx (by rw [← hcs]; exact heap_alloc_last w _))
  have HW := Lib.hid (own_keep hO (below_n1 w (.cells cs 33)))
  have HB := Lib.hid (hb.on (below_n1 w (.cells cs 33)))
  have HA := Lib.hid ((Aw.refl S w).alloc (.cells cs 33))
  have HS := Lib.hid (show ∀ k, S k → k < (w.alloc (.cells cs 33)).heap.size from fun k hk => by have := hSS k hk; simp; omega)
  obtain ⟨va, vc, hv⟩ := own_form hO.1
  obtain ⟨L, hL⟩ : ∃ L, L = l.length := ⟨_, rfl⟩
  subst hv
  rw [← hL] at HW hO ⊢
  have HL := Lib.hid hL
  clear hO hb hcs hL
  have HE := Lib.hid (show enc x = bytesOf (u64 x.n) 5 by unfold enc; simp [hk])
  obtain ⟨kd, hkd⟩ : ∃ kd, kd = x.kind := ⟨_, rfl⟩
  obtain ⟨c0, c1, c2, c3, c4, c37, c38⟩ := HF.out.1
  obtain ⟨nn, hnn⟩ : ∃ nn, nn = x.n := ⟨_, rfl⟩
  rw [← hkd] at c0 hk
  rw [← hnn] at c1
  obtain ⟨m, hm⟩ : ∃ m : Nat, m = u64 nn := ⟨_, rfl⟩
  have hnz : IntKind.u64.wrap nn = (m : Int) := by rw [hm, u64_wrap]
  have hml : m < 18446744073709551616 := by rw [hm]; exact u64_lt nn
  rw [hnn] at hm
  have HN := Lib.hid hm
  clear hkd hnn hm
  subst hk
  go_enter Try.func11, Try.ntmps11
  go_wp2_with fail
  refine (num_any l m 5 hml (by omega) _ _ (by have h := own_bs HW.out.1; exact h) (by omega)).mono ?_
  rw [HN.out]
  rintro e w1 ⟨⟨v', rfl, ho⟩, hb1⟩
  have HO := Lib.hid (own_new ho (S := S) HS.out)
  have hA2 := HA.out.trans (Aw.of (S := S) hb1)
  obtain ⟨a9, n9, c9, hv9⟩ := own_form3 ho
  subst hv9
  clear ho
  go_wp2_with fail
  go_ret
  exact ⟨⟨_, rfl, by rw [HE.out]; exact HO.out⟩, hA2⟩

set_option maxHeartbeats 2000000 in
theorem laid_5 (S : Nat → Prop) (l : List UInt8) (x : It) (hx : ItOk x) (hk : x.kind = 5) (v : Value) (w : World) (hSS : ∀ k, S k → k < w.heap.size) (hO : Own S v l w) (hb : Bs w (.slice x.a x.plen x.pcap) x.p) (hp : x.p.length ≤ 3000) (hsz : l.length ≤ 1000000) :
    Calls Try.prog 11 #[v, .agg x.cells.toArray] w fun e w' => (∃ v', e = .returned v' ∧ Own S v' (l ++ enc x) w') ∧ Aw S w w' := by
  obtain ⟨cs, hcs⟩ : ∃ cs, cs = x.cells.toArray := ⟨_, rfl⟩
  rw [← hcs]
  have HF := Lib.hid (box_facts (w := w.alloc (.cells cs 33)) hx (by rw [← hcs]; exact heap_alloc_last w _))
  have HW := Lib.hid (own_keep hO (below_n1 w (.cells cs 33)))
  have HB := Lib.hid (hb.on (below_n1 w (.cells cs 33)))
  have HA := Lib.hid ((Aw.refl S w).alloc (.cells cs 33))
  have HS := Lib.hid (show ∀ k, S k → k < (w.alloc (.cells cs 33)).heap.size from fun k hk => by have := hSS k hk; simp; omega)
  obtain ⟨va, vc, hv⟩ := own_form hO.1
  obtain ⟨L, hL⟩ : ∃ L, L = l.length := ⟨_, rfl⟩
  subst hv
  rw [← hL] at HW hO ⊢
  have HL := Lib.hid hL
  clear hO hb hcs hL
  have HE := Lib.hid (show enc x = numsOf 5 [x.v0, x.v1, x.v2] by unfold enc; simp [hk])
  obtain ⟨kd, hkd⟩ : ∃ kd, kd = x.kind := ⟨_, rfl⟩
  obtain ⟨c0, c1, c2, c3, c4, c37, c38⟩ := HF.out.1
  obtain ⟨nn, hnn⟩ : ∃ nn, nn = x.n := ⟨_, rfl⟩
  rw [← hkd] at c0 hk
  rw [← hnn] at c1
  obtain ⟨m, hm⟩ : ∃ m : Nat, m = u64 nn := ⟨_, rfl⟩
  have hnz : IntKind.u64.wrap nn = (m : Int) := by rw [hm, u64_wrap]
  have hml : m < 18446744073709551616 := by rw [hm]; exact u64_lt nn
  rw [hnn] at hm
  have HN := Lib.hid hm
  clear hkd hnn hm
  subst hk
  go_enter Try.func11, Try.ntmps11
  go_wp2_with fail
  refine (dvec_any l x.v0 x.v1 x.v2 _ _ (by have h := own_bs HW.out.1; exact h) (by omega)).mono ?_
  rintro e w1 ⟨⟨v', rfl, ho⟩, hb1⟩
  have HO := Lib.hid (own_new ho (S := S) HS.out)
  have hA2 := HA.out.trans (Aw.of (S := S) hb1)
  obtain ⟨a9, n9, c9, hv9⟩ := own_form3 ho
  subst hv9
  clear ho
  go_wp2_with fail
  go_ret
  exact ⟨⟨_, rfl, by rw [HE.out]; exact HO.out⟩, hA2⟩

set_option maxHeartbeats 2000000 in
theorem laid_6 (S : Nat → Prop) (l : List UInt8) (x : It) (hx : ItOk x) (hk : x.kind = 6) (v : Value) (w : World) (hSS : ∀ k, S k → k < w.heap.size) (hO : Own S v l w) (hb : Bs w (.slice x.a x.plen x.pcap) x.p) (hp : x.p.length ≤ 3000) (hsz : l.length ≤ 1000000) :
    Calls Try.prog 11 #[v, .agg x.cells.toArray] w fun e w' => (∃ v', e = .returned v' ∧ Own S v' (l ++ enc x) w') ∧ Aw S w w' := by
  obtain ⟨cs, hcs⟩ : ∃ cs, cs = x.cells.toArray := ⟨_, rfl⟩
  rw [← hcs]
  have HF := Lib.hid (box_facts (w := w.alloc (.cells cs 33)) hx (by rw [← hcs]; exact heap_alloc_last w _))
  have HW := Lib.hid (own_keep hO (below_n1 w (.cells cs 33)))
  have HB := Lib.hid (hb.on (below_n1 w (.cells cs 33)))
  have HA := Lib.hid ((Aw.refl S w).alloc (.cells cs 33))
  have HS := Lib.hid (show ∀ k, S k → k < (w.alloc (.cells cs 33)).heap.size from fun k hk => by have := hSS k hk; simp; omega)
  obtain ⟨va, vc, hv⟩ := own_form hO.1
  obtain ⟨L, hL⟩ : ∃ L, L = l.length := ⟨_, rfl⟩
  subst hv
  rw [← hL] at HW hO ⊢
  have HL := Lib.hid hL
  clear hO hb hcs hL
  have HE := Lib.hid (show enc x = numsOf 5 [x.v0, x.v1, x.v2] by unfold enc; simp [hk])
  obtain ⟨kd, hkd⟩ : ∃ kd, kd = x.kind := ⟨_, rfl⟩
  obtain ⟨c0, c1, c2, c3, c4, c37, c38⟩ := HF.out.1
  obtain ⟨nn, hnn⟩ : ∃ nn, nn = x.n := ⟨_, rfl⟩
  rw [← hkd] at c0 hk
  rw [← hnn] at c1
  obtain ⟨m, hm⟩ : ∃ m : Nat, m = u64 nn := ⟨_, rfl⟩
  have hnz : IntKind.u64.wrap nn = (m : Int) := by rw [hm, u64_wrap]
  have hml : m < 18446744073709551616 := by rw [hm]; exact u64_lt nn
  rw [hnn] at hm
  have HN := Lib.hid hm
  clear hkd hnn hm
  subst hk
  go_enter Try.func11, Try.ntmps11
  go_wp2_with fail
  refine (dvec_any l x.v0 x.v1 x.v2 _ _ (by have h := own_bs HW.out.1; exact h) (by omega)).mono ?_
  rintro e w1 ⟨⟨v', rfl, ho⟩, hb1⟩
  have HO := Lib.hid (own_new ho (S := S) HS.out)
  have hA2 := HA.out.trans (Aw.of (S := S) hb1)
  obtain ⟨a9, n9, c9, hv9⟩ := own_form3 ho
  subst hv9
  clear ho
  go_wp2_with fail
  go_ret
  exact ⟨⟨_, rfl, by rw [HE.out]; exact HO.out⟩, hA2⟩

set_option maxHeartbeats 2000000 in
theorem laid_7 (S : Nat → Prop) (l : List UInt8) (x : It) (hx : ItOk x) (hk : x.kind = 7) (v : Value) (w : World) (hSS : ∀ k, S k → k < w.heap.size) (hO : Own S v l w) (hb : Bs w (.slice x.a x.plen x.pcap) x.p) (hp : x.p.length ≤ 3000) (hsz : l.length ≤ 1000000) :
    Calls Try.prog 11 #[v, .agg x.cells.toArray] w fun e w' => (∃ v', e = .returned v' ∧ Own S v' (l ++ enc x) w') ∧ Aw S w w' := by
  obtain ⟨cs, hcs⟩ : ∃ cs, cs = x.cells.toArray := ⟨_, rfl⟩
  rw [← hcs]
  have HF := Lib.hid (box_facts (w := w.alloc (.cells cs 33)) hx (by rw [← hcs]; exact heap_alloc_last w _))
  have HW := Lib.hid (own_keep hO (below_n1 w (.cells cs 33)))
  have HB := Lib.hid (hb.on (below_n1 w (.cells cs 33)))
  have HA := Lib.hid ((Aw.refl S w).alloc (.cells cs 33))
  have HS := Lib.hid (show ∀ k, S k → k < (w.alloc (.cells cs 33)).heap.size from fun k hk => by have := hSS k hk; simp; omega)
  obtain ⟨va, vc, hv⟩ := own_form hO.1
  obtain ⟨L, hL⟩ : ∃ L, L = l.length := ⟨_, rfl⟩
  subst hv
  rw [← hL] at HW hO ⊢
  have HL := Lib.hid hL
  clear hO hb hcs hL
  have HE := Lib.hid (show enc x = x.d by unfold enc; simp [hk])
  obtain ⟨kd, hkd⟩ : ∃ kd, kd = x.kind := ⟨_, rfl⟩
  obtain ⟨c0, c1, c2, c3, c4, c37, c38⟩ := HF.out.1
  obtain ⟨nn, hnn⟩ : ∃ nn, nn = x.n := ⟨_, rfl⟩
  rw [← hkd] at c0 hk
  rw [← hnn] at c1
  obtain ⟨m, hm⟩ : ∃ m : Nat, m = u64 nn := ⟨_, rfl⟩
  have hnz : IntKind.u64.wrap nn = (m : Int) := by rw [hm, u64_wrap]
  have hml : m < 18446744073709551616 := by rw [hm]; exact u64_lt nn
  rw [hnn] at hm
  have HN := Lib.hid hm
  clear hkd hnn hm
  subst hk
  go_enter Try.func11, Try.ntmps11
  obtain ⟨i0, hi, hz0, hz1, hz2⟩ := info_parts infoByte
  have HR := Lib.hid (show ∀ j u, (vals x.d)[j]? = some u → (w.alloc (.cells cs 33)).cell? ((⟨w.heap.size, 5, none⟩ : Addr).add j) = some u from fun j u hu => by rw [Addr.add_mid]; exact HF.out.2 j u hu)
  have HLD := Lib.hid (show (vals x.d).length = 32 * 1 by rw [vals_length, hx.1])
  go_wp2_with (first | (at_builtin; refine wpList_append_own_at _ rfl _ _ 28 rfl 0 5 i0 (.int .u8 0) 1 1 Try.underlying28 hi hz0 hz1 hz2 rfl (by decide) _ _ _ rfl HW.out.1 ⟨w.heap.size, 5, none⟩ 32 32 (vals x.d) rfl HLD.out HR.out (vals_one _) ?c3 ?c4 (Nat.zero_le _) ?_))
  case c3 => unfold maxLen; omega
  case c4 => omega
  intro v' w1 hown hgrow _ hat
  have hA2 := HA.out.step hgrow HW.out.2
  have HO := Lib.hid (show Own S v' (l ++ x.d) w1 from ⟨by rw [vals_append, List.length_append, hx.1]; exact hown, fun q hq e => by
    rcases hat with h | h
    · exact HW.out.2 q (by rw [← h]; exact hq) e
    · rw [h] at hq; cases hq; exact absurd (HS.out _ e) (by simp)⟩)
  obtain ⟨a9, n9, c9, hv9⟩ := own_form3 HO.out.1
  subst hv9
  clear hown hgrow hat
  go_wp2_with fail
  go_ret
  exact ⟨⟨_, rfl, by rw [HE.out]; exact HO.out⟩, hA2⟩

set_option maxHeartbeats 2000000 in
theorem laid_8 (S : Nat → Prop) (l : List UInt8) (x : It) (hx : ItOk x) (hk : x.kind = 8) (v : Value) (w : World) (hSS : ∀ k, S k → k < w.heap.size) (hO : Own S v l w) (hb : Bs w (.slice x.a x.plen x.pcap) x.p) (hp : x.p.length ≤ 3000) (hsz : l.length ≤ 1000000) :
    Calls Try.prog 11 #[v, .agg x.cells.toArray] w fun e w' => (∃ v', e = .returned v' ∧ Own S v' (l ++ enc x) w') ∧ Aw S w w' := by
  obtain ⟨cs, hcs⟩ : ∃ cs, cs = x.cells.toArray := ⟨_, rfl⟩
  rw [← hcs]
  have HF := Lib.hid (box_facts (w := w.alloc (.cells cs 33)) hx (by rw [← hcs]; exact heap_alloc_last w _))
  have HW := Lib.hid (own_keep hO (below_n1 w (.cells cs 33)))
  have HB := Lib.hid (hb.on (below_n1 w (.cells cs 33)))
  have HA := Lib.hid ((Aw.refl S w).alloc (.cells cs 33))
  have HS := Lib.hid (show ∀ k, S k → k < (w.alloc (.cells cs 33)).heap.size from fun k hk => by have := hSS k hk; simp; omega)
  obtain ⟨va, vc, hv⟩ := own_form hO.1
  obtain ⟨L, hL⟩ : ∃ L, L = l.length := ⟨_, rfl⟩
  subst hv
  rw [← hL] at HW hO ⊢
  have HL := Lib.hid hL
  clear hO hb hcs hL
  have HE := Lib.hid (show enc x = bytesOf x.p.length 4 ++ x.p by unfold enc; simp [hk])
  obtain ⟨kd, hkd⟩ : ∃ kd, kd = x.kind := ⟨_, rfl⟩
  obtain ⟨c0, c1, c2, c3, c4, c37, c38⟩ := HF.out.1
  obtain ⟨nn, hnn⟩ : ∃ nn, nn = x.n := ⟨_, rfl⟩
  rw [← hkd] at c0 hk
  rw [← hnn] at c1
  obtain ⟨m, hm⟩ : ∃ m : Nat, m = u64 nn := ⟨_, rfl⟩
  have hnz : IntKind.u64.wrap nn = (m : Int) := by rw [hm, u64_wrap]
  have hml : m < 18446744073709551616 := by rw [hm]; exact u64_lt nn
  rw [hnn] at hm
  have HN := Lib.hid hm
  clear hkd hnn hm
  subst hk
  go_enter Try.func11, Try.ntmps11
  go_wp2_with fail
  refine (dblob_any l x.p _ _ _ _ _ (by have h := own_bs HW.out.1; exact h) HB.out (by omega)).mono ?_
  rw [List.append_assoc]
  rintro e w1 ⟨⟨v', rfl, ho⟩, hb1⟩
  have HO := Lib.hid (own_new ho (S := S) HS.out)
  have hA2 := HA.out.trans (Aw.of (S := S) hb1)
  obtain ⟨a9, n9, c9, hv9⟩ := own_form3 ho
  subst hv9
  clear ho
  go_wp2_with fail
  go_ret
  exact ⟨⟨_, rfl, by rw [HE.out]; exact HO.out⟩, hA2⟩

set_option maxHeartbeats 2000000 in
theorem laid_other (S : Nat → Prop) (l : List UInt8) (x : It) (hx : ItOk x) (hk : x.kind < 0 ∨ 8 < x.kind) (v : Value) (w : World) (hSS : ∀ k, S k → k < w.heap.size) (hO : Own S v l w) (hb : Bs w (.slice x.a x.plen x.pcap) x.p) (hp : x.p.length ≤ 3000) (hsz : l.length ≤ 1000000) :
    Calls Try.prog 11 #[v, .agg x.cells.toArray] w fun e w' => (∃ v', e = .returned v' ∧ Own S v' (l ++ enc x) w') ∧ Aw S w w' := by
  obtain ⟨cs, hcs⟩ : ∃ cs, cs = x.cells.toArray := ⟨_, rfl⟩
  rw [← hcs]
  have HF := Lib.hid (box_facts (w := w.alloc (.cells cs 33)) hx (by rw [← hcs]; exact heap_alloc_last w _))
  have HW := Lib.hid (own_keep hO (below_n1 w (.cells cs 33)))
  have HB := Lib.hid (hb.on (below_n1 w (.cells cs 33)))
  have HA := Lib.hid ((Aw.refl S w).alloc (.cells cs 33))
  have HS := Lib.hid (show ∀ k, S k → k < (w.alloc (.cells cs 33)).heap.size from fun k hk => by have := hSS k hk; simp; omega)
  obtain ⟨va, vc, hv⟩ := own_form hO.1
  obtain ⟨L, hL⟩ : ∃ L, L = l.length := ⟨_, rfl⟩
  subst hv
  rw [← hL] at HW hO ⊢
  have HL := Lib.hid hL
  clear hO hb hcs hL
  have HE := Lib.hid (show enc x = [] by unfold enc; rw [if_neg (by omega), if_neg (by omega), if_neg (by omega), if_neg (by omega), if_neg (by omega), if_neg (by omega), if_neg (by omega), if_neg (by omega), if_neg (by omega)])
  obtain ⟨kd, hkd⟩ : ∃ kd, kd = x.kind := ⟨_, rfl⟩
  obtain ⟨c0, c1, c2, c3, c4, c37, c38⟩ := HF.out.1
  obtain ⟨nn, hnn⟩ : ∃ nn, nn = x.n := ⟨_, rfl⟩
  rw [← hkd] at c0 hk
  rw [← hnn] at c1
  obtain ⟨m, hm⟩ : ∃ m : Nat, m = u64 nn := ⟨_, rfl⟩
  have hnz : IntKind.u64.wrap nn = (m : Int) := by rw [hm, u64_wrap]
  have hml : m < 18446744073709551616 := by rw [hm]; exact u64_lt nn
  rw [hnn] at hm
  have HN := Lib.hid hm
  clear hkd hnn hm
  have e0 : (kd == 0) = false := by simp; omega
  have e1 : (kd == 1) = false := by simp; omega
  have e2 : (kd == 2) = false := by simp; omega
  have e3 : (kd == 3) = false := by simp; omega
  have e4 : (kd == 4) = false := by simp; omega
  have e5 : (kd == 5) = false := by simp; omega
  have e6 : (kd == 6) = false := by simp; omega
  have e7 : (kd == 7) = false := by simp; omega
  have e8 : (kd == 8) = false := by simp; omega
  go_enter Try.func11, Try.ntmps11
  have HO := Lib.hid (show Own S (.slice va L vc) (l ++ []) (w.alloc (.cells cs 33)) by rw [List.append_nil]; exact HW.out)
  have hA2 := HA.out
  go_wp2_with fail
  go_ret
  exact ⟨⟨_, rfl, by rw [HE.out]; exact HO.out⟩, hA2⟩

theorem laid_any (S : Nat → Prop) (l : List UInt8) (x : It) (hx : ItOk x) (v : Value) (w : World) (hSS : ∀ k, S k → k < w.heap.size) (hO : Own S v l w) (hb : Bs w (.slice x.a x.plen x.pcap) x.p) (hp : x.p.length ≤ 3000) (hsz : l.length ≤ 1000000) :
    Calls Try.prog 11 #[v, .agg x.cells.toArray] w fun e w' => (∃ v', e = .returned v' ∧ Own S v' (l ++ enc x) w') ∧ Aw S w w' := by
  by_cases h : x.kind < 0 ∨ 8 < x.kind
  · exact laid_other S l x hx h v w hSS hO hb hp hsz
  · have hc : x.kind = 0 ∨ x.kind = 1 ∨ x.kind = 2 ∨ x.kind = 3 ∨ x.kind = 4 ∨ x.kind = 5 ∨ x.kind = 6 ∨ x.kind = 7 ∨ x.kind = 8 := by omega
    rcases hc with hk | hk | hk | hk | hk | hk | hk | hk | hk
    · exact laid_0 S l x hx hk v w hSS hO hb hp hsz
    · exact laid_1 S l x hx hk v w hSS hO hb hp hsz
    · exact laid_2 S l x hx hk v w hSS hO hb hp hsz
    · exact laid_3 S l x hx hk v w hSS hO hb hp hsz
    · exact laid_4 S l x hx hk v w hSS hO hb hp hsz
    · exact laid_5 S l x hx hk v w hSS hO hb hp hsz
    · exact laid_6 S l x hx hk v w hSS hO hb hp hsz
    · exact laid_7 S l x hx hk v w hSS hO hb hp hsz
    · exact laid_8 S l x hx hk v w hSS hO hb hp hsz
end Go.Proofs.Ytgabpmoibmhigaa.Re
