/- Layer 7: the contracts of the document's own reader: numbers, what is left, the end. -/
import Derived.Test.YtgkfoiekminfmaaC40
namespace Go.Proofs.Ytgkfoiekminfmaa.Re
open Go.RowKit Go.Proofs.Ytgkfoiekminfmaa Go.Proofs.Ytgkfoiekminfmaa.Rp
set_option linter.unusedVariables false

theorem raw_any (g N : Nat) (a : Option Addr) (n c : Nat) (lb : List UInt8) (s : St) (k : Nat) (hk : k ≤ 1099511627776) (w : World) (h : MAt g N a n c lb s w) :
    Calls Try.prog 75 #[.pointer (some ⟨g, 0, none⟩), .int .i64 k] w fun e w' => (∃ v, e = .returned v ∧ w'.ownsRow w.heap.size 5 1 v (takeS s k).1.length (vals (takeS s k).1)) ∧ MAt g N a n c lb (takeS s k).2 w' ∧ Aft g w.heap.size w w' := by
  obtain ⟨l, e⟩ := s
  by_cases he : e = 0
  · subst he
    by_cases hs : l.length < k
    · rw [takeS_short hs]
      exact (raw_short g N a n c lb l k (by omega) w h hs).mono fun _ _ ⟨he, h1, h2⟩ => ⟨⟨_, he, World.ownsRow_nil _ _ _ _⟩, h1, h2⟩
    · rw [takeS_ok (by omega)]
      refine (raw_ok g N a n c lb l k hk w h (by omega)).mono fun _ _ ⟨⟨v, he, ho⟩, h1, h2⟩ => ⟨⟨v, he, ?_⟩, h1, h2⟩
      rw [List.length_take, Nat.min_eq_left (by omega)]; exact ho
  · rw [takeS_err k he]
    exact (raw_err g N a n c lb (l, e) k w h he).mono fun _ _ ⟨he, h1⟩ => ⟨⟨_, he, World.ownsRow_nil _ _ _ _⟩, by rw [h1]; exact h, by rw [h1]; exact Aft.refl _ _ _⟩

theorem raw_lit (g N : Nat) (a : Option Addr) (n c : Nat) (lb : List UInt8) (s : St) (x : Int) (k : Nat) (hx : x = k) (hk : k ≤ 1099511627776) (w : World) (h : MAt g N a n c lb s w) :
    Calls Try.prog 75 #[.pointer (some ⟨g, 0, none⟩), .int .i64 x] w fun e w' => (∃ a' m c', e = .returned (.slice a' m c') ∧ m ≤ k ∧ Hid (m = (takeS s k).1.length) ∧ w'.ownsRow w.heap.size 5 1 (.slice a' m c') (takeS s k).1.length (vals (takeS s k).1)) ∧ MAt g N a n c lb (takeS s k).2 w' ∧ Aft g w.heap.size w w' := by
  subst hx
  refine (raw_any g N a n c lb s k hk w h).mono fun _ _ ⟨⟨v, h1, h2⟩, h3, h4⟩ => ?_
  obtain ⟨a', c', hv⟩ := own_form h2
  subst hv
  exact ⟨⟨a', _, c', h1, takeS_len s k, Lib.hid rfl, h2⟩, h3, h4⟩

theorem numOf_drop (q : List UInt8) (k : Nat) (h : k < q.length) : numOf (q.drop k) = q[k].toNat + 256 * numOf (q.drop (k + 1)) := by
  rw [List.drop_eq_getElem_cons h]; rfl

set_option maxRecDepth 100000 in
set_option maxHeartbeats 1000000 in
theorem mnum_any (g N : Nat) (a : Option Addr) (n c : Nat) (lb : List UInt8) (s : St) (k : Nat) (hk : k ≤ 8) (w : World) (h : MAt g N a n c lb s w) :
    Calls Try.prog 63 #[.pointer (some ⟨g, 0, none⟩), .int .i64 k] w fun e w' => e = .returned (.int .u64 (numS s k).1) ∧ MAt g N a n c lb (numS s k).2 w' ∧ Aft g w.heap.size w w' := by
  go_enter Try.func63, Try.ntmps63
  go_wp2_with fail
  refine (raw_lit g N a n c lb s k k rfl (by omega) _ h).mono ?_
  rintro e w1 ⟨⟨pa, m, pc, rfl, hm, HM, ho⟩, hr, hA⟩
  have hlt8 := numS_lt s k
  obtain ⟨q, hq⟩ : ∃ q, q = (takeS s k).1 := ⟨_, rfl⟩
  have HV := Lib.hid (show numOf q = (numS s k).1 by rw [hq]; rfl)
  rw [← hq] at HM ho
  have HB := Lib.hid (own_bs ho)
  have HR := Lib.hid hr
  have HA := Lib.hid hA
  have HLT := Lib.hid hlt8
  clear ho hq hr hA h hlt8
  go_wp2_with fail
  go_loopw [6, 7] (fun v i wr => ∃ j : Nat, j ≤ m ∧ i = .int .i64 ((j : Int) - 1) ∧ wr = w1 ∧ ∃ y : Nat, v = .int .u64 y ∧ (y : Int) ≤ 18446744073709551615 ∧ Hid (y < 256 ^ (m - j)) ∧ Hid (y = numOf (q.drop j))) (fun _ i _ => (intOf i + 1).toNat)
  case atStart => exact ⟨m, Nat.le_refl _, by go_num, rfl, 0, rfl, by decide, Lib.hid (by simp), Lib.hid (by rw [List.drop_eq_nil_of_le (by have := HM.out; omega)]; rfl)⟩
  case round =>
    obtain ⟨j, hj, rfl, rfl, y, rfl, hyu, Hy, HY⟩ := hrel
    by_cases hj0 : j = 0
    · subst hj0
      have hneg : ¬ (0 : Int) ≤ ((0 : Nat) : Int) - 1 := by omega
      go_wp2
      go_ret
      refine ⟨?_, HR.out, HA.out⟩
      have h1 := HY.out
      rw [List.drop_zero, HV.out] at h1
      rw [h1]; rfl
    · obtain ⟨i, rfl⟩ : ∃ i, j = i + 1 := ⟨j - 1, by omega⟩
      have hpos : (0 : Int) ≤ ((i + 1 : Nat) : Int) - 1 := by omega
      have hi1 : ((i + 1 : Nat) : Int) - 1 = (i : Int) := by omega
      rw [hi1] at hpos ⊢
      have hiq : i < q.length := by have := HM.out; omega
      obtain ⟨ad, rfl, hc⟩ := bs_cell HB.out hiq
      obtain ⟨b, hb⟩ : ∃ b, b = q[i] := ⟨_, rfl⟩
      rw [← hb] at hc
      have hb8 := b.toNat_lt
      have HD : Hid (y * 256 + b.toNat = numOf (q.drop i)) := by
        refine Lib.hid ?_
        have hND := numOf_drop q i hiq
        rw [← hb, ← HY.out] at hND
        rw [hND]; omega
      have HZ : Hid (y * 256 + b.toNat < 256 ^ (m - i)) := by
        refine Lib.hid ?_
        have hpe : m - i = (m - (i + 1)) + 1 := by omega
        have hy := Hy.out
        rw [hpe, Nat.pow_succ]; omega
      have hy3 : ((y : Int) * 256 + (b.toNat : Int)) ≤ 18446744073709551615 := by
        have h1 := HZ.out
        have hpw := pow_le (m - i) (by omega)
        omega
      have hy4 : (y : Int) * 256 ≤ 18446744073709551615 := by omega
      have him : (i : Int) < m := by omega
      clear hb hiq
      go_wp2_with fail
      go_roundw
      case rel => exact ⟨i, by omega, by go_num, trivial, y * 256 + b.toNat, by go_num, by omega, HZ, HD⟩
      case measure => simp [intOf]

theorem mnum_lit (g N : Nat) (a : Option Addr) (n c : Nat) (lb : List UInt8) (s : St) (x : Int) (k : Nat) (hx : x = k) (hk : k ≤ 8) (w : World) (h : MAt g N a n c lb s w) :
    Calls Try.prog 63 #[.pointer (some ⟨g, 0, none⟩), .int .i64 x] w fun e w' => (∃ y : Nat, e = .returned (.int .u64 y) ∧ y < 256 ^ k ∧ Hid (y = (numS s k).1)) ∧ MAt g N a n c lb (numS s k).2 w' ∧ Aft g w.heap.size w w' := by
  subst hx
  exact (mnum_any g N a n c lb s k hk w h).mono fun e w' ⟨h1, h2, h3⟩ => ⟨⟨_, h1, numS_lt s k, Lib.hid rfl⟩, h2, h3⟩

theorem mnum_z (g N : Nat) (a : Option Addr) (n c : Nat) (lb : List UInt8) (s : St) (x : Int) (k : Nat) (hx : x = k) (hk : k ≤ 8) (w : World) (h : MAt g N a n c lb s w) :
    Calls Try.prog 63 #[.pointer (some ⟨g, 0, none⟩), .int .i64 x] w fun e w' => (∃ z : Int, e = .returned (.int .u64 z) ∧ 0 ≤ z ∧ Hid (∃ y : Nat, z = y ∧ y < 256 ^ k ∧ y = (numS s k).1)) ∧ MAt g N a n c lb (numS s k).2 w' ∧ Aft g w.heap.size w w' := by
  subst hx
  exact (mnum_any g N a n c lb s k hk w h).mono fun e w' ⟨h1, h2, h3⟩ => ⟨⟨_, h1, by omega, Lib.hid ⟨_, rfl, numS_lt s k, rfl⟩⟩, h2, h3⟩

theorem MAt.err {g N : Nat} {a : Option Addr} {n c : Nat} {lb : List UInt8} {s : St} {w : World} (h : MAt g N a n c lb s w) : w.cell? ⟨g, 2, none⟩ = some (.int .i64 s.2) ∧ w.frozen? ⟨g, 2, none⟩ = false ∧ N ≤ g ∧ g < w.heap.size := by
  obtain ⟨h1, h2, h3, h4, h5, h6, h7, h8, p, h9, h10, h11⟩ := h
  exact ⟨h5, h3 2, h1, h2⟩
theorem MAt.setFar {g N : Nat} {a : Option Addr} {n c : Nat} {lb : List UInt8} {s : St} {w : World} (h : MAt g N a n c lb s w) {b : Nat} (hb : g < b) (i : Nat) (u : Value) : MAt g N a n c lb s (w.setCell ⟨b, i, none⟩ u) := by
  obtain ⟨h1, h2, h3, h4, h5, h6, h7, h8, p, h9, h10, h11⟩ := h
  exact ⟨h1, by simpa using h2, fun j => by rw [World.frozen?_setCell]; exact h3 j, by rw [cfar (by omega)]; exact h4, by rw [cfar (by omega)]; exact h5, mset _ h6 (fun ad e he => by have := h8 ad e he; omega), h7, h8, p, h9, h10, by rw [cfar (by omega)]; exact h11⟩

theorem msmall_any (g N : Nat) (a : Option Addr) (n c : Nat) (lb : List UInt8) (s : St) (w : World) (h : MAt g N a n c lb s w) :
    Calls Try.prog 48 #[.pointer (some ⟨g, 0, none⟩)] w fun e w' => e = .returned (.int .i64 (small16 (numS s 2).1)) ∧ MAt g N a n c lb (numS s 2).2 w' ∧ Aft g w.heap.size w w' := by
  go_enter Try.func48, Try.ntmps48
  go_wp2_with (go_at_call 63; refine (mnum_z g N a n c lb s 2 2 rfl (by omega) _ h).mono ?_; rintro e w1 ⟨⟨z, rfl, hz0, HY⟩, hr, hA⟩; have hz1 : z ≤ 65535 := by obtain ⟨y, h1, h2, -⟩ := HY.out; omega)
  all_goals go_ret
  all_goals refine ⟨?_, hr, hA⟩
  all_goals obtain ⟨y, hy1, -, hy2⟩ := HY.out
  all_goals rw [← hy2]
  all_goals exact congrArg (fun z => Ending.returned (Value.int .i64 z)) (show _ = small16 y by unfold small16; split <;> omega)

set_option maxRecDepth 100000 in
set_option maxHeartbeats 1000000 in
theorem mfix_any (g N : Nat) (a : Option Addr) (n c : Nat) (lb : List UInt8) (s : St) (w : World) (h : MAt g N a n c lb s w) :
    Calls Try.prog 46 #[.pointer (some ⟨g, 0, none⟩)] w fun e w' => e = .returned (.int .i64 (fixS s).1) ∧ MAt g N a n c lb (fixS s).2 w' ∧ Aft g w.heap.size w w' := by
  go_enter Try.func46, Try.ntmps46
  go_wp2_with fail
  refine (mnum_z g N a n c lb s 5 5 rfl (by omega) _ h).mono ?_
  rintro e w1 ⟨⟨z, rfl, hz0, HZ⟩, hr, hA⟩
  have hz1 : z ≤ 1099511627775 := by obtain ⟨y, h1, h2, -⟩ := HZ.out; omega
  clear h
  obtain ⟨t, ht⟩ : ∃ t, t = (numS s 5).2 := ⟨_, rfl⟩
  rw [← ht] at hr
  obtain ⟨l, te⟩ := t
  have HT := Lib.hid ht
  clear ht
  by_cases he : te = 0
  · subst he
    have HE := Lib.hid (hr.setErr 33)
    have HAE := Lib.hid (hA.setCell 2 (.int .i64 33))
    have HR := Lib.hid hr
    obtain ⟨c2, f2, -, hl⟩ := hr.err
    have HA := Lib.hid hA
    clear hr hA
    simp only [] at c2
    go_wp2
    all_goals go_ret
    all_goals obtain ⟨y, hy1, -, HY⟩ := HZ.out
    all_goals first
      | (exfalso; omega)
      | (rw [fix_over HY rfl (by unfold sign40; split <;> omega), ← HT.out]; exact ⟨rfl, HE.out, HAE.out⟩)
      | (rw [fix_in HY rfl (by unfold sign40; split <;> omega), ← HT.out]; exact ⟨congrArg (fun z => Ending.returned (Value.int .i64 z)) (show _ = sign40 y by unfold sign40; split <;> omega), HR.out, HA.out⟩)
  · have HR := Lib.hid hr
    have HF := Lib.hid (show failS (l, te) 33 = (l, te) by unfold failS; rw [if_neg he])
    obtain ⟨c2, f2, -, hl⟩ := hr.err
    have HA := Lib.hid hA
    have he' : (te == 0) = false := by simpa using he
    clear hr hA he
    simp only [] at c2
    go_wp2
    all_goals go_ret
    all_goals obtain ⟨y, hy1, -, HY⟩ := HZ.out
    all_goals first
      | (exfalso; omega)
      | (rw [fix_over HY rfl (by unfold sign40; split <;> omega), ← HT.out]; exact ⟨rfl, by rw [HF.out]; exact HR.out, HA.out⟩)
      | (rw [fix_in HY rfl (by unfold sign40; split <;> omega), ← HT.out]; exact ⟨congrArg (fun z => Ending.returned (Value.int .i64 z)) (show _ = sign40 y by unfold sign40; split <;> omega), HR.out, HA.out⟩)

set_option maxRecDepth 100000 in
theorem mleft_any (g N : Nat) (a : Option Addr) (n c : Nat) (lb : List UInt8) (s : St) (w : World) (h : MAt g N a n c lb s w) :
    Calls Try.prog 64 #[.pointer (some ⟨g, 0, none⟩)] w fun e w' => e = .returned (.int .i64 (leftS s)) ∧ MAt g N a n c lb s w' ∧ Aft g w.heap.size w w' := by
  have HM := Lib.hid (fun nq : Nat => (h.on (w' := w.drewN nq) (below_drewN (Below.refl _ _) nq)))
  have HA := Lib.hid (fun nq : Nat => (Aft.of (g := g) (base := w.heap.size) (below_drewN (Below.refl w.heap.size w) nq)))
  have HM0 := Lib.hid h
  obtain ⟨h1, h2, h3, h4, h5, h6, h7, h8, p, h9, h10, h11⟩ := h
  have hn := bs_len h6
  have hpn : p ≤ n := by omega
  have HL := Lib.hid (show s.1.length = n - p by rw [h10, List.length_drop, hn])
  obtain ⟨l, e⟩ := s
  simp only [] at h5
  clear h6 h10 h8 hn h9 h3
  by_cases he : e = 0
  · subst he
    go_enter Try.func64, Try.ntmps64
    go_wp2
    go_quiet (fail)
    try go_wp2
    go_ret
    refine ⟨congrArg (fun z => Ending.returned (Value.int .i64 z)) (show _ = ((leftS (l, 0) : Nat) : Int) from ?_), HM.out _, HA.out _⟩
    have := HL.out
    simp only [leftS] at this ⊢
    rw [if_neg (by simp)]
    first | (show (n : Int) - (p : Int) = _; omega) | omega
  · have he' : (e == 0) = false := by simpa using he
    have HZ := Lib.hid (show leftS (l, e) = 0 by unfold leftS; rw [if_pos he])
    clear he
    go_enter Try.func64, Try.ntmps64
    go_wp2
    go_ret
    exact ⟨by rw [HZ.out]; rfl, HM0.out, Aft.refl _ _ _⟩
end Go.Proofs.Ytgkfoiekminfmaa.Re
