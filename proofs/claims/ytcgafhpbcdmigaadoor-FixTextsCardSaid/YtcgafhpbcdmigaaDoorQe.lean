/- The contract of the document's own word on the number of a text. -/
import Derived.Test.YtcgafhpbcdmigaaDoorQd
import Derived.Test.YtcgafhpbcdmigaaDoorRu
namespace Go.Proofs.YtcgafhpbcdmigaaDoor.Qa
open Go.RowKit Go.Proofs.YtcgafhpbcdmigaaDoor Go.Proofs.YtcgafhpbcdmigaaDoor.Wa Go.Proofs.YtcgafhpbcdmigaaDoor.Pl
set_option linter.unusedVariables false

/-- the byte at a place -/
def at_ (s : ByteArray) (k : Nat) : Nat := (s.data.toList.getD k 0).toNat

theorem at_is (s : ByteArray) (k : Nat) (h : k < s.size) : s[k].toNat = at_ s k := by
  unfold at_; simp [ByteArray.getElem_eq_getElem_data, h]

theorem at_le (s : ByteArray) (k : Nat) : at_ s k ≤ 255 := by
  unfold at_; have := (s.data.toList.getD k 0).toNat_lt; omega

/-- where the first dot stands, from a place on; none: the end -/
def Dot (s : ByteArray) (f d : Nat) : Prop := f ≤ d ∧ d ≤ s.size ∧ (∀ j, f ≤ j → j < d → at_ s j ≠ 46) ∧ (d = s.size ∨ at_ s d = 46)

theorem Dot.uniq {t : ByteArray} {f d e : Nat} (h : Dot t f d) (g : Dot t f e) : d = e := by
  obtain ⟨h1, h2, h3, h4⟩ := h
  obtain ⟨g1, g2, g3, g4⟩ := g
  rcases Nat.lt_trichotomy d e with hlt | he | hlt
  · rcases h4 with h4 | h4
    · omega
    · exact absurd h4 (g3 d h1 hlt)
  · exact he
  · rcases g4 with g4 | g4
    · omega
    · exact absurd g4 (h3 e g1 hlt)

/-- the dot as found so far -/
def Far1 (s : ByteArray) (f d k : Nat) : Prop := (d = s.size ∧ ∀ j, f ≤ j → j < k → at_ s j ≠ 46) ∨ (d < k ∧ at_ s d = 46 ∧ ∀ j, f ≤ j → j < d → at_ s j ≠ 46)

theorem Far1.end_ {s : ByteArray} {f d k : Nat} (h : Far1 s f d k) (hk : ¬ k < s.size) (hks : k ≤ s.size) (hf : f ≤ d) : Dot s f d := by
  rcases h with ⟨h1, h2⟩ | ⟨h1, h2, h3⟩
  · exact ⟨hf, by omega, fun j a b => h2 j a (by omega), .inl h1⟩
  · exact ⟨hf, by omega, h3, .inr h2⟩

theorem Far1.no {s : ByteArray} {f d k : Nat} (h : Far1 s f d k) (hn : at_ s k ≠ 46) : Far1 s f d (k + 1) := by
  rcases h with ⟨h1, h2⟩ | ⟨h1, h2, h3⟩
  · refine .inl ⟨h1, fun j a b => ?_⟩
    rcases Nat.lt_or_ge j k with hj | hj
    · exact h2 j a hj
    · obtain rfl : j = k := by omega
      exact hn
  · exact .inr ⟨by omega, h2, h3⟩

theorem Far1.yes {s : ByteArray} {f d k : Nat} (h : Far1 s f d k) (hk : k < s.size) (hd : d = s.size) (hn : at_ s k = 46) : Far1 s f k (k + 1) := by
  rcases h with ⟨h1, h2⟩ | ⟨h1, h2, h3⟩
  · exact .inr ⟨by omega, hn, h2⟩
  · omega

theorem Far1.old {s : ByteArray} {f d k : Nat} (h : Far1 s f d k) (hk : k < s.size) (hd : d ≠ s.size) : Far1 s f d (k + 1) := by
  rcases h with ⟨h1, h2⟩ | ⟨h1, h2, h3⟩
  · omega
  · exact .inr ⟨by omega, h2, h3⟩

/-- the whole part's digits, so many of them -/
def nv (t : ByteArray) (f : Nat) : Nat → Nat
  | 0 => 0
  | j + 1 => nv t f j * 10 + (at_ t (f + j) - 48)

/-- the part's digits from the last one on, so many of them -/
def pv (t : ByteArray) : Nat → Nat
  | 0 => 0
  | j + 1 => (pv t j + (at_ t (t.size - 1 - j) - 48) * 65536) / 10

theorem pv_le (t : ByteArray) : ∀ j, (∀ i, i < j → at_ t (t.size - 1 - i) ≤ 57) → pv t j ≤ 65535
  | 0, _ => by simp [pv]
  | j + 1, h => by
    have := pv_le t j (fun i hi => h i (by omega))
    have := h j (by omega)
    unfold pv; omega

theorem nv_le (t : ByteArray) (f : Nat) : ∀ j, (∀ i, i < j → at_ t (f + i) ≤ 57) → nv t f j < 10 ^ j
  | 0, _ => by simp [nv]
  | j + 1, h => by
    have := nv_le t f j (fun i hi => h i (by omega))
    have := h j (by omega)
    unfold nv; rw [Nat.pow_succ]; omega

def digB (t : ByteArray) (k : Nat) : Prop := 48 ≤ at_ t k ∧ at_ t k ≤ 57

def numOf (neg : Bool) (t : ByteArray) (f d : Nat) : Int :=
  if neg then -((nv t f (d - f) : Int) * 65536 + pv t (t.size - 1 - d)) else (nv t f (d - f) : Int) * 65536 + pv t (t.size - 1 - d)

/-- all that is asked of a text -/
def Good (neg : Bool) (f : Nat) (t : ByteArray) : Prop :=
  ∃ d, Dot t f d ∧ d ≠ f ∧ d - f ≤ 5 ∧ t.size - d ≤ 17 ∧ (∀ j, f ≤ j → j < d → digB t j) ∧ (∀ j, d < j → j < t.size → digB t j) ∧
    (-2147483648 ≤ numOf neg t f d ∧ numOf neg t f d ≤ 2147483648) ∧ (⟨(textOf (numOf neg t f d)).toArray⟩ : ByteArray) = t

theorem Good.tells {neg : Bool} {f d : Nat} {t : ByteArray} (g : Good neg f t) (h : Dot t f d) : d ≠ f ∧ d - f ≤ 5 ∧ t.size - d ≤ 17 ∧ (∀ j, f ≤ j → j < d → digB t j) ∧ (∀ j, d < j → j < t.size → digB t j) ∧
    (-2147483648 ≤ numOf neg t f d ∧ numOf neg t f d ≤ 2147483648) ∧ (⟨(textOf (numOf neg t f d)).toArray⟩ : ByteArray) = t := by
  obtain ⟨e, he, hr⟩ := g
  obtain rfl := he.uniq h
  exact hr

def PRes (neg : Bool) (f : Nat) (t : ByteArray) (e : Ending) : Prop :=
  (e = .returned (.tuple #[.int .i64 0, .int .i64 10]) ∧ ¬ Good neg f t) ∨ (∃ a : Int, e = .returned (.tuple #[.int .i64 a, .int .i64 0]) ∧ (⟨(textOf a).toArray⟩ : ByteArray) = t ∧ -2147483648 ≤ a ∧ a ≤ 2147483648)

theorem digs_on {s : ByteArray} {f m : Nat} (h : ∀ k, f ≤ k → k < m → digB s k) (hd : digB s m) : ∀ k, f ≤ k → k < m + 1 → digB s k := by
  intro k h1 h2
  rcases Nat.lt_or_ge k m with hk | hk
  · exact h k h1 hk
  · obtain rfl : k = m := by omega
    exact hd

theorem nv_bd {s : ByteArray} {f m : Nat} (h : ∀ k, f ≤ k → k < m → digB s k) (hm : m - f ≤ 5) : nv s f (m - f) ≤ 99999 := by
  have h1 := nv_le s f (m - f) (fun i hi => (h (f + i) (by omega) (by omega)).2)
  have h2 : 10 ^ (m - f) ≤ 10 ^ 5 := Nat.pow_le_pow_right (by omega) hm
  omega

theorem nv_on (s : ByteArray) {f m : Nat} (hf : f ≤ m) (nn : Nat) (h : nn = nv s f (m - f)) (h48 : 48 ≤ at_ s m) : (nv s f (m + 1 - f) : Int) = nn * 10 + ((at_ s m : Int) - 48) := by
  have e : m + 1 - f = (m - f) + 1 := by omega
  have e2 : f + (m - f) = m := by omega
  rw [e, nv, e2, ← h]; omega

theorem pv_on (s : ByteArray) {L k : Nat} (hL : s.size = L) (hk : k + 1 ≤ L) (hk1 : 1 ≤ k) (pp : Nat) (h : pp = pv s (L - 1 - k)) (h48 : 48 ≤ at_ s k) : (pv s (L - 1 - (k - 1)) : Int) = (pp + ((at_ s k : Int) - 48) * 65536) / 10 := by
  have e : L - 1 - (k - 1) = (L - 1 - k) + 1 := by omega
  have e2 : s.size - 1 - (L - 1 - k) = k := by omega
  rw [e, pv, e2, ← h]; omega

theorem pv_bd {s : ByteArray} {L k : Nat} (hL : s.size = L) (h : ∀ q, k < q → q < L → digB s q) : pv s (L - 1 - k) ≤ 65535 := by
  refine pv_le s _ (fun i hi => ?_)
  exact (h (s.size - 1 - i) (by omega) (by omega)).2

theorem digs_dn {s : ByteArray} {L k : Nat} (h : ∀ q, k < q → q < L → digB s q) (hd : digB s k) : ∀ q, k - 1 < q → q < L → digB s q := by
  intro q h1 h2
  rcases Nat.lt_or_ge k q with hk | hk
  · exact h q hk h2
  · obtain rfl : q = k := by omega
    exact hd

theorem str_eq {u s : ByteArray} (h : u = s) : (u.toList == s.toList) = true := by subst h; simp

theorem str_ne {u s : ByteArray} (h : ¬ u = s) : (u.toList == s.toList) = false := by
  cases u with | mk a => cases s with | mk b =>
    rw [Go.ByteArray.toList_mk, Go.ByteArray.toList_mk]
    rw [beq_eq_false_iff_ne]
    intro h2
    refine h ?_
    cases a; cases b; simp_all

theorem rtext_is (a : Int) (u : ByteArray) (hu : (⟨(textOf (held a)).toArray⟩ : ByteArray) = u) (w : World) : Calls Tryd.prog 8 #[.int .i64 a] w fun e w' => e = .returned (.string u) ∧ Below w.heap.size w w' := by
  subst hu
  exact rtext_any a w

def Rel2 (s : ByteArray) (f dn : Nat) (w : World) (n i : Value) (wr : World) : Prop :=
  ∃ m nn : Nat, n = .int .i64 nn ∧ nn ≤ 99999 ∧ i = .int .i64 m ∧ f ≤ m ∧ m ≤ dn ∧ Hid (nn = nv s f (m - f)) ∧ Hid (∀ k, f ≤ k → k < m → digB s k) ∧ w = wr

def Rel3 (s : ByteArray) (L dn : Nat) (w : World) (p i : Value) (wr : World) : Prop :=
  ∃ k pp : Nat, p = .int .i64 pp ∧ pp ≤ 65535 ∧ i = .int .i64 k ∧ k + 1 ≤ L ∧ L - 1 - k ≤ L - 1 - dn ∧ Hid (pp = pv s (L - 1 - k)) ∧ Hid (∀ q, k < q → q < L → digB s q) ∧ w = wr

def Rel1 (s : ByteArray) (L f : Nat) (w : World) (d i : Value) (wr : World) : Prop :=
  ∃ dn k : Nat, d = .int .i64 dn ∧ i = .int .i64 k ∧ f ≤ k ∧ k ≤ L ∧ f ≤ dn ∧ dn ≤ L ∧ Hid (Far1 s f dn k) ∧ w = wr

set_option maxHeartbeats 4000000 in
set_option maxRecDepth 100000 in
theorem rparse_pos (s : ByteArray) (L : Nat) (hL : s.size = L) (ht : L ≤ 200) (h45 : ¬ at_ s 0 = 45) (hn : 0 < L) (w : World) :
    Calls Tryd.prog 6 #[.string s] w fun e w' => PRes false 0 s e ∧ Below w.heap.size w w' := by
    have hn' : (0 : Int) < L := by omega
    have hv0 := at_is s 0 (by omega)
    have hb0 : ((at_ s 0 : Int) == 45) = false := by simp; omega
    have HL := Lib.hid hL
    go_enter Tryd.func6, Tryd.ntmps6
    go_wp2_with fail
    go_loopw [5, 6] (fun d i wr => Rel1 s L 0 w d i wr) (fun _ i _ => L - (intOf i).toNat)
    case atStart => exact ⟨L, 0, rfl, rfl, by omega, by omega, by omega, by omega, Lib.hid (.inl ⟨hL.symm, fun j _ h => by omega⟩), rfl⟩
    case round =>
      obtain ⟨dn, k, rfl, rfl, hfk, hkL, hfd, hdL, HF, rfl⟩ := hrel
      by_cases hk : k < L
      · have hk' : (k : Int) < L := by omega
        have hv := at_is s k (by omega)
        have hle := at_le s k
        go_wp2_with fail
        · refine ⟨⟨k, k + 1, rfl, by go_num, by omega, by omega, by omega, by omega, Lib.hid (HF.out.yes (by omega) (by simp_all; omega) (by omega)), rfl⟩, ?_⟩
          simp [intOf]; omega
        · refine ⟨⟨dn, k + 1, rfl, by go_num, by omega, by omega, by omega, by omega, Lib.hid (HF.out.old (by omega) (by simp_all; omega)), rfl⟩, ?_⟩
          simp [intOf]; omega
        · refine ⟨⟨dn, k + 1, rfl, by go_num, by omega, by omega, by omega, by omega, Lib.hid (HF.out.no (by omega)), rfl⟩, ?_⟩
          simp [intOf]; omega
      · have HD := Lib.hid (HF.out.end_ (by omega) (by omega) (by omega))
        have hk' : ¬ (k : Int) < L := by omega
        clear HF hfk
        by_cases b1 : dn = 0
        · have e1 : ((dn : Int) == 0) = true := by simp; omega
          go_wp2_with fail
          go_ret2
          exact ⟨.inl ⟨rfl, fun g => by have g1 := g.tells HD.out; omega⟩, Below.refl _ _⟩
        have e1 : ((dn : Int) == 0) = false := by simp; omega
        by_cases b2 : 5 < (dn : Int)
        · go_wp2_with fail
          go_ret2
          exact ⟨.inl ⟨rfl, fun g => by have g1 := g.tells HD.out; omega⟩, Below.refl _ _⟩
        have b2' : (dn : Int) ≤ 5 := by omega
        by_cases b3 : 17 < (L : Int) - dn
        · go_wp2_with fail
          go_ret2
          exact ⟨.inl ⟨rfl, fun g => by have g1 := g.tells HD.out; omega⟩, Below.refl _ _⟩
        have b3' : (L : Int) - dn ≤ 17 := by omega
        go_wp2_with fail
        go_loopw [7, 8] (fun n i wr => Rel2 s 0 dn w n i wr) (fun _ i _ => L - (intOf i).toNat)
        case atStart => exact ⟨0, 0, rfl, by omega, by go_num, by omega, by omega, Lib.hid (by simp [nv]), Lib.hid (fun k _ _ => by omega), rfl⟩
        case round =>
          obtain ⟨m, nn, rfl, hnn, rfl, hfm, hm, HN, HG, rfl⟩ := hrel
          by_cases hk2 : m < dn
          · have hk2' : (m : Int) < dn := by omega
            have hv := at_is s m (by omega)
            have hle := at_le s m
            by_cases c1 : at_ s m < 48
            · have c1' : (at_ s m : Int) < 48 := by omega
              go_wp2_with fail
              go_ret2
              exact ⟨.inl ⟨rfl, fun g => by have g1 := g.tells HD.out; have g2 := g1.2.2.2.1 m (by omega) (by omega); unfold digB at g2; omega⟩, Below.refl _ _⟩
            have c1' : ¬ (at_ s m : Int) < 48 := by omega
            by_cases c2 : 57 < at_ s m
            · have c2' : 57 < (at_ s m : Int) := by omega
              go_wp2_with fail
              go_ret2
              exact ⟨.inl ⟨rfl, fun g => by have g1 := g.tells HD.out; have g2 := g1.2.2.2.1 m (by omega) (by omega); unfold digB at g2; omega⟩, Below.refl _ _⟩
            have c2' : ¬ 57 < (at_ s m : Int) := by omega
            have HG2 := Lib.hid (digs_on HG.out (show digB s m from ⟨by omega, by omega⟩))
            have HB := Lib.hid (nv_bd HG2.out (by omega))
            have HN2 := Lib.hid (nv_on s hfm nn HN.out (by omega : 48 ≤ at_ s m))
            go_wp2_with fail
            refine ⟨⟨m + 1, nv s 0 (m + 1 - 0), by rw [HN2.out], by have := HB.out; omega, by go_num, by omega, by omega, Lib.hid rfl, HG2, rfl⟩, ?_⟩
            simp [intOf]; omega
          · have hk2' : ¬ (m : Int) < dn := by omega
            obtain rfl : m = dn := by omega
            clear hm hfm
            go_wp2_with fail
            go_loopw [9, 10] (fun n i wr => Rel3 s L m w n i wr) (fun _ i _ => (intOf i).toNat)
            case atStart => exact ⟨L - 1, 0, rfl, by omega, congrArg (Value.int .i64) (by omega), by omega, by omega, Lib.hid (by simp [pv]), Lib.hid (fun k _ _ => by omega), rfl⟩
            case round =>
              obtain ⟨k2, pp, rfl, hpp, rfl, hk3, hkm, HP, HQ, rfl⟩ := hrel
              by_cases hk4 : m < k2
              · have hk4' : (m : Int) < k2 := by omega
                have hv := at_is s k2 (by omega)
                have hle := at_le s k2
                by_cases c1 : at_ s k2 < 48
                · have c1' : (at_ s k2 : Int) < 48 := by omega
                  go_wp2_with fail
                  go_ret2
                  exact ⟨.inl ⟨rfl, fun g => by have g1 := g.tells HD.out; have g2 := g1.2.2.2.2.1 k2 (by omega) (by omega); unfold digB at g2; omega⟩, Below.refl _ _⟩
                have c1' : ¬ (at_ s k2 : Int) < 48 := by omega
                by_cases c2 : 57 < at_ s k2
                · have c2' : 57 < (at_ s k2 : Int) := by omega
                  go_wp2_with fail
                  go_ret2
                  exact ⟨.inl ⟨rfl, fun g => by have g1 := g.tells HD.out; have g2 := g1.2.2.2.2.1 k2 (by omega) (by omega); unfold digB at g2; omega⟩, Below.refl _ _⟩
                have c2' : ¬ 57 < (at_ s k2 : Int) := by omega
                have HQ2 := Lib.hid (digs_dn HQ.out (show digB s k2 from ⟨by omega, by omega⟩))
                have HB := Lib.hid (pv_bd (k := k2 - 1) HL.out HQ2.out)
                have HP2 := Lib.hid (pv_on s HL.out hk3 (by omega) pp HP.out (by omega : 48 ≤ at_ s k2))
                go_wp2_with fail
                refine ⟨⟨k2 - 1, pv s (L - 1 - (k2 - 1)), by rw [HP2.out], HB.out, congrArg (Value.int .i64) (by omega), by omega, by omega, Lib.hid rfl, HQ2, rfl⟩, ?_⟩
                simp [intOf]; omega
              · have hk4' : ¬ (m : Int) < k2 := by omega
                have e3 : L - 1 - k2 = L - 1 - m := by omega
                have HA := Lib.hid (show numOf false s 0 m = ((nn : Int) * 65536 + pp) by
                  unfold numOf; rw [HL.out, ← e3, ← HP.out, ← HN.out]; simp)
                by_cases c4 : 2147483648 < (nn : Int) * 65536 + pp
                · go_wp2_with fail
                  go_ret2
                  exact ⟨.inl ⟨rfl, fun g => by have g1 := g.tells HD.out; have g2 := g1.2.2.2.2.2.1; rw [HA.out] at g2; omega⟩, Below.refl _ _⟩
                have c4' : (nn : Int) * 65536 + pp ≤ 2147483648 := by omega
                obtain ⟨u, hu⟩ : ∃ u, (⟨(textOf (held ((nn : Int) * 65536 + pp))).toArray⟩ : ByteArray) = u := ⟨_, rfl⟩
                have HE := Lib.hid (show held ((nn : Int) * 65536 + pp) = (nn : Int) * 65536 + pp from held_in (by omega) (by omega))
                have HU := Lib.hid hu
                clear hu
                by_cases hus : u = s
                · have hbb := str_eq hus
                  have HUS := Lib.hid hus
                  clear hus
                  go_wp2_with fail
                  refine (rtext_is _ u HU.out _).mono ?_
                  rintro e w1 ⟨rfl, hb1⟩
                  go_wp2_with fail
                  go_ret2
                  exact ⟨.inr ⟨(nn : Int) * 65536 + pp, rfl, by rw [← HE.out, HU.out, HUS.out], by omega, by omega⟩, hb1⟩
                · have hbb := str_ne hus
                  have HUS := Lib.hid hus
                  clear hus
                  go_wp2_with fail
                  refine (rtext_is _ u HU.out _).mono ?_
                  rintro e w1 ⟨rfl, hb1⟩
                  go_wp2_with fail
                  go_ret2
                  exact ⟨.inl ⟨rfl, fun g => HUS.out (by have g1 := (g.tells HD.out).2.2.2.2.2.2; rw [HA.out, ← HE.out, HU.out] at g1; exact g1)⟩, hb1⟩
set_option maxHeartbeats 4000000 in
set_option maxRecDepth 100000 in
theorem rparse_neg (s : ByteArray) (L : Nat) (hL : s.size = L) (ht : L ≤ 200) (h45 : at_ s 0 = 45) (hn : 0 < L) (w : World) :
    Calls Tryd.prog 6 #[.string s] w fun e w' => PRes true 1 s e ∧ Below w.heap.size w w' := by
    have hn' : (0 : Int) < L := by omega
    have hv0 := at_is s 0 (by omega)
    have hb0 : ((at_ s 0 : Int) == 45) = true := by simp; omega
    have HL := Lib.hid hL
    go_enter Tryd.func6, Tryd.ntmps6
    go_wp2_with fail
    go_loopw [5, 6] (fun d i wr => Rel1 s L 1 w d i wr) (fun _ i _ => L - (intOf i).toNat)
    case atStart => exact ⟨L, 1, rfl, rfl, by omega, by omega, by omega, by omega, Lib.hid (.inl ⟨hL.symm, fun j _ h => by omega⟩), rfl⟩
    case round =>
      obtain ⟨dn, k, rfl, rfl, hfk, hkL, hfd, hdL, HF, rfl⟩ := hrel
      by_cases hk : k < L
      · have hk' : (k : Int) < L := by omega
        have hv := at_is s k (by omega)
        have hle := at_le s k
        go_wp2_with fail
        · refine ⟨⟨k, k + 1, rfl, by go_num, by omega, by omega, by omega, by omega, Lib.hid (HF.out.yes (by omega) (by simp_all; omega) (by omega)), rfl⟩, ?_⟩
          simp [intOf]; omega
        · refine ⟨⟨dn, k + 1, rfl, by go_num, by omega, by omega, by omega, by omega, Lib.hid (HF.out.old (by omega) (by simp_all; omega)), rfl⟩, ?_⟩
          simp [intOf]; omega
        · refine ⟨⟨dn, k + 1, rfl, by go_num, by omega, by omega, by omega, by omega, Lib.hid (HF.out.no (by omega)), rfl⟩, ?_⟩
          simp [intOf]; omega
      · have HD := Lib.hid (HF.out.end_ (by omega) (by omega) (by omega))
        have hk' : ¬ (k : Int) < L := by omega
        clear HF hfk
        by_cases b1 : dn = 1
        · have e1 : ((dn : Int) == 1) = true := by simp; omega
          go_wp2_with fail
          go_ret2
          exact ⟨.inl ⟨rfl, fun g => by have g1 := g.tells HD.out; omega⟩, Below.refl _ _⟩
        have e1 : ((dn : Int) == 1) = false := by simp; omega
        by_cases b2 : 5 < (dn : Int) - 1
        · go_wp2_with fail
          go_ret2
          exact ⟨.inl ⟨rfl, fun g => by have g1 := g.tells HD.out; omega⟩, Below.refl _ _⟩
        have b2' : (dn : Int) - 1 ≤ 5 := by omega
        by_cases b3 : 17 < (L : Int) - dn
        · go_wp2_with fail
          go_ret2
          exact ⟨.inl ⟨rfl, fun g => by have g1 := g.tells HD.out; omega⟩, Below.refl _ _⟩
        have b3' : (L : Int) - dn ≤ 17 := by omega
        go_wp2_with fail
        go_loopw [7, 8] (fun n i wr => Rel2 s 1 dn w n i wr) (fun _ i _ => L - (intOf i).toNat)
        case atStart => exact ⟨1, 0, rfl, by omega, by go_num, by omega, by omega, Lib.hid (by simp [nv]), Lib.hid (fun k _ _ => by omega), rfl⟩
        case round =>
          obtain ⟨m, nn, rfl, hnn, rfl, hfm, hm, HN, HG, rfl⟩ := hrel
          by_cases hk2 : m < dn
          · have hk2' : (m : Int) < dn := by omega
            have hv := at_is s m (by omega)
            have hle := at_le s m
            by_cases c1 : at_ s m < 48
            · have c1' : (at_ s m : Int) < 48 := by omega
              go_wp2_with fail
              go_ret2
              exact ⟨.inl ⟨rfl, fun g => by have g1 := g.tells HD.out; have g2 := g1.2.2.2.1 m (by omega) (by omega); unfold digB at g2; omega⟩, Below.refl _ _⟩
            have c1' : ¬ (at_ s m : Int) < 48 := by omega
            by_cases c2 : 57 < at_ s m
            · have c2' : 57 < (at_ s m : Int) := by omega
              go_wp2_with fail
              go_ret2
              exact ⟨.inl ⟨rfl, fun g => by have g1 := g.tells HD.out; have g2 := g1.2.2.2.1 m (by omega) (by omega); unfold digB at g2; omega⟩, Below.refl _ _⟩
            have c2' : ¬ 57 < (at_ s m : Int) := by omega
            have HG2 := Lib.hid (digs_on HG.out (show digB s m from ⟨by omega, by omega⟩))
            have HB := Lib.hid (nv_bd HG2.out (by omega))
            have HN2 := Lib.hid (nv_on s hfm nn HN.out (by omega : 48 ≤ at_ s m))
            go_wp2_with fail
            refine ⟨⟨m + 1, nv s 1 (m + 1 - 1), by rw [HN2.out], by have := HB.out; omega, by go_num, by omega, by omega, Lib.hid rfl, HG2, rfl⟩, ?_⟩
            simp [intOf]; omega
          · have hk2' : ¬ (m : Int) < dn := by omega
            obtain rfl : m = dn := by omega
            clear hm hfm
            go_wp2_with fail
            go_loopw [9, 10] (fun n i wr => Rel3 s L m w n i wr) (fun _ i _ => (intOf i).toNat)
            case atStart => exact ⟨L - 1, 0, rfl, by omega, congrArg (Value.int .i64) (by omega), by omega, by omega, Lib.hid (by simp [pv]), Lib.hid (fun k _ _ => by omega), rfl⟩
            case round =>
              obtain ⟨k2, pp, rfl, hpp, rfl, hk3, hkm, HP, HQ, rfl⟩ := hrel
              by_cases hk4 : m < k2
              · have hk4' : (m : Int) < k2 := by omega
                have hv := at_is s k2 (by omega)
                have hle := at_le s k2
                by_cases c1 : at_ s k2 < 48
                · have c1' : (at_ s k2 : Int) < 48 := by omega
                  go_wp2_with fail
                  go_ret2
                  exact ⟨.inl ⟨rfl, fun g => by have g1 := g.tells HD.out; have g2 := g1.2.2.2.2.1 k2 (by omega) (by omega); unfold digB at g2; omega⟩, Below.refl _ _⟩
                have c1' : ¬ (at_ s k2 : Int) < 48 := by omega
                by_cases c2 : 57 < at_ s k2
                · have c2' : 57 < (at_ s k2 : Int) := by omega
                  go_wp2_with fail
                  go_ret2
                  exact ⟨.inl ⟨rfl, fun g => by have g1 := g.tells HD.out; have g2 := g1.2.2.2.2.1 k2 (by omega) (by omega); unfold digB at g2; omega⟩, Below.refl _ _⟩
                have c2' : ¬ 57 < (at_ s k2 : Int) := by omega
                have HQ2 := Lib.hid (digs_dn HQ.out (show digB s k2 from ⟨by omega, by omega⟩))
                have HB := Lib.hid (pv_bd (k := k2 - 1) HL.out HQ2.out)
                have HP2 := Lib.hid (pv_on s HL.out hk3 (by omega) pp HP.out (by omega : 48 ≤ at_ s k2))
                go_wp2_with fail
                refine ⟨⟨k2 - 1, pv s (L - 1 - (k2 - 1)), by rw [HP2.out], HB.out, congrArg (Value.int .i64) (by omega), by omega, by omega, Lib.hid rfl, HQ2, rfl⟩, ?_⟩
                simp [intOf]; omega
              · have hk4' : ¬ (m : Int) < k2 := by omega
                have e3 : L - 1 - k2 = L - 1 - m := by omega
                have HA := Lib.hid (show numOf true s 1 m = -((nn : Int) * 65536 + pp) by
                  unfold numOf; rw [HL.out, ← e3, ← HP.out, ← HN.out]; simp)
                by_cases c4 : -((nn : Int) * 65536 + pp) < -2147483648
                · go_wp2_with fail
                  go_ret2
                  exact ⟨.inl ⟨rfl, fun g => by have g1 := g.tells HD.out; have g2 := g1.2.2.2.2.2.1; rw [HA.out] at g2; omega⟩, Below.refl _ _⟩
                have c4' : -2147483648 ≤ -((nn : Int) * 65536 + pp) := by omega
                obtain ⟨u, hu⟩ : ∃ u, (⟨(textOf (held (-((nn : Int) * 65536 + pp)))).toArray⟩ : ByteArray) = u := ⟨_, rfl⟩
                have HE := Lib.hid (show held (-((nn : Int) * 65536 + pp)) = -((nn : Int) * 65536 + pp) from held_in (by omega) (by omega))
                have HU := Lib.hid hu
                clear hu
                by_cases hus : u = s
                · have hbb := str_eq hus
                  have HUS := Lib.hid hus
                  clear hus
                  go_wp2_with fail
                  refine (rtext_is _ u HU.out _).mono ?_
                  rintro e w1 ⟨rfl, hb1⟩
                  go_wp2_with fail
                  go_ret2
                  exact ⟨.inr ⟨-((nn : Int) * 65536 + pp), rfl, by rw [← HE.out, HU.out, HUS.out], by omega, by omega⟩, hb1⟩
                · have hbb := str_ne hus
                  have HUS := Lib.hid hus
                  clear hus
                  go_wp2_with fail
                  refine (rtext_is _ u HU.out _).mono ?_
                  rintro e w1 ⟨rfl, hb1⟩
                  go_wp2_with fail
                  go_ret2
                  exact ⟨.inl ⟨rfl, fun g => HUS.out (by have g1 := (g.tells HD.out).2.2.2.2.2.2; rw [HA.out, ← HE.out, HU.out] at g1; exact g1)⟩, hb1⟩
end Go.Proofs.YtcgafhpbcdmigaaDoor.Qa
