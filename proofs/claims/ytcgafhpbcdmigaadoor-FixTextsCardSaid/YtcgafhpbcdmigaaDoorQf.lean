/- A number's own text holds all that the document's Parse asks; the document's Parse in whole. -/
import Derived.Test.YtcgafhpbcdmigaaDoorQe
namespace Go.Proofs.YtcgafhpbcdmigaaDoor.Qa
open Go.RowKit Go.Proofs.YtcgafhpbcdmigaaDoor Go.Proofs.YtcgafhpbcdmigaaDoor.Wa Go.Proofs.YtcgafhpbcdmigaaDoor.Pl
set_option linter.unusedVariables false

theorem at_list (t : List UInt8) (k : Nat) : at_ ⟨t.toArray⟩ k = (t.getD k 0).toNat := rfl

theorem at_mid (A D C : List UInt8) (j : Nat) (hj : j < D.length) : at_ ⟨(A ++ D ++ C).toArray⟩ (A.length + j) = D[j].toNat := by
  rw [at_list, List.getD_eq_getElem?_getD, List.append_assoc, List.getElem?_append_right (by omega), List.getElem?_append_left (by omega)]
  have e : A.length + j - A.length = j := by omega
  rw [e]; simp [hj]

theorem at_end (A P : List UInt8) (j : Nat) (hj : j < P.length) : at_ ⟨(A ++ P).toArray⟩ (A.length + j) = P[j].toNat := by
  rw [at_list, List.getD_eq_getElem?_getD, List.getElem?_append_right (by omega)]
  have e : A.length + j - A.length = j := by omega
  rw [e]; simp [hj]

theorem nv_take (A D C : List UInt8) : ∀ j, j ≤ D.length → nv ⟨(A ++ D ++ C).toArray⟩ A.length j = valFrom 0 (D.take j) := by
  intro j
  induction j with
  | zero => intro _; rfl
  | succ j ih =>
    intro hj
    rw [nv, ih (by omega), at_mid A D C j (by omega), List.take_succ_eq_append_getElem (by omega), valFrom_app]
    rfl

theorem pv_drop (A P : List UInt8) : ∀ j, j ≤ P.length → pv ⟨(A ++ P).toArray⟩ j = partOf (P.drop (P.length - j)) := by
  intro j
  induction j with
  | zero => intro _; simp [pv, partOf]
  | succ j ih =>
    intro hj
    have e : (⟨(A ++ P).toArray⟩ : ByteArray).size - 1 - j = A.length + (P.length - (j + 1)) := by
      show (A ++ P).toArray.size - 1 - j = _
      simp; omega
    have e2 : P.length - (j + 1) + 1 = P.length - j := by omega
    rw [pv, ih (by omega), e, at_end A P _ (by omega), List.drop_eq_getElem_cons (show P.length - (j + 1) < P.length by omega), e2]
    rfl

theorem good_of (neg : Bool) (A D C : List UInt8) (f : Nat) (hA : A.length = f) (hDd : ∀ c ∈ D, dgt c) (hD0 : D ≠ []) (hD5 : D.length ≤ 5)
    (hC : C = [] ∨ ∃ P, C = 46 :: P) (hCd : ∀ c ∈ C.tail, dgt c) (hC16 : C.tail.length ≤ 16) (h : Int)
    (hh : (if neg then -((valFrom 0 D : Int) * 65536 + partOf C.tail) else (valFrom 0 D : Int) * 65536 + partOf C.tail) = h)
    (h0 : -2147483648 ≤ h) (h1 : h ≤ 2147483648) (ht : textOf h = A ++ D ++ C) : Good neg f ⟨(A ++ D ++ C).toArray⟩ := by
  subst hA
  have hs : (⟨(A ++ D ++ C).toArray⟩ : ByteArray).size = A.length + D.length + C.length := by
    show (A ++ D ++ C).toArray.size = _
    simp; omega
  have hD1 : 0 < D.length := List.length_pos_iff.2 hD0
  have hnv : nv ⟨(A ++ D ++ C).toArray⟩ A.length (A.length + D.length - A.length) = valFrom 0 D := by
    have e : A.length + D.length - A.length = D.length := by omega
    rw [e, nv_take A D C _ (Nat.le_refl _), List.take_length]
  have hdig : ∀ j, A.length ≤ j → j < A.length + D.length → digB ⟨(A ++ D ++ C).toArray⟩ j := by
    intro j a b
    have e := at_mid A D C (j - A.length) (by omega)
    have e2 : A.length + (j - A.length) = j := by omega
    rw [e2] at e
    have := hDd _ (List.getElem_mem (show j - A.length < D.length by omega))
    unfold dgt at this
    unfold digB; omega
  have hpd : pv ⟨(A ++ D ++ C).toArray⟩ ((⟨(A ++ D ++ C).toArray⟩ : ByteArray).size - 1 - (A.length + D.length)) = partOf C.tail ∧ (A.length + D.length = (⟨(A ++ D ++ C).toArray⟩ : ByteArray).size ∨ at_ ⟨(A ++ D ++ C).toArray⟩ (A.length + D.length) = 46) ∧
      (∀ j, A.length + D.length < j → j < (⟨(A ++ D ++ C).toArray⟩ : ByteArray).size → digB ⟨(A ++ D ++ C).toArray⟩ j) ∧ C.length ≤ 17 := by
    rw [hs]
    rcases hC with rfl | ⟨P, rfl⟩
    · have e : A.length + D.length + ([] : List UInt8).length - 1 - (A.length + D.length) = 0 := by simp only [List.length_nil]; omega
      rw [e]
      refine ⟨rfl, .inl (by simp), fun j a b => ?_, by simp⟩
      simp only [List.length_nil] at b; omega
    · simp only [List.tail_cons] at hCd hC16 ⊢
      have hap : A ++ D ++ 46 :: P = (A ++ D ++ [46]) ++ P := by simp
      have hal : (A ++ D ++ [46]).length = A.length + D.length + 1 := by simp; omega
      have e : A.length + D.length + (46 :: P).length - 1 - (A.length + D.length) = P.length := by simp only [List.length_cons]; omega
      rw [e]
      refine ⟨?_, .inr ?_, fun j a b => ?_, by simp only [List.length_cons]; omega⟩
      · rw [hap, pv_drop _ P _ (Nat.le_refl _)]; simp
      · have := at_end (A ++ D) (46 :: P) 0 (by simp)
        simp only [List.length_append, Nat.add_zero] at this
        rw [this]; rfl
      · have e := at_end (A ++ D ++ [46]) P (j - (A.length + D.length + 1)) (by simp only [List.length_cons] at b; omega)
        have e2 : (A ++ D ++ [46]).length + (j - (A.length + D.length + 1)) = j := by omega
        rw [e2, ← hap] at e
        have := hCd _ (List.getElem_mem (show j - (A.length + D.length + 1) < P.length by simp only [List.length_cons] at b; omega))
        unfold dgt at this
        unfold digB; omega
  obtain ⟨hp, hdot, hpdig, hc17⟩ := hpd
  have hnum : numOf neg ⟨(A ++ D ++ C).toArray⟩ A.length (A.length + D.length) = h := by
    unfold numOf; rw [hnv, hp]; exact hh
  refine ⟨A.length + D.length, ⟨by omega, by omega, fun j a b => ?_, hdot⟩, by omega, by omega, by omega, hdig, hpdig, by rw [hnum]; exact ⟨h0, h1⟩, by rw [hnum, ht]⟩
  have := hdig j a b
  unfold digB at this; omega

theorem text_good (h : Int) (h0 : -2147483648 ≤ h) (h1 : h ≤ 2147483648) : Good (decide (h < 0)) (if h < 0 then 1 else 0) ⟨(textOf h).toArray⟩ := by
  obtain ⟨hd, hv, hne⟩ := dec_digits (h.natAbs / 65536)
  have hl := dec_len 4 (h.natAbs / 65536) (by omega)
  have hp := partOf_digs 16 (h.natAbs % 65536) (Nat.mod_lt _ (by omega)) (by omega) (by simp)
  have hdd := digs_digits 16 (h.natAbs % 65536) (Nat.mod_lt _ (by omega))
  have hll := digs_length 16 (h.natAbs % 65536)
  have ht : textOf h = (if h < 0 then [45] else []) ++ Lib.decDigits (h.natAbs / 65536) ++ (if h.natAbs % 65536 = 0 then [] else 46 :: digs 16 (h.natAbs % 65536)) := rfl
  have key : ∀ C : List UInt8, C = (if h.natAbs % 65536 = 0 then [] else 46 :: digs 16 (h.natAbs % 65536)) → (C = [] ∨ ∃ P, C = 46 :: P) ∧ (∀ c ∈ C.tail, dgt c) ∧ C.tail.length ≤ 16 ∧ partOf C.tail = h.natAbs % 65536 := by
    intro C hC
    subst hC
    by_cases h2 : h.natAbs % 65536 = 0
    · rw [if_pos h2, h2]; exact ⟨.inl rfl, by simp, by simp, rfl⟩
    · rw [if_neg h2]; exact ⟨.inr ⟨_, rfl⟩, hdd, hll, hp⟩
  obtain ⟨k1, k2, k3, k4⟩ := key _ rfl
  rw [ht]
  refine good_of _ _ _ _ _ ?_ hd hne hl k1 k2 k3 h ?_ h0 h1 ht
  · split <;> rfl
  · rw [k4, hv]
    by_cases hs : h < 0
    · simp only [hs, decide_true, if_true]; omega
    · simp only [hs, decide_false]; simp; omega

/-- the document's Parse of a number's text -/
theorem rparse_of (h : Int) (h0 : -2147483648 ≤ h) (h1 : h ≤ 2147483648) : True := trivial
end Go.Proofs.YtcgafhpbcdmigaaDoor.Qa
