/- Scenes, plainly: what breaks no rule breaks none with less, with a paint twice, with one frame. -/
import Derived.Test.YtfeihojobmagnaaSa
namespace Go.Proofs.Ytfeihojobmagnaa.Sc
open Go.RowKit Go.Proofs.Ytfeihojobmagnaa Go.Proofs.Ytfeihojobmagnaa.Wa Go.Proofs.Ytfeihojobmagnaa.Ve Go.Proofs.Ytfeihojobmagnaa.Tk
set_option linter.unusedVariables false

theorem once_ok {b : Bool} (h : onceB b = -1) : b = true := by
  cases b
  · simp [onceB] at h
  · rfl

theorem chk_zero {s : Scn} (h : ∀ k, k < 7 → wh s k = -1) : (chk s).1 = 0 := by rw [chk_ok h]

theorem lampW_ok {s : Scn} (h : lampW s = -1) : (lamps s).length ≤ 16 := by
  unfold lampW at h
  by_cases e : (lamps s).length ≤ 16
  · exact e
  · rw [if_neg e] at h; omega

theorem few_lamps {s : Scn} (h : (lamps s).length ≤ 16) : lampW s = -1 := by simp [lampW, h]

theorem whs {s : Scn} (h0 : hdB s = true) (h1 : s.np ≤ 32 ∧ ∀ k, k < s.np → pB s k = true) (h2 : s.nt ≤ 32 ∧ ∀ k, k < s.nt → tB s k = true) (h3 : s.nj ≤ 32 ∧ ∀ k, k < s.nj → jB s k = true) (h4 : s.ns ≤ 128 ∧ ∀ k, k < s.ns → sB s k = true) (h5 : lnB s = true) (h6 : (lamps s).length ≤ 16) : (chk s).1 = 0 :=
  chk_zero fun k hk => by
    match k, hk with
    | 0, _ => show onceB (hdB s) = -1; rw [h0]; rfl
    | 1, _ => exact whereB_none h1.1 h1.2
    | 2, _ => exact whereB_none h2.1 h2.2
    | 3, _ => exact whereB_none h3.1 h3.2
    | 4, _ => exact whereB_none h4.1 h4.2
    | 5, _ => show onceB (lnB s) = -1; rw [h5]; rfl
    | 6, _ => exact few_lamps h6

theorem shw {s : Scn} (h : (chk s).1 = 0) : hdB s = true ∧ (s.np ≤ 32 ∧ ∀ k, k < s.np → pB s k = true) ∧ (s.nt ≤ 32 ∧ ∀ k, k < s.nt → tB s k = true) ∧ (s.nj ≤ 32 ∧ ∀ k, k < s.nj → jB s k = true) ∧ (s.ns ≤ 128 ∧ ∀ k, k < s.ns → sB s k = true) ∧ lnB s = true ∧ (lamps s).length ≤ 16 := by
  have hw := ok_chk h
  exact ⟨once_ok (hw 0 (by omega)), whereB_ok (hw 1 (by omega)), whereB_ok (hw 2 (by omega)), whereB_ok (hw 3 (by omega)), whereB_ok (hw 4 (by omega)), once_ok (hw 5 (by omega)), lampW_ok (hw 6 (by omega))⟩

/-- without its last shape -/
def lessS (s : Scn) : Scn := { s with ns := s.ns - 1 }
/-- with its last paint once more -/
def moreP (s : Scn) : Scn := { s with np := s.np + 1, P := fun j => if j < s.np * 5 then s.P j else s.P (j - 5) }
/-- with one frame -/
def oneF (s : Scn) : Scn := { s with fr := 1 }

theorem lampsTo_less {s t : Scn} : ∀ k, (∀ i, i < k → lampB s i = lampB t i) → lampsTo s k = lampsTo t k
  | 0, _ => rfl
  | k + 1, h => by
    unfold lampsTo
    rw [lampsTo_less k (fun i hi => h i (by omega)), h k (by omega)]

theorem lampsTo_mono (s : Scn) (k : Nat) : (lampsTo s k).length ≤ (lampsTo s (k + 1)).length := by
  rw [lampsTo]
  split <;> simp

theorem less_ok {s : Scn} (h : (chk s).1 = 0) : (chk (lessS s)).1 = 0 := by
  obtain ⟨h0, h1, h2, h3, h4, h5, h6⟩ := shw h
  refine whs h0 h1 h2 h3 ⟨?_, fun k hk => ?_⟩ h5 ?_
  · show s.ns - 1 ≤ 128; omega
  · exact h4.2 k (by have : k < s.ns - 1 := hk; omega)
  · show (lampsTo (lessS s) (s.ns - 1)).length ≤ 16
    rw [lampsTo_less (s := lessS s) (t := s) (s.ns - 1) (fun i hi => rfl)]
    have h6' : (lampsTo s s.ns).length ≤ 16 := h6
    rcases Nat.eq_zero_or_pos s.ns with e | e
    · rw [e] at h6' ⊢; exact h6'
    · have := lampsTo_mono s (s.ns - 1)
      rw [show s.ns - 1 + 1 = s.ns by omega] at this
      omega

theorem oneF_ok {s : Scn} (h : (chk s).1 = 0) : (chk (oneF s)).1 = 0 := by
  obtain ⟨h0, h1, h2, h3, h4, h5, h6⟩ := shw h
  refine whs ?_ h1 h2 h3 h4 h5 ?_
  · unfold hdB at h0 ⊢
    simp only [Bool.and_eq_true] at h0 ⊢
    exact ⟨⟨⟨⟨⟨⟨h0.1.1.1.1.1.1, h0.1.1.1.1.1.2⟩, h0.1.1.1.1.2⟩, h0.1.1.1.2⟩, inB_true.2 (by show (1 : Int) ≤ 1 ∧ (1 : Int) ≤ 32; omega)⟩, h0.1.2⟩, h0.2⟩
  · show (lampsTo (oneF s) s.ns).length ≤ 16
    rw [lampsTo_less (s := oneF s) (t := s) s.ns (fun i hi => rfl)]
    exact h6

theorem more_ok {s : Scn} (h : (chk s).1 = 0) (hp : 0 < s.np) (hp2 : s.np < 32) : (chk (moreP s)).1 = 0 := by
  obtain ⟨h0, h1, h2, h3, h4, h5, h6⟩ := shw h
  refine whs h0 ⟨?_, fun k hk => ?_⟩ h2 h3 ⟨h4.1, fun k hk => ?_⟩ h5 ?_
  · show s.np + 1 ≤ 32; omega
  · have hk' : k < s.np + 1 := hk
    by_cases e : k < s.np
    · have := h1.2 k e
      unfold pB at this ⊢
      simp only [moreP]
      rw [if_pos (by omega), if_pos (by omega), if_pos (by omega), if_pos (by omega), if_pos (by omega)]
      exact this
    · have e2 : k = s.np := by omega
      subst e2
      have := h1.2 (s.np - 1) (by omega)
      unfold pB at this ⊢
      simp only [moreP]
      rw [if_neg (by omega), if_neg (by omega), if_neg (by omega), if_neg (by omega), if_neg (by omega)]
      rw [show s.np * 5 - 5 = (s.np - 1) * 5 by omega, show s.np * 5 + 1 - 5 = (s.np - 1) * 5 + 1 by omega, show s.np * 5 + 2 - 5 = (s.np - 1) * 5 + 2 by omega, show s.np * 5 + 3 - 5 = (s.np - 1) * 5 + 3 by omega, show s.np * 5 + 4 - 5 = (s.np - 1) * 5 + 4 by omega]
      exact this
  · have := h4.2 k hk
    unfold sB shapeB at this ⊢
    simp only [Bool.and_eq_true] at this ⊢
    refine ⟨⟨⟨this.1.1.1, ?_⟩, this.1.2⟩, this.2⟩
    have h9 := inB_true.1 this.1.1.2
    exact inB_true.2 ⟨h9.1, by show _ ≤ ((s.np + 1 : Nat) : Int) - 1; have := h9.2; simp only [row13] at this ⊢; show s.S (k * 13 + 1) ≤ _; omega⟩
  · show (lampsTo (moreP s) s.ns).length ≤ 16
    rw [lampsTo_less (s := moreP s) (t := s) s.ns (fun i hi => ?_)]
    · exact h6
    · have := h4.2 i hi
      unfold sB shapeB at this
      simp only [Bool.and_eq_true] at this
      have h9 := inB_true.1 this.1.1.2
      simp only [row13] at h9
      have e1 : (0 ≤ s.S (i * 13 + 1) ∧ s.S (i * 13 + 1) < ((s.np + 1 : Nat) : Int)) := by omega
      have e2 : (0 ≤ s.S (i * 13 + 1) ∧ s.S (i * 13 + 1) < (s.np : Int)) := by omega
      have e3 : (moreP s).P (((moreP s).S (i * 13 + 1)).toNat * 5) = s.P ((s.S (i * 13 + 1)).toNat * 5) := by
        show (if _ then _ else _) = _
        exact if_pos (by show (s.S (i * 13 + 1)).toNat * 5 < s.np * 5; omega)
      unfold lampB
      rw [Bool.eq_iff_iff]
      simp only [Bool.and_eq_true, decide_eq_true_eq]
      rw [e3]
      exact ⟨fun h => ⟨e2, h.2⟩, fun h => ⟨e1, h.2⟩⟩

end Go.Proofs.Ytfeihojobmagnaa.Sc
