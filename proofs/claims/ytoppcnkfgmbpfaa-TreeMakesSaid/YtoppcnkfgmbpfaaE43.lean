/- Trees, plainly: where all middles lie in one place no cut parts them. -/
import Derived.Test.YtoppcnkfgmbpfaaE42
namespace Go.Proofs.Ytoppcnkfgmbpfaa.Tr
open Go.RowKit Go.Proofs.Ytoppcnkfgmbpfaa Go.Proofs.Ytoppcnkfgmbpfaa.Wa Go.Proofs.Ytoppcnkfgmbpfaa.Ve Go.Proofs.Ytoppcnkfgmbpfaa.Au Go.Proofs.Ytoppcnkfgmbpfaa.Bx
set_option linter.unusedVariables false
set_option linter.unusedSimpArgs false

theorem part_zero (low wide : Int) (hw : Pl.held wide = 0) : part low low wide = 0 := by
  have h1 : Pl.sub low low = 0 := by unfold Pl.sub; rw [Int.sub_self]; decide
  have h2 : Pl.div 0 wide = 0 := by unfold Pl.div; rw [if_pos hw]; decide
  unfold part
  rw [h1, h2]
  decide

theorem mids_form (PL : Nat → Int) (l : List Nat) (i : Nat) (hi : i < 3) (f : Int → Int → Int) :
    foldN f (mids PL l i) (fun j => mids PL l (j * 3 + i)) l.length = foldN f (midN PL (l.getD 0 0) i) (fun j => midN PL (l.getD j 0) i) l.length := by
  have e0 : mids PL l i = midN PL (l.getD 0 0) i := by
    have : mids PL l (0 * 3 + i) = midN PL (l.getD 0 0) i := by
      unfold mids
      rw [show (0 * 3 + i) / 3 = 0 by omega, show (0 * 3 + i) % 3 = i by omega]
    rw [← this]
    congr 1
    omega
  have e1 : (fun j => mids PL l (j * 3 + i)) = (fun j => midN PL (l.getD j 0) i) := by
    funext j
    unfold mids
    rw [show (j * 3 + i) / 3 = j by omega, show (j * 3 + i) % 3 = i by omega]
  rw [e0, e1]

theorem mid_lo (PL : Nat → Int) (x i : Nat) : -2147483648 ≤ midN PL x i := Pl.lerp_lo _ _ _
theorem mid_hi (PL : Nat → Int) (x i : Nat) : midN PL x i ≤ 2147483648 := Pl.lerp_hi _ _ _

theorem flat_parts (PL : Nat → Int) (l : List Nat) (i : Nat) (hi : i < 3) (hw : wideM PL l i ≤ 0) (k : Nat) (hk : k < l.length) : part (midN PL (l.getD k 0) i) (lowM PL l i) (wideM PL l i) = 0 := by
  have hlo : lo (mids PL l) i l.length = foldN min (midN PL (l.getD 0 0) i) (fun j => midN PL (l.getD j 0) i) l.length := mids_form PL l i hi min
  have hhi : hig (mids PL l) i l.length = foldN max (midN PL (l.getD 0 0) i) (fun j => midN PL (l.getD j 0) i) l.length := mids_form PL l i hi max
  have a1 := (fmin_all (midN PL (l.getD 0 0) i) (fun j => midN PL (l.getD j 0) i) l.length).2 k hk
  have a2 := (fmax_all (midN PL (l.getD 0 0) i) (fun j => midN PL (l.getD j 0) i) l.length).2 k hk
  have b1 : -2147483648 ≤ lo (mids PL l) i l.length := by
    rw [hlo]
    rcases fmin_some (midN PL (l.getD 0 0) i) (fun j => midN PL (l.getD j 0) i) l.length with e | ⟨j, _, e⟩ <;> rw [e] <;> exact mid_lo _ _ _
  have b2 : hig (mids PL l) i l.length ≤ 2147483648 := by
    rw [hhi]
    rcases fmax_some (midN PL (l.getD 0 0) i) (fun j => midN PL (l.getD j 0) i) l.length with e | ⟨j, _, e⟩ <;> rw [e] <;> exact mid_hi _ _ _
  rw [← hlo] at a1
  rw [← hhi] at a2
  have m1 := mid_lo PL (l.getD k 0) i
  have m2 := mid_hi PL (l.getD k 0) i
  have hwd : wideM PL l i = Pl.held (hig (mids PL l) i l.length - lo (mids PL l) i l.length) := by
    unfold wideM Pl.sub
    rw [Pl.held_in (by omega) b2, Pl.held_in b1 (by omega)]
  have hz : hig (mids PL l) i l.length = lo (mids PL l) i l.length := by
    rw [hwd] at hw
    unfold Pl.held at hw
    split at hw
    · omega
    · split at hw <;> omega
  have hx : midN PL (l.getD k 0) i = lowM PL l i := by unfold lowM; omega
  rw [hx]
  refine part_zero _ _ ?_
  rw [hwd, hz, Int.sub_self]
  decide

theorem sel_all (pt : Nat → Int) (cut : Int) (l : List Nat) : ∀ k, k ≤ l.length → (∀ j, j < k → pt j < cut) → (sel pt cut l k).2 = []
  | 0, _, _ => rfl
  | k + 1, hk, h => by
    unfold sel
    rw [if_pos (h k (by omega))]
    exact sel_all pt cut l k (by omega) (fun j hj => h j (by omega))

theorem cuts_none (PL : Nat → Int) (l : List Nat) (pt : Nat → Int) (h : ∀ j, j < l.length → pt j ≤ 0) : ∀ k, cutsN PL l pt k = ⟨l.take (l.length / 2), l.drop (l.length / 2), 0, false⟩
  | 0 => rfl
  | k + 1 => by
    rw [cutsN, cutStep, if_pos (Or.inr ?_)]
    · exact cuts_none PL l pt h k
    · rw [sel_all pt _ l l.length (Nat.le_refl _) (fun j hj => by have := h j hj; omega)]
      rfl

theorem axis_lt3 (PL : Nat → Int) (l : List Nat) : axisN PL l < 3 := by
  unfold axisN widest
  split
  · decide
  · split <;> decide

theorem split_flat (PL : Nat → Int) (l : List Nat) (hw : wideM PL l (axisN PL l) ≤ 0) : splitA PL l = l.take (l.length / 2) ∧ splitB PL l = l.drop (l.length / 2) := by
  have h := cuts_none PL l (partOf PL l) (fun j hj => Int.le_of_eq (flat_parts PL l (axisN PL l) (axis_lt3 PL l) hw j hj)) 7
  unfold splitA splitB
  rw [h]
  exact ⟨rfl, rfl⟩

/-- once a cut is found its first side has some -/
theorem found_pos (PL : Nat → Int) (l : List Nat) (pt : Nat → Int) : ∀ k, (cutsN PL l pt k).found = true → (cutsN PL l pt k).first.length ≠ 0
  | 0, h => by simp [cutsN] at h
  | k + 1, h => by
    have ih := found_pos PL l pt k
    rw [cutsN] at h ⊢
    unfold cutStep at h ⊢
    split at h
    · rename_i h1
      rw [if_pos h1]
      exact ih h
    · rename_i h1
      rw [if_neg h1]
      split at h
      · rename_i h2
        rw [if_pos h2]
        show (sel pt ((k + 1 : Nat) : Int) l l.length).1.length ≠ 0
        omega
      · rename_i h2
        rw [if_neg h2]
        exact ih h

theorem notfound_half (PL : Nat → Int) (l : List Nat) (pt : Nat → Int) : ∀ k, (cutsN PL l pt k).found = false → cutsN PL l pt k = ⟨l.take (l.length / 2), l.drop (l.length / 2), 0, false⟩
  | 0, h => rfl
  | k + 1, h => by
    have ih := notfound_half PL l pt k
    rw [cutsN] at h ⊢
    unfold cutStep at h ⊢
    split at h
    · rename_i h1
      rw [if_pos h1]
      exact ih h
    · rename_i h1
      rw [if_neg h1]
      split at h
      · cases h
      · rename_i h2
        rw [if_neg h2]
        exact ih h

end Go.Proofs.Ytoppcnkfgmbpfaa.Tr
