/- Layer 7: a cell written, read again. -/
import Derived.Test.YtgkfoiekminfmaaRew
namespace Go.Proofs.Ytgkfoiekminfmaa.Re
open Go.RowKit Go.Proofs.Ytgkfoiekminfmaa

theorem cset {w : World} {g i j : Nat} {u v : Value} (h : w.cell? ⟨g, i, none⟩ = some v) : (w.setCell ⟨g, i, none⟩ u).cell? ⟨g, j, none⟩ = if j = i then some u else w.cell? ⟨g, j, none⟩ := by
  by_cases hj : j = i
  · subst hj; simp [World.cell?_setCell_same, h]
  · rw [if_neg hj]; exact World.cell?_setCell_other _ _ _ _ (by first | (simp; done) | (simp; omega))

theorem cfar {w : World} {g b i j : Nat} {u : Value} (h : b ≠ g) : (w.setCell ⟨g, i, none⟩ u).cell? ⟨b, j, none⟩ = w.cell? ⟨b, j, none⟩ :=
  World.cell?_setCell_other _ _ _ _ (by first | (simp; done) | (simp; omega))

end Go.Proofs.Ytgkfoiekminfmaa.Re
