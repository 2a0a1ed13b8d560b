/- A list's least and greatest numbers, its first thing apart. -/
import Derived.Test.YtoppcnkfgmbpfaaE17
import Derived.Test.YtoppcnkfgmbpfaaE27
import Derived.Test.YtoppcnkfgmbpfaaE24
namespace Go.Proofs.Ytoppcnkfgmbpfaa.Tr
open Go.RowKit Go.Proofs.Ytoppcnkfgmbpfaa Go.Proofs.Ytoppcnkfgmbpfaa.Wa Go.Proofs.Ytoppcnkfgmbpfaa.Ve Go.Proofs.Ytoppcnkfgmbpfaa.Au Go.Proofs.Ytoppcnkfgmbpfaa.Bx

theorem next_a (f : Int → Int → Int) (L : Nat → Int) (i n : Nat) (hi : i < 6) (hn : 1 ≤ n) (h0 : f (L i) (L i) = L i) : foldN f (L i) (fun j => L (j * 12 + i + 12)) (n - 1) = foldN f (La L i) (fun j => La L (j * 6 + i)) n := by
  obtain ⟨k, rfl⟩ : ∃ k, n = k + 1 := ⟨n - 1, by omega⟩
  have e0 : La L i = L i := by have := La_at L 0 i hi; simpa using this
  rw [e0]
  exact fold_next f (L i) (fun j => La L (j * 6 + i)) _ (by show f (L i) (La L (0 * 6 + i)) = L i; rw [La_at L 0 i hi, show 0 * 12 + i = i by omega]; exact h0)
    (fun j => by show La L ((j + 1) * 6 + i) = _; rw [La_at L (j + 1) i hi]; congr 1; omega) k

theorem next_b (f : Int → Int → Int) (L : Nat → Int) (i n : Nat) (hi : i < 6) (hn : 1 ≤ n) (h0 : f (L (6 + i)) (L (6 + i)) = L (6 + i)) : foldN f (L (6 + i)) (fun j => L (j * 12 + (6 + i) + 12)) (n - 1) = foldN f (Lb L i) (fun j => Lb L (j * 6 + i)) n := by
  obtain ⟨k, rfl⟩ : ∃ k, n = k + 1 := ⟨n - 1, by omega⟩
  have e0 : Lb L i = L (6 + i) := by have := Lb_at L 0 i hi; simpa using this
  rw [e0]
  exact fold_next f (L (6 + i)) (fun j => Lb L (j * 6 + i)) _ (by show f (L (6 + i)) (Lb L (0 * 6 + i)) = L (6 + i); rw [Lb_at L 0 i hi, show 0 * 12 + (6 + i) = 6 + i by omega]; exact h0)
    (fun j => by show Lb L ((j + 1) * 6 + i) = _; rw [Lb_at L (j + 1) i hi]; congr 1; omega) k


end Go.Proofs.Ytoppcnkfgmbpfaa.Tr
