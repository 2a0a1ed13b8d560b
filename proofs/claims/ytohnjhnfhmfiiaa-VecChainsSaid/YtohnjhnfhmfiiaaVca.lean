/- Rows of matrices: what comes of them, one behind the other. -/
import Derived.Test.YtohnjhnfhmfiiaaVm
import Derived.Test.YtohnjhnfhmfiiaaVmb
import Derived.Test.YtohnjhnfhmfiiaaVms
namespace Go.Proofs.Ytohnjhnfhmfiiaa.Ve
open Go.RowKit Go.Proofs.Ytohnjhnfhmfiiaa Go.Proofs.Ytohnjhnfhmfiiaa.Wa

/-- the matrix at a place of a row -/
def matAt (L : Nat → Int) (k j : Nat) : Int := L (k * 12 + j)

/-- the first matrices of a row, one behind the other -/
def chainN (L : Nat → Int) : Nat → (Nat → Int)
  | 0 => sizeN 65536
  | k + 1 => timesN (chainN L k) (matAt L k)

/-- a slice of matrices: empty, or its numbers stand in one block from a place on -/
def Mats (w : World) (v : Value) (n : Nat) (L : Nat → Int) : Prop :=
  (∃ a cap, v = .slice a 0 cap ∧ n = 0) ∨ ∃ g off cap, v = .slice (some ⟨g, off, none⟩) n cap ∧ g < w.heap.size ∧ ∀ j, j < n * 12 → w.cell? ⟨g, off + j, none⟩ = some (.int .i64 (L j))

theorem Mats.on {w w' : World} {v : Value} {n : Nat} {L : Nat → Int} (h : Mats w v n L) (hb : Below w.heap.size w w') : Mats w' v n L := by
  rcases h with h | ⟨g, off, cap, hv, hg, hc⟩
  · exact .inl h
  · exact .inr ⟨g, off, cap, hv, Nat.lt_of_lt_of_le hg hb.size, fun j hj => (hb.cell (p := ⟨g, off + j, none⟩) hg).trans (hc j hj)⟩

end Go.Proofs.Ytohnjhnfhmfiiaa.Ve
