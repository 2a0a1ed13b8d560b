/- What the walks over lists are told: a slice of integers that came in; a row of the call's own, kept while new blocks are laid. -/
import Derived.Test.YtndpidmbfdpiaaaDoorK02
import Derived.WalkKit
namespace Go.Proofs.YtndpidmbfdpiaaaDoor.Ls
open Go Go.RowKit

/-- a slice of integers that came in: it has no elements; or its cells are known -/
def IsRow (k : IntKind) (w : World) (a : Option Addr) (len : Nat) (zs : List Int) : Prop :=
  len = 0 ∨ ∃ b off, a = some ⟨b, off, none⟩ ∧ b < w.heap.size ∧ len ≤ zs.length ∧ len * 8 ≤ 140737488351232 ∧ ∀ j, j < len → w.cell? ⟨b, off + j, none⟩ = some (.int k (zs.getD j 0))

theorem own_below {w w' : World} {base : Nat} {e : TypeId} {size : Nat} {v : Value} {n : Nat} {xs : List Value} (h : w.ownsRow base e size v n xs) (hb : Below w.heap.size w w') : w'.ownsRow base e size v n xs := by
  have hl := h.lt
  refine ⟨h.1, ?_⟩
  rcases h.2 with hn | ⟨g, cap, cur, rfl, h1, h2, h3⟩
  · exact .inl hn
  · exact .inr ⟨g, cap, cur, rfl, h1, (hb.block g (hl g rfl).2).trans h2, h3⟩

/-- the sum of some numbers, from nothing on, held behind each of them -/
def sumL (l : List Int) : Int := l.foldl Pl.add 0
theorem sumL_snoc (l : List Int) (k : Nat) (h : k < l.length) : sumL (l.take (k + 1)) = Pl.add (sumL (l.take k)) (l.getD k 0) := by
  unfold sumL
  rw [List.take_succ_eq_append_getElem h, List.foldl_append]
  simp [List.getD, h]
theorem sumL_all (l : List Int) : sumL (l.take l.length) = sumL l := by rw [List.take_length]
end Go.Proofs.YtndpidmbfdpiaaaDoor.Ls
