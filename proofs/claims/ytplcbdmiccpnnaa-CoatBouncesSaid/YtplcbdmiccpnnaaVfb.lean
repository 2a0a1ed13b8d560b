/- What a fold over points gives, step by step; a row of points. -/
import Derived.Test.YtplcbdmiccpnnaaVc
namespace Go.Proofs.Ytplcbdmiccpnnaa.Ve
open Go.RowKit Go.Proofs.Ytplcbdmiccpnnaa Go.Proofs.Ytplcbdmiccpnnaa.Wa

/-- what has come out behind so many steps -/
def foldN (f : Int → Int → Int) (a : Int) (l : Nat → Int) : Nat → Int
  | 0 => a
  | k + 1 => f (foldN f a l k) (l k)

/-- a row of points of the call's own, or one whose cells are known -/
def Pts (w : World) (g n : Nat) (lx ly lz : Nat → Int) : Prop :=
  g < w.heap.size ∧ ∀ j, j < n → w.cell? ⟨g, j * 3, none⟩ = some (.int .i64 (lx j)) ∧ w.cell? ⟨g, j * 3 + 1, none⟩ = some (.int .i64 (ly j)) ∧ w.cell? ⟨g, j * 3 + 2, none⟩ = some (.int .i64 (lz j))

theorem Pts.on {w w' : World} {g n : Nat} {lx ly lz : Nat → Int} (h : Pts w g n lx ly lz) (hb : Below w.heap.size w w') : Pts w' g n lx ly lz :=
  ⟨Nat.lt_of_lt_of_le h.1 hb.size, fun j hj => ⟨(hb.cell (p := ⟨g, j * 3, none⟩) h.1).trans (h.2 j hj).1, (hb.cell (p := ⟨g, j * 3 + 1, none⟩) h.1).trans (h.2 j hj).2.1, (hb.cell (p := ⟨g, j * 3 + 2, none⟩) h.1).trans (h.2 j hj).2.2⟩⟩

/-- a slice of points: none, or a row whose cells are known -/
def PtsV (w : World) (v : Value) (n : Nat) (lx ly lz : Nat → Int) : Prop :=
  (v = .slice none 0 0 ∧ n = 0) ∨ ∃ g cap, v = .slice (some ⟨g, 0, none⟩) n cap ∧ Pts w g n lx ly lz

theorem PtsV.on {w w' : World} {v : Value} {n : Nat} {lx ly lz : Nat → Int} (h : PtsV w v n lx ly lz) (hb : Below w.heap.size w w') : PtsV w' v n lx ly lz := by
  rcases h with h | ⟨g, cap, hv, hp⟩
  · exact .inl h
  · exact .inr ⟨g, cap, hv, hp.on hb⟩

end Go.Proofs.Ytplcbdmiccpnnaa.Ve
