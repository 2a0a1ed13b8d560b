/- The contract of the document's own least and greatest numbers of points. -/
import Derived.Test.YtohnjhnfhmfiiaaVfb
import Derived.Test.YtohnjhnfhmfiiaaVza
import Derived.Deep.DeepCutAuto
namespace Go.Proofs.Ytohnjhnfhmfiiaa.Ve
open Go.RowKit Go.Proofs.Ytohnjhnfhmfiiaa Go.Proofs.Ytohnjhnfhmfiiaa.Wa

/-- the least numbers of the first points of a row, and the greatest -/
def lo (L : Nat → Int) (i K : Nat) : Int := foldN min (L i) (fun j => L (j * 3 + i)) K

def hig (L : Nat → Int) (i K : Nat) : Int := foldN max (L i) (fun j => L (j * 3 + i)) K

theorem lo_step (L : Nat → Int) (i K : Nat) : lo L i (K + 1) = min (lo L i K) (L (K * 3 + i)) := rfl

theorem hig_step (L : Nat → Int) (i K : Nat) : hig L i (K + 1) = max (hig L i K) (L (K * 3 + i)) := rfl

theorem lo_one (L : Nat → Int) (i : Nat) : lo L i 1 = L i := by
  show min (L i) (L (0 * 3 + i)) = L i
  rw [show 0 * 3 + i = i by omega]; omega

theorem hig_one (L : Nat → Int) (i : Nat) : hig L i 1 = L i := by
  show max (L i) (L (0 * 3 + i)) = L i
  rw [show 0 * 3 + i = i by omega]; omega

/-- a row of numbers, three a point -/
def Nums (w : World) (g n : Nat) (L : Nat → Int) : Prop := g < w.heap.size ∧ ∀ j, j < n * 3 → w.cell? ⟨g, j, none⟩ = some (.int .i64 (L j))

theorem Nums.on {w w' : World} {g n : Nat} {L : Nat → Int} (h : Nums w g n L) (hb : Below w.heap.size w w') : Nums w' g n L :=
  ⟨Nat.lt_of_lt_of_le h.1 hb.size, fun j hj => (hb.cell (p := ⟨g, j, none⟩) h.1).trans (h.2 j hj)⟩

/-- two points of the call's own, the zero results, and nothing that was there written -/
def Two (w : World) (g h : Nat) (fg fh : Nat → Int) (wr : World) : Prop :=
  w.heap.size + 1 < g ∧ w.heap.size + 1 < h ∧ g ≠ h ∧ (∀ j, j < 3 → wr.cell? ⟨g, j, none⟩ = some (.int .i64 (fg j))) ∧ (∀ j, j < 3 → wr.cell? ⟨h, j, none⟩ = some (.int .i64 (fh j))) ∧
  (∀ j, wr.frozen? ⟨g, j, none⟩ = false) ∧ (∀ j, wr.frozen? ⟨h, j, none⟩ = false) ∧ (∀ j, j < 3 → wr.cell? ⟨w.heap.size, j, none⟩ = some (.int .i64 0)) ∧ (∀ j, j < 3 → wr.cell? ⟨w.heap.size + 1, j, none⟩ = some (.int .i64 0)) ∧
  (∀ j, wr.frozen? ⟨w.heap.size, j, none⟩ = false) ∧ (∀ j, wr.frozen? ⟨w.heap.size + 1, j, none⟩ = false) ∧ Below w.heap.size w wr

theorem Two.congr {w : World} {g h : Nat} {fg fh fg' fh' : Nat → Int} {wr : World} (m : Two w g h fg fh wr) (h1 : ∀ j, j < 3 → fg' j = fg j) (h2 : ∀ j, j < 3 → fh' j = fh j) : Two w g h fg' fh' wr :=
  ⟨m.1, m.2.1, m.2.2.1, fun j hj => by rw [h1 j hj]; exact m.2.2.2.1 j hj, fun j hj => by rw [h2 j hj]; exact m.2.2.2.2.1 j hj, m.2.2.2.2.2⟩

theorem Two.draws {w : World} {g h : Nat} {fg fh : Nat → Int} {wr : World} (m : Two w g h fg fh wr) (k : Nat) : Two w g h fg fh (wr.drewN k) :=
  ⟨m.1, m.2.1, m.2.2.1, m.2.2.2.1, m.2.2.2.2.1, m.2.2.2.2.2.1, m.2.2.2.2.2.2.1, m.2.2.2.2.2.2.2.1, m.2.2.2.2.2.2.2.2.1, m.2.2.2.2.2.2.2.2.2.1, m.2.2.2.2.2.2.2.2.2.2.1, below_draws m.2.2.2.2.2.2.2.2.2.2.2 k⟩

theorem set_at {wr : World} {b i j : Nat} {x v : Value} (hb : wr.cell? ⟨b, i, none⟩ = some v) : (wr.setCell ⟨b, i, none⟩ x).cell? ⟨b, j, none⟩ = if j = i then some x else wr.cell? ⟨b, j, none⟩ := by
  by_cases h : j = i
  · subst h; simp [World.cell?_setCell_same, hb]
  · rw [if_neg h]; exact World.cell?_setCell_other _ _ _ _ (by first | (simp; done) | (simp; omega))

theorem set_far {wr : World} {b c i j : Nat} {x : Value} (h : c ≠ b) : (wr.setCell ⟨b, i, none⟩ x).cell? ⟨c, j, none⟩ = wr.cell? ⟨c, j, none⟩ :=
  World.cell?_setCell_other _ _ _ _ (by first | (simp; done) | (simp; omega))

theorem Two.setg {w : World} {g h : Nat} {fg fh : Nat → Int} {wr : World} (m : Two w g h fg fh wr) {i : Nat} (hi : i < 3) (x : Int) : Two w g h (fun j => if j = i then x else fg j) fh (wr.setCell ⟨g, i, none⟩ (.int .i64 x)) := by
  obtain ⟨m1, m2, m3, m4, m5, m6, m7, m8, m9, m10, m11, m12⟩ := m
  refine ⟨m1, m2, m3, fun j hj => ?_, fun j hj => ?_, fun j => ?_, fun j => ?_, fun j hj => ?_, fun j hj => ?_, fun j => ?_, fun j => ?_, m12.setCell (by simp; omega) _⟩
  · rw [set_at (m4 i hi)]
    by_cases e : j = i
    · rw [if_pos e]; simp only [if_pos e]
    · rw [if_neg e]; simp only [if_neg e]; exact m4 j hj
  · rw [set_far (by omega)]; exact m5 j hj
  · rw [World.frozen?_setCell]; exact m6 j
  · rw [World.frozen?_setCell]; exact m7 j
  · rw [set_far (by omega)]; exact m8 j hj
  · rw [set_far (by omega)]; exact m9 j hj
  · rw [World.frozen?_setCell]; exact m10 j
  · rw [World.frozen?_setCell]; exact m11 j

theorem Two.swap {w : World} {g h : Nat} {fg fh : Nat → Int} {wr : World} (m : Two w g h fg fh wr) : Two w h g fh fg wr := by
  obtain ⟨m1, m2, m3, m4, m5, m6, m7, m8, m9, m10, m11, m12⟩ := m
  exact ⟨m2, m1, Ne.symm m3, m5, m4, m7, m6, m8, m9, m10, m11, m12⟩

theorem Two.seth {w : World} {g h : Nat} {fg fh : Nat → Int} {wr : World} (m : Two w g h fg fh wr) {i : Nat} (hi : i < 3) (x : Int) : Two w g h fg (fun j => if j = i then x else fh j) (wr.setCell ⟨h, i, none⟩ (.int .i64 x)) :=
  (m.swap.setg hi x).swap

theorem Two.stepg {w : World} {g h : Nat} {a b fh : Nat → Int} {wr : World} {i : Nat} {x : Int} (m : Two w g h (fun j => if j < i then a j else b j) fh wr) (hi : i < 3) (hx : a i = x) :
    Two w g h (fun j => if j < i + 1 then a j else b j) fh (wr.setCell ⟨g, i, none⟩ (.int .i64 x)) :=
  (m.setg hi x).congr (fun j _ => by
    by_cases e : j = i
    · subst e; rw [if_pos (by omega : j < j + 1)]; simp only [if_pos]; exact hx
    · by_cases e2 : j < i
      · rw [if_pos (by omega : j < i + 1)]; simp only [if_neg e, if_pos e2]
      · rw [if_neg (by omega : ¬ j < i + 1)]; simp only [if_neg e, if_neg e2]) (fun _ _ => rfl)

theorem Two.keepg {w : World} {g h : Nat} {a b fh : Nat → Int} {wr : World} {i : Nat} (m : Two w g h (fun j => if j < i then a j else b j) fh wr) (hx : a i = b i) :
    Two w g h (fun j => if j < i + 1 then a j else b j) fh wr :=
  m.congr (fun j _ => by
    by_cases e : j = i
    · subst e; rw [if_pos (by omega : j < j + 1)]; simp only [if_neg (Nat.lt_irrefl _)]; exact hx
    · by_cases e2 : j < i
      · rw [if_pos (by omega : j < i + 1)]; simp only [if_pos e2]
      · rw [if_neg (by omega : ¬ j < i + 1)]; simp only [if_neg e2]) (fun _ _ => rfl)

theorem Two.steph {w : World} {g h : Nat} {a b fg : Nat → Int} {wr : World} {i : Nat} {x : Int} (m : Two w g h fg (fun j => if j < i then a j else b j) wr) (hi : i < 3) (hx : a i = x) :
    Two w g h fg (fun j => if j < i + 1 then a j else b j) (wr.setCell ⟨h, i, none⟩ (.int .i64 x)) :=
  (m.swap.stepg hi hx).swap

theorem Two.keeph {w : World} {g h : Nat} {a b fg : Nat → Int} {wr : World} {i : Nat} (m : Two w g h fg (fun j => if j < i then a j else b j) wr) (hx : a i = b i) :
    Two w g h fg (fun j => if j < i + 1 then a j else b j) wr :=
  (m.swap.keepg hx).swap

end Go.Proofs.Ytohnjhnfhmfiiaa.Ve
