/- What the walk of VecLists keeps: two rows of points, the sum's variable, the point's. -/
import Derived.Test.YtohnjhnfhmfiiaaVk
import Derived.Test.YtohnjhnfhmfiiaaVfs
import Derived.Test.YtohnjhnfhmfiiaaVen
import Derived.Test.YtohnjhnfhmfiiaaLs
import Derived.Test.YtohnjhnfhmfiiaaVy
import Derived.Test.YtohnjhnfhmfiiaaVz
import Derived.Deep.DeepCutAuto
namespace Go.Proofs.Ytohnjhnfhmfiiaa.vecListsW
open Go.RowKit Go.Proofs.Ytohnjhnfhmfiiaa Go.Proofs.Ytohnjhnfhmfiiaa.Wa Go.Proofs.Ytohnjhnfhmfiiaa.Ve Go.Proofs.Ytohnjhnfhmfiiaa.Ls

/-- a slice of points: empty, or its numbers stand in one block -/
def IsRow3 (w : World) (a : Option Addr) (len : Nat) (L : Nat → Int) : Prop :=
  len = 0 ∨ ∃ b off, a = some ⟨b, off, none⟩ ∧ b < w.heap.size ∧ len ≤ 4611686018427387904 ∧ ∀ j, j < len * 3 → w.cell? ⟨b, off + j, none⟩ = some (.int .i64 (L j))

/-- the values of a row's numbers -/
def flat (L : Nat → Int) (k : Nat) : List Value := (List.range (k * 3)).map fun j => .int .i64 (L j)

theorem flat_len (L : Nat → Int) (k : Nat) : (flat L k).length = k * 3 := by simp [flat]

theorem flat_step (L : Nat → Int) (k : Nat) : flat L (k + 1) = flat L k ++ [.int .i64 (L (k * 3)), .int .i64 (L (k * 3 + 1)), .int .i64 (L (k * 3 + 2))] := by
  simp [flat, show (k + 1) * 3 = k * 3 + 1 + 1 + 1 by omega, List.range_succ]

theorem flat_at (L : Nat → Int) (k j : Nat) (h : j < k * 3) : (flat L k)[j]? = some (.int .i64 (L j)) := by
  simp [flat, h]

/-- the point, and the list's points behind it -/
def withA (ax ay az : Int) (L : Nat → Int) (j : Nat) : Int := if j = 0 then ax else if j = 1 then ay else if j = 2 then az else L (j - 3)

theorem withA_at (ax ay az : Int) (L : Nat → Int) (j : Nat) : withA ax ay az L (j + 3) = L j := by simp [withA]

theorem fold_shift (f : Int → Int → Int) (a : Int) (l l' : Nat → Int) (h0 : f a (l 0) = a) (h : ∀ j, l (j + 1) = l' j) : ∀ k, foldN f a l (k + 1) = foldN f a l' k
  | 0 => h0
  | k + 1 => by
    show f (foldN f a l (k + 1)) (l (k + 1)) = f (foldN f a l' k) (l' k)
    rw [fold_shift f a l l' h0 h k, h]

theorem own_ne {w : World} {b1 b2 : Nat} {e1 e2 : TypeId} {s1 s2 n1 n2 : Nat} {v1 v2 : Value} {x1 x2 : List Value} (he : e1 ≠ e2) (h1 : w.ownsRow b1 e1 s1 v1 n1 x1) (h2 : w.ownsRow b2 e2 s2 v2 n2 x2) :
    v1.ownBlock = none ∨ v1.ownBlock ≠ v2.ownBlock := by
  rcases h1.2 with ⟨rfl, -⟩ | ⟨g1, c1, u1, rfl, -, g, -, -, -, -⟩
  · exact .inl rfl
  · rcases h2.2 with ⟨rfl, -⟩ | ⟨g2, c2, u2, rfl, -, g', -, -, -, -⟩
    · exact .inr (by simp [Value.ownBlock])
    · refine .inr fun e => ?_
      simp [Value.ownBlock] at e
      subst e
      rw [g] at g'
      simp at g'
      exact he g'.2

/-- the sum's variable and the point's, and nothing that was there written -/
def Base (w : World) (ax ay az X Y Z : Int) (wr : World) : Prop :=
  wr.cell? ⟨w.heap.size + 1, 0, none⟩ = some (.int .i64 X) ∧ wr.cell? ⟨w.heap.size + 1, 1, none⟩ = some (.int .i64 Y) ∧ wr.cell? ⟨w.heap.size + 1, 2, none⟩ = some (.int .i64 Z) ∧ (∀ j, wr.frozen? ⟨w.heap.size + 1, j, none⟩ = false) ∧
  wr.cell? ⟨w.heap.size, 0, none⟩ = some (.int .i64 ax) ∧ wr.cell? ⟨w.heap.size, 1, none⟩ = some (.int .i64 ay) ∧ wr.cell? ⟨w.heap.size, 2, none⟩ = some (.int .i64 az) ∧
  w.heap.size + 2 ≤ wr.heap.size ∧ Below w.heap.size w wr

theorem Base.on {w : World} {ax ay az X Y Z : Int} {wr w' : World} (h : Base w ax ay az X Y Z wr) (hb : Below wr.heap.size wr w') : Base w ax ay az X Y Z w' := by
  obtain ⟨h1, h2, h3, h4, h5, h6, h7, h8, h9⟩ := h
  obtain ⟨hc, hf⟩ := bcell hb
  exact ⟨(hc _ _ (by omega)).trans h1, (hc _ _ (by omega)).trans h2, (hc _ _ (by omega)).trans h3, fun j => (hf _ _ (by omega)).trans (h4 j), (hc _ _ (by omega)).trans h5, (hc _ _ (by omega)).trans h6, (hc _ _ (by omega)).trans h7, Nat.le_trans h8 hb.size, h9.trans (hb.mono h9.size)⟩

theorem Base.grown {w : World} {ax ay az X Y Z : Int} {wr w' : World} {row : Option Nat} (h : Base w ax ay az X Y Z wr) (hg : wr.grownBy w' row) (hr : ∀ k, row = some k → w.heap.size + 2 ≤ k) : Base w ax ay az X Y Z w' := by
  obtain ⟨h1, h2, h3, h4, h5, h6, h7, h8, h9⟩ := h
  have e1 : some (w.heap.size + 1) ≠ row := fun e => by have := hr _ e.symm; omega
  have e0 : some w.heap.size ≠ row := fun e => by have := hr _ e.symm; omega
  exact ⟨hg.cell h1 e1, hg.cell h2 e1, hg.cell h3 e1, fun j => (World.frozen?_of_block (hg.block _ (by show w.heap.size + 1 < _; omega) e1)).trans (h4 j), hg.cell h5 e0, hg.cell h6 e0, hg.cell h7 e0, Nat.le_trans h8 hg.size,
    h9.grown hg (by omega) (fun k hk => by have := hr k hk; omega)⟩

theorem Base.put {w : World} {ax ay az X Y Z : Int} {wr : World} (h : Base w ax ay az X Y Z wr) (x y z : Int) :
    Base w ax ay az x y z (((wr.setCell ⟨w.heap.size + 1, 0, none⟩ (.int .i64 x)).setCell ⟨w.heap.size + 1, 1, none⟩ (.int .i64 y)).setCell ⟨w.heap.size + 1, 2, none⟩ (.int .i64 z)) := by
  obtain ⟨h1, h2, h3, h4, h5, h6, h7, h8, h9⟩ := h
  have n0 : w.heap.size ≠ w.heap.size + 1 := by omega
  refine ⟨?_, ?_, ?_, fun j => ?_, ?_, ?_, ?_, by simpa using h8, below_put3 h9 (by omega) _ _ _⟩
  · rw [set_at (v := .int .i64 Z) (by rw [set_at (v := .int .i64 Y) (by rw [set_at h1]; exact h2), set_at h1]; exact h3), set_at (v := .int .i64 Y) (by rw [set_at h1]; exact h2), set_at h1]; rfl
  · rw [set_at (v := .int .i64 Z) (by rw [set_at (v := .int .i64 Y) (by rw [set_at h1]; exact h2), set_at h1]; exact h3), set_at (v := .int .i64 Y) (by rw [set_at h1]; exact h2)]; rfl
  · rw [set_at (v := .int .i64 Z) (by rw [set_at (v := .int .i64 Y) (by rw [set_at h1]; exact h2), set_at h1]; exact h3)]; rfl
  · rw [World.frozen?_setCell, World.frozen?_setCell, World.frozen?_setCell]; exact h4 j
  · rw [set_far n0, set_far n0, set_far n0]; exact h5
  · rw [set_far n0, set_far n0, set_far n0]; exact h6
  · rw [set_far n0, set_far n0, set_far n0]; exact h7

/-- a point in a block of its own -/
def At (g : Nat) (x y z : Int) (wr : World) : Prop := g < wr.heap.size ∧ wr.cell? ⟨g, 0, none⟩ = some (.int .i64 x) ∧ wr.cell? ⟨g, 1, none⟩ = some (.int .i64 y) ∧ wr.cell? ⟨g, 2, none⟩ = some (.int .i64 z)

theorem At.on {g : Nat} {x y z : Int} {wr w' : World} (h : At g x y z wr) (hb : Below wr.heap.size wr w') : At g x y z w' := by
  obtain ⟨h0, h1, h2, h3⟩ := h
  obtain ⟨hc, hf⟩ := bcell hb
  exact ⟨Nat.lt_of_lt_of_le h0 hb.size, (hc _ _ h0).trans h1, (hc _ _ h0).trans h2, (hc _ _ h0).trans h3⟩

theorem At.grown {g : Nat} {x y z : Int} {wr w' : World} {row : Option Nat} (h : At g x y z wr) (hg : wr.grownBy w' row) (hr : ∀ k, row = some k → k < g) : At g x y z w' := by
  obtain ⟨h0, h1, h2, h3⟩ := h
  have e1 : some g ≠ row := fun e => by have := hr _ e.symm; omega
  exact ⟨Nat.lt_of_lt_of_le h0 hg.size, hg.cell h1 e1, hg.cell h2 e1, hg.cell h3 e1⟩

theorem At.put {g h : Nat} {x y z : Int} {wr : World} (m : At g x y z wr) (hn : g ≠ h) (a b c : Value) : At g x y z (((wr.setCell ⟨h, 0, none⟩ a).setCell ⟨h, 1, none⟩ b).setCell ⟨h, 2, none⟩ c) := by
  obtain ⟨h0, h1, h2, h3⟩ := m
  refine ⟨by simpa using h0, ?_, ?_, ?_⟩ <;> (rw [set_far hn, set_far hn, set_far hn]; assumption)

theorem own_put {w : World} {base h : Nat} {e : TypeId} {size n : Nat} {v : Value} {xs : List Value} (m : w.ownsRow base e size v n xs) (hh : h < base) (a b c : Value) :
    (((w.setCell ⟨h, 0, none⟩ a).setCell ⟨h, 1, none⟩ b).setCell ⟨h, 2, none⟩ c).ownsRow base e size v n xs := by
  have k1 : ∀ (w' : World) (i : Nat) (u : Value), w'.ownsRow base e size v n xs → (w'.setCell ⟨h, i, none⟩ u).ownsRow base e size v n xs := fun w' i u m' => ownsRow_setCell_below m' (a := ⟨h, i, none⟩) hh u
  exact k1 _ _ _ (k1 _ _ _ (k1 _ _ _ m))

theorem new_at (W : World) (n : Nat) (hn : n = W.heap.size) (cs : Array Value) (t : TypeId) (j : Nat) (u : Value) (h : cs[j]? = some u) : (W.alloc (.cells cs t)).cell? ⟨n, j, none⟩ = some u := by
  subst hn; simpa using h

/-- what holds before each round: the row of points, the row with the point before them, the sum so far -/
def Inv (w : World) (ax ay az : Int) (L : Nat → Int) (k : Nat) (s5 s7 : Value) (wr : World) : Prop :=
  wr.ownsRow (w.heap.size + 2) 29 3 s5 k (flat L k) ∧ wr.ownsRow (w.heap.size + 2) 23 3 s7 (k + 1) (flat (withA ax ay az L) (k + 1)) ∧
  Base w ax ay az (foldN Pl.add 0 (fun j => L (j * 3)) k) (foldN Pl.add 0 (fun j => L (j * 3 + 1)) k) (foldN Pl.add 0 (fun j => L (j * 3 + 2)) k) wr

theorem own_pts {w : World} {base k : Nat} {e : TypeId} {v : Value} {L : Nat → Int} (h : w.ownsRow base e 3 v k (flat L k)) : PtsV w v k (fun j => L (j * 3)) (fun j => L (j * 3 + 1)) (fun j => L (j * 3 + 2)) := by
  rcases h.2 with ⟨hv, hn⟩ | ⟨g, cap, cur, rfl, -, -, -, -, -, -⟩
  · exact .inl ⟨hv, hn⟩
  · exact .inr ⟨g, cap, rfl, (h.lt g rfl).2, fun j hj => ⟨(h.cellAt (j * 3) (by omega)).trans (flat_at L k _ (by omega)), (h.cellAt (j * 3 + 1) (by omega)).trans (flat_at L k _ (by omega)), (h.cellAt (j * 3 + 2) (by omega)).trans (flat_at L k _ (by omega))⟩⟩

theorem own_nums {w : World} {base k : Nat} {e : TypeId} {v : Value} {L : Nat → Int} (h : w.ownsRow base e 3 v k (flat L k)) (hk : 1 ≤ k) : ∃ g cap, v = .slice (some ⟨g, 0, none⟩) k cap ∧ Nums w g k L := by
  rcases h.2 with ⟨hv, hn⟩ | ⟨g, cap, cur, rfl, -, -, -, -, -, -⟩
  · exact absurd hk (by omega)
  · exact ⟨g, cap, rfl, (h.lt g rfl).2, fun j hj => (h.cellAt j hj).trans (flat_at L k j hj)⟩

theorem lo_with (ax ay az : Int) (L : Nat → Int) (k : Nat) : lo (withA ax ay az L) 0 (k + 1) = foldN min ax (fun j => L (j * 3)) k ∧ lo (withA ax ay az L) 1 (k + 1) = foldN min ay (fun j => L (j * 3 + 1)) k ∧ lo (withA ax ay az L) 2 (k + 1) = foldN min az (fun j => L (j * 3 + 2)) k :=
  ⟨fold_shift _ _ _ _ (by show min ax ax = ax; omega) (fun j => withA_at ax ay az L (j * 3) |> fun h => by rw [← h]; congr 1; omega) k,
   fold_shift _ _ _ _ (by show min ay ay = ay; omega) (fun j => withA_at ax ay az L (j * 3 + 1) |> fun h => by rw [← h]; congr 1; omega) k,
   fold_shift _ _ _ _ (by show min az az = az; omega) (fun j => withA_at ax ay az L (j * 3 + 2) |> fun h => by rw [← h]; congr 1; omega) k⟩

theorem hig_with (ax ay az : Int) (L : Nat → Int) (k : Nat) : hig (withA ax ay az L) 0 (k + 1) = foldN max ax (fun j => L (j * 3)) k ∧ hig (withA ax ay az L) 1 (k + 1) = foldN max ay (fun j => L (j * 3 + 1)) k ∧ hig (withA ax ay az L) 2 (k + 1) = foldN max az (fun j => L (j * 3 + 2)) k :=
  ⟨fold_shift _ _ _ _ (by show max ax ax = ax; omega) (fun j => withA_at ax ay az L (j * 3) |> fun h => by rw [← h]; congr 1; omega) k,
   fold_shift _ _ _ _ (by show max ay ay = ay; omega) (fun j => withA_at ax ay az L (j * 3 + 1) |> fun h => by rw [← h]; congr 1; omega) k,
   fold_shift _ _ _ _ (by show max az az = az; omega) (fun j => withA_at ax ay az L (j * 3 + 2) |> fun h => by rw [← h]; congr 1; omega) k⟩

end Go.Proofs.Ytohnjhnfhmfiiaa.vecListsW
