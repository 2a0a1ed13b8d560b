/- What the walk of HueLists keeps: a row of lights, the sum's variable. -/
import Derived.Test.YtcgafhpbcdmigaaHs
import Derived.Test.YtcgafhpbcdmigaaHf
import Derived.Test.YtcgafhpbcdmigaaHr
import Derived.Test.YtcgafhpbcdmigaaHk
import Derived.Test.YtcgafhpbcdmigaaVfb
import Derived.Test.YtcgafhpbcdmigaaLs
import Derived.Deep.DeepCutAuto
namespace Go.Proofs.Ytcgafhpbcdmigaa.hueListsW
open Go.RowKit Go.Proofs.Ytcgafhpbcdmigaa Go.Proofs.Ytcgafhpbcdmigaa.Wa Go.Proofs.Ytcgafhpbcdmigaa.Ve Go.Proofs.Ytcgafhpbcdmigaa.He Go.Proofs.Ytcgafhpbcdmigaa.Ls

/-- a slice of points: empty, or its numbers stand in one block -/
def IsRow3 (w : World) (a : Option Addr) (len : Nat) (L : Nat → Int) : Prop :=
  len = 0 ∨ ∃ b off, a = some ⟨b, off, none⟩ ∧ b < w.heap.size ∧ len * 24 ≤ 140737488351232 ∧ ∀ j, j < len * 3 → w.cell? ⟨b, off + j, none⟩ = some (.int .i64 (L j))

/-- the values of a row's numbers -/
def flat (L : Nat → Int) (k : Nat) : List Value := (List.range (k * 3)).map fun j => .int .i64 (L j)

theorem flat_len (L : Nat → Int) (k : Nat) : (flat L k).length = k * 3 := by simp [flat]

theorem flat_step (L : Nat → Int) (k : Nat) : flat L (k + 1) = flat L k ++ [.int .i64 (L (k * 3)), .int .i64 (L (k * 3 + 1)), .int .i64 (L (k * 3 + 2))] := by
  simp [flat, show (k + 1) * 3 = k * 3 + 1 + 1 + 1 by omega, List.range_succ]

theorem flat_at (L : Nat → Int) (k j : Nat) (h : j < k * 3) : (flat L k)[j]? = some (.int .i64 (L j)) := by
  simp [flat, h]

theorem set_at {wr : World} {b i j : Nat} {x v : Value} (hb : wr.cell? ⟨b, i, none⟩ = some v) : (wr.setCell ⟨b, i, none⟩ x).cell? ⟨b, j, none⟩ = if j = i then some x else wr.cell? ⟨b, j, none⟩ := by
  by_cases h : j = i
  · subst h; simp [World.cell?_setCell_same, hb]
  · rw [if_neg h]; exact World.cell?_setCell_other _ _ _ _ (by first | (simp; done) | (simp; omega))

theorem set_far {wr : World} {b c i j : Nat} {x : Value} (h : c ≠ b) : (wr.setCell ⟨b, i, none⟩ x).cell? ⟨c, j, none⟩ = wr.cell? ⟨c, j, none⟩ :=
  World.cell?_setCell_other _ _ _ _ (by first | (simp; done) | (simp; omega))

/-- the sum's variable, and nothing that was there written -/
def Base (w : World) (X Y Z : Int) (wr : World) : Prop :=
  wr.cell? ⟨w.heap.size, 0, none⟩ = some (.int .i64 X) ∧ wr.cell? ⟨w.heap.size, 1, none⟩ = some (.int .i64 Y) ∧ wr.cell? ⟨w.heap.size, 2, none⟩ = some (.int .i64 Z) ∧ (∀ j, wr.frozen? ⟨w.heap.size, j, none⟩ = false) ∧
  w.heap.size + 1 ≤ wr.heap.size ∧ Below w.heap.size w wr

theorem Base.on {w : World} {X Y Z : Int} {wr w' : World} (h : Base w X Y Z wr) (hb : Below wr.heap.size wr w') : Base w X Y Z w' := by
  obtain ⟨h1, h2, h3, h4, h8, h9⟩ := h
  obtain ⟨hc, hf⟩ := bcell hb
  exact ⟨(hc _ _ (by omega)).trans h1, (hc _ _ (by omega)).trans h2, (hc _ _ (by omega)).trans h3, fun j => (hf _ _ (by omega)).trans (h4 j), Nat.le_trans h8 hb.size, h9.trans (hb.mono h9.size)⟩

theorem Base.grown {w : World} {X Y Z : Int} {wr w' : World} {row : Option Nat} (h : Base w X Y Z wr) (hg : wr.grownBy w' row) (hr : ∀ k, row = some k → w.heap.size + 1 ≤ k) : Base w X Y Z w' := by
  obtain ⟨h1, h2, h3, h4, h8, h9⟩ := h
  have e1 : some w.heap.size ≠ row := fun e => by have := hr _ e.symm; omega
  exact ⟨hg.cell h1 e1, hg.cell h2 e1, hg.cell h3 e1, fun j => (World.frozen?_of_block (hg.block _ (by show w.heap.size < _; omega) e1)).trans (h4 j), Nat.le_trans h8 hg.size,
    h9.grown hg (by omega) (fun k hk => by have := hr k hk; omega)⟩

theorem Base.put {w : World} {X Y Z : Int} {wr : World} (h : Base w X Y Z wr) (x y z : Int) :
    Base w x y z (((wr.setCell ⟨w.heap.size, 0, none⟩ (.int .i64 x)).setCell ⟨w.heap.size, 1, none⟩ (.int .i64 y)).setCell ⟨w.heap.size, 2, none⟩ (.int .i64 z)) := by
  obtain ⟨h1, h2, h3, h4, h8, h9⟩ := h
  refine ⟨?_, ?_, ?_, fun j => ?_, by simpa using h8, below_put3 h9 (by omega) _ _ _⟩
  · rw [set_at (v := .int .i64 Z) (by rw [set_at (v := .int .i64 Y) (by rw [set_at h1]; exact h2), set_at h1]; exact h3), set_at (v := .int .i64 Y) (by rw [set_at h1]; exact h2), set_at h1]; rfl
  · rw [set_at (v := .int .i64 Z) (by rw [set_at (v := .int .i64 Y) (by rw [set_at h1]; exact h2), set_at h1]; exact h3), set_at (v := .int .i64 Y) (by rw [set_at h1]; exact h2)]; rfl
  · rw [set_at (v := .int .i64 Z) (by rw [set_at (v := .int .i64 Y) (by rw [set_at h1]; exact h2), set_at h1]; exact h3)]; rfl
  · rw [World.frozen?_setCell, World.frozen?_setCell, World.frozen?_setCell]; exact h4 j

/-- a point in a block of its own -/
def At (g : Nat) (x y z : Int) (wr : World) : Prop := g < wr.heap.size ∧ wr.cell? ⟨g, 0, none⟩ = some (.int .i64 x) ∧ wr.cell? ⟨g, 1, none⟩ = some (.int .i64 y) ∧ wr.cell? ⟨g, 2, none⟩ = some (.int .i64 z)

theorem At.on {g : Nat} {x y z : Int} {wr w' : World} (h : At g x y z wr) (hb : Below wr.heap.size wr w') : At g x y z w' := by
  obtain ⟨h0, h1, h2, h3⟩ := h
  obtain ⟨hc, hf⟩ := bcell hb
  exact ⟨Nat.lt_of_lt_of_le h0 hb.size, (hc _ _ h0).trans h1, (hc _ _ h0).trans h2, (hc _ _ h0).trans h3⟩

theorem At.grown {g : Nat} {x y z : Int} {wr w' : World} {row : Option Nat} (h : At g x y z wr) (hg : wr.grownBy w' row) (hr : ∀ k, row = some k → k < g) : At g x y z w' := by
  obtain ⟨h0, h1, h2, h3⟩ := h
  have e1 : some g ≠ row := fun e => by have := hr _ e.symm; omega
  exact ⟨Nat.lt_of_lt_of_le h0 hg.size, hg.cell h1 e1, hg.cell h2 e1, hg.cell h3 e1⟩

theorem own_put {w : World} {base h : Nat} {e : TypeId} {size n : Nat} {v : Value} {xs : List Value} (m : w.ownsRow base e size v n xs) (hh : h < base) (a b c : Value) :
    (((w.setCell ⟨h, 0, none⟩ a).setCell ⟨h, 1, none⟩ b).setCell ⟨h, 2, none⟩ c).ownsRow base e size v n xs := by
  have k1 : ∀ (w' : World) (i : Nat) (u : Value), w'.ownsRow base e size v n xs → (w'.setCell ⟨h, i, none⟩ u).ownsRow base e size v n xs := fun w' i u m' => ownsRow_setCell_below m' (a := ⟨h, i, none⟩) hh u
  exact k1 _ _ _ (k1 _ _ _ (k1 _ _ _ m))

/-- what holds before each round: the row of lights, the sum so far -/
def Inv (w : World) (L : Nat → Int) (k : Nat) (s5 : Value) (wr : World) : Prop :=
  wr.ownsRow (w.heap.size + 1) 26 3 s5 k (flat L k) ∧
  Base w (foldN Pl.add 0 (fun j => L (j * 3)) k) (foldN Pl.add 0 (fun j => L (j * 3 + 1)) k) (foldN Pl.add 0 (fun j => L (j * 3 + 2)) k) wr

theorem own_pts {w : World} {base k : Nat} {e : TypeId} {v : Value} {L : Nat → Int} (h : w.ownsRow base e 3 v k (flat L k)) : PtsV w v k (fun j => L (j * 3)) (fun j => L (j * 3 + 1)) (fun j => L (j * 3 + 2)) := by
  rcases h.2 with ⟨hv, hn⟩ | ⟨g, cap, cur, rfl, -, -, -, -, -, -⟩
  · exact .inl ⟨hv, hn⟩
  · exact .inr ⟨g, cap, rfl, (h.lt g rfl).2, fun j hj => ⟨(h.cellAt (j * 3) (by omega)).trans (flat_at L k _ (by omega)), (h.cellAt (j * 3 + 1) (by omega)).trans (flat_at L k _ (by omega)), (h.cellAt (j * 3 + 2) (by omega)).trans (flat_at L k _ (by omega))⟩⟩

theorem hsum_none (w : World) : Calls Try.prog 23 #[.slice none 0 0] w fun e w' => e = .returned (V3 0 0 0) ∧ Below w.heap.size w w' := by
  go_enter Try.func23, Try.ntmps23
  go_wp2
  refine wp_loop_rounds 1 ?_
  rw [rounds_succ]
  go_wp2
  exact bodyPost_ret (v := V3 0 0 0) (by simp [results, Try.results23, go_sem]) rfl ⟨rfl, below_n2 _ _ _⟩

set_option maxHeartbeats 2000000 in
set_option maxRecDepth 100000 in
theorem hsum_row (g n cap : Nat) (lx ly lz : Nat → Int) (hn : n ≤ 4611686018427387904) (w : World) (hp : Pts w g n lx ly lz) :
    Calls Try.prog 23 #[.slice (some ⟨g, 0, none⟩) n cap] w fun e w' => e = .returned (V3 (foldN Pl.add 0 lx n) (foldN Pl.add 0 ly n) (foldN Pl.add 0 lz n)) ∧ Below w.heap.size w w' := by
  have HP := Lib.hid hp
  clear hp
  go_enter Try.func23, Try.ntmps23
  go_wp2
  go_loopw [8] (fun i wr => ∃ k : Nat, k ≤ n ∧ i = .int .i64 k ∧ wr.cell? ⟨w.heap.size + 1, 0, none⟩ = some (.int .i64 (foldN Pl.add 0 lx k)) ∧ wr.cell? ⟨w.heap.size + 1, 1, none⟩ = some (.int .i64 (foldN Pl.add 0 ly k)) ∧ wr.cell? ⟨w.heap.size + 1, 2, none⟩ = some (.int .i64 (foldN Pl.add 0 lz k)) ∧ (∀ j, wr.frozen? ⟨w.heap.size + 1, j, none⟩ = false) ∧ (∀ j, wr.frozen? ⟨w.heap.size, j, none⟩ = false) ∧ wr.cell? ⟨w.heap.size, 0, none⟩ = some (.int .i64 0) ∧ wr.cell? ⟨w.heap.size, 1, none⟩ = some (.int .i64 0) ∧ wr.cell? ⟨w.heap.size, 2, none⟩ = some (.int .i64 0) ∧ Below w.heap.size w wr) (fun i _ => n - (intOf i).toNat)
  case atStart => exact ⟨0, Nat.zero_le _, rfl, by go_simp; rfl, by go_simp; rfl, by go_simp; rfl, fun j => by go_simp, fun j => by go_simp, by go_simp, by go_simp, by go_simp, below_n2 _ _ _⟩
  case round =>
    obtain ⟨k, hk, rfl, a0, a1, a2, af, bf, b0, b1, b2, hnx⟩ := hrel
    by_cases hlt : k < n
    · obtain ⟨e0, e1, e2⟩ := (HP.out.on hnx).2 k hlt
      have s0 := World.block_lt_of_cell? _ _ a0
      have s1 := World.block_lt_of_cell? _ _ b0
      simp only at s0 s1
      have t0 : w.heap.size < wr.heap.size + 1 := by omega
      have t1 : w.heap.size + 1 < wr.heap.size + 1 := by omega
      go_wp2_with fail
      refine (hadd_any _ _ _ _ _ _ _).mono ?_
      rintro e w1 ⟨rfl, hb⟩
      obtain ⟨hc, hf⟩ := bcell hb
      have hz := hb.size
      simp at hz
      go_wp2
      go_roundw
      case rel =>
        refine ⟨k + 1, by omega, by go_num, ?_, ?_, ?_, fun j => ?_, fun j => ?_, ?_, ?_, ?_, below_put3 ((hnx.alloc hnx.size _).trans (hb.mono (by simp; omega))) (by omega) _ _ _⟩
        · go_simp; rfl
        · go_simp; rfl
        · go_simp; rfl
        · go_simp
        · go_simp
        · go_simp
        · go_simp
        · go_simp
      case measure => simp [intOf]; omega
    · obtain rfl : k = n := by omega
      go_wp2
      exact bodyPost_ret (v := V3 (foldN Pl.add 0 lx k) (foldN Pl.add 0 ly k) (foldN Pl.add 0 lz k)) (by simp [results, Try.results23, go_sem, b0, b1, b2]) rfl ⟨rfl, below_put3 hnx (by omega) _ _ _⟩

theorem hsum_v (v : Value) (n : Nat) (lx ly lz : Nat → Int) (hn : n ≤ 4611686018427387904) (w : World) (hp : PtsV w v n lx ly lz) :
    Calls Try.prog 23 #[v] w fun e w' => e = .returned (V3 (foldN Pl.add 0 lx n) (foldN Pl.add 0 ly n) (foldN Pl.add 0 lz n)) ∧ Below w.heap.size w w' := by
  rcases hp with ⟨rfl, rfl⟩ | ⟨g, cap, rfl, hp⟩
  · exact hsum_none w
  · exact hsum_row g n cap lx ly lz hn w hp

end Go.Proofs.Ytcgafhpbcdmigaa.hueListsW
