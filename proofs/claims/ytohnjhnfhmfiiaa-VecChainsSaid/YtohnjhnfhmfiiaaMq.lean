/- What a list of matrices that came in is: a slice whose numbers stand in one block, or an empty one. -/
import Derived.Test.YtohnjhnfhmfiiaaMp
import Derived.Deep.Slices
import Derived.WideShapes
import Derived.Handed
namespace Go.Proofs.Ytohnjhnfhmfiiaa.Ve
open Go.ChangeShapes Go.WideShapes Go.RowKit Go.Deep

/-- a slice of matrices: empty, or its numbers stand in one block -/
def IsRow12 (w : World) (a : Option Addr) (len : Nat) (L : Nat → Int) : Prop :=
  len = 0 ∨ ∃ b off, a = some ⟨b, off, none⟩ ∧ b < w.heap.size ∧ len ≤ 4611686018427387904 ∧ ∀ j, j < len * 12 → w.cell? ⟨b, off + j, none⟩ = some (.int .i64 (L j))

theorem nums12 {H : Type} {enc : TypeId × Value → H} {W : World} {base : Nat} {sp : Nat → Bool} {held : Bool} {n : Nat} {cs : List Value} {a : Addr} {x : DataW H × List MemPlace}
    (h1 : W.cells? base a (Try.prog.cellsOf 26) = some cs) (h2 : DataW.trod enc Try.prog W base sp held n 26 cs = some x) :
    ∃ m : Nat → Int, ∀ j, j < 12 → W.cell? (a.add j) = some (.int .i64 (m j)) := by
  obtain ⟨_, hlen, hc⟩ := World.cells?_some h1
  rw [cells_mat] at hlen hc
  obtain ⟨m, rfl⟩ := nums_mat hlen h2
  refine ⟨m, fun j hj => ?_⟩
  have := hc j hj
  simpa [hj] using this

set_option maxRecDepth 100000 in
theorem open_mats {H : Type} {enc : TypeId × Value → H} {W : World} {base : Nat} {held : Bool} {a : Option Addr} {len cap : Nat} {d : DataW H} {p : List MemPlace}
    (h : DataW.Trod enc Try.prog W base (fun _ => true) held 47 (.slice a len cap) d p) (hlt : ∀ x ∈ p, x.block < W.heap.size) (hm : len ≤ 4611686018427387904) : ∃ L, IsRow12 W a len L ∧ len ≤ cap := by
  obtain ⟨fuel, hf⟩ := h
  rcases open_slice Try.underlying47 hf with ⟨hcs, _⟩ | ⟨x, l, c, m, n, D, Pl, hcs, _, hl, _, hmm, hx, hel⟩
  · simp [Value.cells] at hcs
    exact ⟨fun _ => 0, .inl hcs.2.1, by omega⟩
  · simp [Value.cells] at hcs
    obtain ⟨rfl, rfl, rfl⟩ := hcs
    simp only [if_true] at hmm
    by_cases hl0 : len = 0
    · exact ⟨fun _ => 0, .inl hl0, by omega⟩
    · obtain ⟨f, hF⟩ := choose_lt (α := Nat → Int) (n := m) (p := fun i z => ∀ j, j < 12 → W.cell? ((x.add (i * 12)).add j) = some (.int .i64 (z j))) (fun i hi => by
        obtain ⟨cs', h1, h2⟩ := hel i hi
        have := nums12 h1 h2
        rwa [cells_mat] at this)
      simp only [add_add] at hF
      obtain ⟨b, off, spot⟩ := x
      have hspot : spot = none := by simpa [Addr.add] using World.cell?_spot (hF 0 (by omega) 0 (by omega))
      subst hspot
      simp only [Prod.mk.injEq] at hx
      obtain ⟨rfl, rfl⟩ := hx
      have hbW : b < W.heap.size := hlt (.cell b off) (List.mem_append_left _ (MemPlace.mem_row.2 ⟨0, by rw [cells_mat]; omega, by simp⟩))
      refine ⟨fun j => f (j / 12) (j % 12), .inr ⟨b, off, rfl, hbW, hm, fun j hj => ?_⟩, by omega⟩
      have f0 := hF (j / 12) (by omega) (j % 12) (by omega)
      rw [add_plain] at f0
      rw [show off + j = off + (j / 12 * 12 + j % 12) by omega]
      exact f0

set_option maxRecDepth 100000 in
theorem mats_small {H : Type} {enc : TypeId × Value → H} {W : World} {base : Nat} {held : Bool} {a : Option Addr} {len cap : Nat} {d : DataW H} {p : List MemPlace}
    (h : DataW.Trod enc Try.prog W base (fun _ => true) held 47 (.slice a len cap) d p)
    (hs : ∀ es sp : List (DataW H), d = .slice es sp → (es.length + sp.length) * Try.prog.bytesOf 26 ≤ reachBytes) : len ≤ 4611686018427387904 := by
  obtain ⟨fuel, hf⟩ := h
  rcases open_slice Try.underlying47 hf with ⟨hcs, _⟩ | ⟨x, l, c, m, n, D, Pl, hcs, _, hl, _, hmm, hx, hel⟩
  · simp [Value.cells] at hcs
    omega
  · simp [Value.cells] at hcs
    obtain ⟨rfl, rfl, rfl⟩ := hcs
    simp only [Prod.mk.injEq] at hx
    obtain ⟨rfl, rfl⟩ := hx
    have := hs _ _ rfl
    rw [show Try.prog.bytesOf 26 = 96 by kernel_rfl] at this
    simp only [List.length_map, List.length_range, reachBytes] at this
    omega

end Go.Proofs.Ytohnjhnfhmfiiaa.Ve
