/- What a list of lights that came in is: a slice whose numbers stand in one block, or an empty one. -/
import Derived.Test.YtcgafhpbcdmigaaHp
import Derived.Test.YtcgafhpbcdmigaaHla
import Derived.Deep.Slices
import Derived.WideShapes
import Derived.Handed
namespace Go.Proofs.Ytcgafhpbcdmigaa.He
open Go.ChangeShapes Go.WideShapes Go.RowKit Go.Deep Go.Proofs.Ytcgafhpbcdmigaa.hueListsW

/-- the three numbers of a light that is read -/
theorem nums3 {H : Type} {enc : TypeId × Value → H} {W : World} {base : Nat} {sp : Nat → Bool} {held : Bool} {n : Nat} {cs : List Value} {a : Addr} {x : DataW H × List MemPlace}
    (h1 : W.cells? base a (Try.prog.cellsOf 23) = some cs) (h2 : DataW.trod enc Try.prog W base sp held n 23 cs = some x) :
    ∃ z : Int × Int × Int, W.cell? (a.add 0) = some (.int .i64 z.1) ∧ W.cell? (a.add 1) = some (.int .i64 z.2.1) ∧ W.cell? (a.add 2) = some (.int .i64 z.2.2) := by
  obtain ⟨_, hlen, hc⟩ := World.cells?_some h1
  rw [cells_v3] at hlen hc
  match cs, hlen with
  | [c0, c1, c2], _ =>
    obtain ⟨y0, y1, y2, m, hx, hy0, hy1, hy2⟩ := trod_array3 Try.underlying23 cells_i64 h2
    obtain ⟨x0, e0, rfl, w0⟩ := DataW.trod_int Try.underlying2 hy0
    obtain ⟨x1, e1, rfl, w1⟩ := DataW.trod_int Try.underlying2 hy1
    obtain ⟨x2, e2, rfl, w2⟩ := DataW.trod_int Try.underlying2 hy2
    simp at e0 e1 e2
    subst e0 e1 e2
    exact ⟨(x0, x1, x2), hc 0 (by omega), hc 1 (by omega), hc 2 (by omega)⟩

set_option maxRecDepth 100000 in
theorem open_vecs {H : Type} {enc : TypeId × Value → H} {W : World} {base : Nat} {held : Bool} {a : Option Addr} {len cap : Nat} {d : DataW H} {p : List MemPlace}
    (h : DataW.Trod enc Try.prog W base (fun _ => true) held 38 (.slice a len cap) d p) (hlt : ∀ x ∈ p, x.block < W.heap.size) (hm : len * 24 ≤ 140737488351232) : ∃ L, IsRow3 W a len L := by
  obtain ⟨fuel, hf⟩ := h
  rcases open_slice Try.underlying38 hf with ⟨hcs, _⟩ | ⟨x, l, c, m, n, D, Pl, hcs, _, hl, _, hmm, hx, hel⟩
  · simp [Value.cells] at hcs
    exact ⟨fun _ => 0, .inl hcs.2.1⟩
  · simp [Value.cells] at hcs
    obtain ⟨rfl, rfl, rfl⟩ := hcs
    simp only [if_true] at hmm
    by_cases hl0 : len = 0
    · exact ⟨fun _ => 0, .inl hl0⟩
    · obtain ⟨f, hF⟩ := choose_lt (α := Int × Int × Int) (n := m) (p := fun i z => W.cell? ((x.add (i * 3)).add 0) = some (.int .i64 z.1) ∧ W.cell? ((x.add (i * 3)).add 1) = some (.int .i64 z.2.1) ∧ W.cell? ((x.add (i * 3)).add 2) = some (.int .i64 z.2.2)) (fun i hi => by
        obtain ⟨cs', h1, h2⟩ := hel i hi
        have := nums3 h1 h2
        rwa [cells_v3] at this)
      simp only [add_add] at hF
      obtain ⟨b, off, spot⟩ := x
      have hspot : spot = none := by simpa [Addr.add] using World.cell?_spot (hF 0 (by omega)).1
      subst hspot
      simp only [Prod.mk.injEq] at hx
      obtain ⟨rfl, rfl⟩ := hx
      have hbW : b < W.heap.size := hlt (.cell b off) (List.mem_append_left _ (MemPlace.mem_row.2 ⟨0, by rw [cells_v3]; omega, by simp⟩))
      refine ⟨fun j => if j % 3 = 0 then (f (j / 3)).1 else if j % 3 = 1 then (f (j / 3)).2.1 else (f (j / 3)).2.2, .inr ⟨b, off, rfl, hbW, hm, fun j hj => ?_⟩⟩
      obtain ⟨f0, f1, f2⟩ := hF (j / 3) (by omega)
      rw [add_plain] at f0 f1 f2
      by_cases e0 : j % 3 = 0
      · rw [show off + j = off + (j / 3 * 3 + 0) by omega]
        simp only [if_pos e0]
        exact f0
      · by_cases e1 : j % 3 = 1
        · rw [show off + j = off + (j / 3 * 3 + 1) by omega]
          simp only [if_neg e0, if_pos e1]
          exact f1
        · rw [show off + j = off + (j / 3 * 3 + 2) by omega]
          simp only [if_neg e0, if_neg e1]
          exact f2

set_option maxRecDepth 100000 in
/-- what a law may be handed is never so long -/
theorem vecs_small {H : Type} {enc : TypeId × Value → H} {W : World} {base : Nat} {held : Bool} {a : Option Addr} {len cap : Nat} {d : DataW H} {p : List MemPlace}
    (h : DataW.Trod enc Try.prog W base (fun _ => true) held 38 (.slice a len cap) d p)
    (hs : ∀ es sp : List (DataW H), d = .slice es sp → (es.length + sp.length) * Try.prog.bytesOf 23 ≤ reachBytes) : len * 24 ≤ 140737488351232 := by
  obtain ⟨fuel, hf⟩ := h
  rcases open_slice Try.underlying38 hf with ⟨hcs, _⟩ | ⟨x, l, c, m, n, D, Pl, hcs, _, hl, _, hmm, hx, hel⟩
  · simp [Value.cells] at hcs
    omega
  · simp [Value.cells] at hcs
    obtain ⟨rfl, rfl, rfl⟩ := hcs
    simp only [Prod.mk.injEq] at hx
    obtain ⟨rfl, rfl⟩ := hx
    have := hs _ _ rfl
    rw [show Try.prog.bytesOf 23 = 24 by kernel_rfl] at this
    simp only [List.length_map, List.length_range, reachBytes] at this
    omega

end Go.Proofs.Ytcgafhpbcdmigaa.He
