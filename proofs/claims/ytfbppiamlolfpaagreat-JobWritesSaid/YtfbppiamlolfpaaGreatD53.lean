/- What a track that came in is: a way, and a slice of keys whose numbers stand in one block. -/
import Derived.Test.YtfbppiamlolfpaaGreatD12
import Derived.Test.YtfbppiamlolfpaaGreatD52
import Derived.Deep.Slices
import Derived.WideShapes
import Derived.Handed
import Derived.SizedLaws
import Derived.ChangeSame
namespace Go.Proofs.YtfbppiamlolfpaaGreat.Tk
open Go.ChangeShapes Go.WideShapes Go.RowKit Go.Deep Go.Proofs.YtfbppiamlolfpaaGreat

theorem cells_key : Tryz.prog.cellsOf 103 = 4 := by kernel_rfl

theorem cells_track : Tryz.prog.cellsOf 65 = 2 := by kernel_rfl

theorem cells_keys : Tryz.prog.cellsOf 63 = 1 := by kernel_rfl

theorem cells_vec3 : Tryz.prog.cellsOf 87 = 3 := by kernel_rfl

theorem cells_i64' : Tryz.prog.cellsOf 2 = 1 := by kernel_rfl

theorem cells_int' : Tryz.prog.cellsOf 3 = 1 := by kernel_rfl

/-- the four numbers of a key that is read -/
theorem nums4 {H : Type} {enc : TypeId × Value → H} {W : World} {base : Nat} {sp : Nat → Bool} {held : Bool} {n : Nat} {cs : List Value} {a : Addr} {x : DataW H × List MemPlace}
    (h1 : W.cells? base a (Tryz.prog.cellsOf 103) = some cs) (h2 : DataW.trod enc Tryz.prog W base sp held n 103 cs = some x) :
    ∃ z : Int × Int × Int × Int, W.cell? (a.add 0) = some (.int .i64 z.1) ∧ W.cell? (a.add 1) = some (.int .i64 z.2.1) ∧ W.cell? (a.add 2) = some (.int .i64 z.2.2.1) ∧ W.cell? (a.add 3) = some (.int .i64 z.2.2.2) := by
  obtain ⟨_, hlen, hc⟩ := World.cells?_some h1
  rw [cells_key] at hlen hc
  match cs, hlen with
  | [c0, c1, c2, c3], _ =>
    obtain ⟨y0, y1, m, -, -, h0, h3⟩ := trod_struct2 Tryz.underlying103 h2
    rw [cells_i64'] at h0
    rw [cells_vec3] at h3
    simp only [List.drop, List.take] at h0 h3
    obtain ⟨x0, e0, rfl, w0⟩ := DataW.trod_int Tryz.underlying2 h0
    obtain ⟨y0, y1, y2, m, hx, hy0, hy1, hy2⟩ := trod_array3 Tryz.underlying87 cells_i64' h3
    obtain ⟨x1, e1, rfl, w1⟩ := DataW.trod_int Tryz.underlying2 hy0
    obtain ⟨x2, e2, rfl, w2⟩ := DataW.trod_int Tryz.underlying2 hy1
    obtain ⟨x3, e3, rfl, w3⟩ := DataW.trod_int Tryz.underlying2 hy2
    simp at e0 e1 e2 e3
    subst e0 e1 e2 e3
    exact ⟨(x0, x1, x2, x3), hc 0 (by omega), hc 1 (by omega), hc 2 (by omega), hc 3 (by omega)⟩

set_option maxRecDepth 100000 in
theorem open_track {H : Type} {enc : TypeId × Value → H} {W : World} {r : Reach} {bb base : Nat} {v : Value} {d : DataW H} {p : List MemPlace} {held : Bool}
    (hv : Value.okWide Tryz.prog W r bb 65 v) (h : DataW.Trod enc Tryz.prog W base (fun _ => true) held 65 v d p) (hlt : ∀ x ∈ p, x.block < W.heap.size)
    (hs : ∀ n ∈ d.weights Tryz.prog 65, n ≤ reachBytes) : ∃ way a len cap L, v = .agg #[.int .i64 way, .slice a len cap] ∧ KeysAt W a len L := by
  obtain ⟨cs, rfl, hsz, _⟩ : ∃ cs, v = .agg cs ∧ cs.size = Tryz.prog.cellsOf 65 ∧ Row.okWide Tryz.prog W r bb 65 cs := by
    simpa [Value.okWide, Tryz.underlying65] using hv
  rw [cells_track] at hsz
  obtain ⟨l⟩ := cs
  match l, hsz with
  | [c0, c1], _ =>
    obtain ⟨fuel, hf⟩ := h
    obtain ⟨y0, y1, m, hx, -, h0, h1⟩ := trod_struct2 Tryz.underlying65 hf
    rw [cells_int'] at h0
    rw [cells_keys] at h1
    simp only [Value.cells, List.drop, List.take] at h0 h1
    obtain ⟨x0, e0, rfl, w0⟩ := DataW.trod_int Tryz.underlying3 h0
    simp at e0
    subst e0
    simp only [Prod.mk.injEq] at hx
    obtain ⟨rfl, rfl⟩ := hx
    rcases open_slice Tryz.underlying63 h1 with ⟨hcs, _⟩ | ⟨x, len, c, n, n2, D, Pl, hcs, _, hl, _, hmm, hx, hel⟩
    · simp at hcs
      subst hcs
      exact ⟨_, _, _, _, fun _ => 0, rfl, by omega, .inl rfl⟩
    · simp at hcs
      subst hcs
      subst hx
      simp only [if_true] at hmm
      have hw := hs ((((List.range len).map D).length + ((List.range (n - len)).map fun j => D (len + j)).length) * Tryz.prog.bytesOf 103) (by
        simp [DataW.weights, DataW.weightsEach, Tryz.underlying65, Tryz.underlying63])
      rw [show Tryz.prog.bytesOf 103 = 32 by kernel_rfl] at hw
      simp only [List.length_map, List.length_range, reachBytes] at hw
      by_cases hl0 : len = 0
      · exact ⟨_, _, _, _, fun _ => 0, rfl, by omega, .inl hl0⟩
      · obtain ⟨f, hF⟩ := choose_lt (α := Int × Int × Int × Int) (n := n) (p := fun i z => W.cell? ((x.add (i * 4)).add 0) = some (.int .i64 z.1) ∧ W.cell? ((x.add (i * 4)).add 1) = some (.int .i64 z.2.1) ∧ W.cell? ((x.add (i * 4)).add 2) = some (.int .i64 z.2.2.1) ∧ W.cell? ((x.add (i * 4)).add 3) = some (.int .i64 z.2.2.2)) (fun i hi => by
          obtain ⟨cs', g1, g2⟩ := hel i hi
          have := nums4 g1 g2
          rwa [cells_key] at this)
        simp only [add_add] at hF
        obtain ⟨b, off, spot⟩ := x
        have hspot : spot = none := by simpa [Addr.add] using World.cell?_spot (hF 0 (by omega)).1
        subst hspot
        have hbW : b < W.heap.size := hlt (.cell b off) (by exact List.mem_append_right _ (List.mem_append_left _ (MemPlace.mem_row.2 ⟨0, by rw [cells_key]; omega, by simp⟩)))
        refine ⟨_, _, _, _, fun j => if j % 4 = 0 then (f (j / 4)).1 else if j % 4 = 1 then (f (j / 4)).2.1 else if j % 4 = 2 then (f (j / 4)).2.2.1 else (f (j / 4)).2.2.2, rfl, by omega, .inr ⟨b, off, rfl, hbW, fun j hj => ?_⟩⟩
        obtain ⟨f0, f1, f2, f3⟩ := hF (j / 4) (by omega)
        rw [add_plain] at f0 f1 f2 f3
        by_cases e0 : j % 4 = 0
        · rw [show off + j = off + (j / 4 * 4 + 0) by omega]; simp only [if_pos e0]; exact f0
        · by_cases e1 : j % 4 = 1
          · rw [show off + j = off + (j / 4 * 4 + 1) by omega]; simp only [if_neg e0, if_pos e1]; exact f1
          · by_cases e2 : j % 4 = 2
            · rw [show off + j = off + (j / 4 * 4 + 2) by omega]; simp only [if_neg e0, if_neg e1, if_pos e2]; exact f2
            · rw [show off + j = off + (j / 4 * 4 + 3) by omega]; simp only [if_neg e0, if_neg e1, if_neg e2]; exact f3
end Go.Proofs.YtfbppiamlolfpaaGreat.Tk
