/- What a matrix that came in is, as a value: twelve numbers. -/
import Derived.Test.YtohnjhnfhmfiiaaVp
import Derived.Test.YtohnjhnfhmfiiaaVm
namespace Go.Proofs.Ytohnjhnfhmfiiaa.Ve
open Go.ChangeShapes Go.WideShapes Go.RowKit

theorem trod_arr9 {H : Type} {enc : TypeId × Value → H} {P : Program} {w : World} {base : Nat} {spare : Nat → Bool} {held : Bool} {t e : TypeId} {fuel : Nat} {c0 c1 c2 c3 c4 c5 c6 c7 c8 : Value} {x : DataW H × List MemPlace} (ht : P.underlying t = some (.array 3 e)) (hce : P.cellsOf e = 3)
    (h : DataW.trod enc P w base spare held fuel t [c0, c1, c2, c3, c4, c5, c6, c7, c8] = some x) :
    ∃ y0 y1 y2 n, DataW.trod enc P w base spare held n e [c0, c1, c2] = some y0 ∧ DataW.trod enc P w base spare held n e [c3, c4, c5] = some y1 ∧ DataW.trod enc P w base spare held n e [c6, c7, c8] = some y2 := by
  cases fuel with
  | zero => simp [DataW.trod] at h
  | succ n =>
    unfold DataW.trod at h
    rw [ht] at h
    have r3 : List.range 3 = [0, 1, 2] := rfl
    simp [r3, hce] at h
    obtain ⟨_, h⟩ := h
    cases h0 : DataW.trod enc P w base spare held n e [c0, c1, c2] with
    | none => simp [h0] at h
    | some y0 =>
      cases h1 : DataW.trod enc P w base spare held n e [c3, c4, c5] with
      | none => simp [h0, h1] at h
      | some y1 =>
        cases h2 : DataW.trod enc P w base spare held n e [c6, c7, c8] with
        | none => simp [h0, h1, h2] at h
        | some y2 => exact ⟨y0, y1, y2, n, h0, h1, h2⟩

theorem nums_v3 {H : Type} {enc : TypeId × Value → H} {W : World} {base : Nat} {sp : Nat → Bool} {held : Bool} {n : Nat} {c0 c1 c2 : Value} {x : DataW H × List MemPlace}
    (h : DataW.trod enc Try.prog W base sp held n 23 [c0, c1, c2] = some x) : ∃ a b c, c0 = .int .i64 a ∧ c1 = .int .i64 b ∧ c2 = .int .i64 c := by
  obtain ⟨y0, y1, y2, m, hx, hy0, hy1, hy2⟩ := trod_array3 Try.underlying23 cells_i64 h
  obtain ⟨x0, e0, rfl, w0⟩ := DataW.trod_int Try.underlying2 hy0
  obtain ⟨x1, e1, rfl, w1⟩ := DataW.trod_int Try.underlying2 hy1
  obtain ⟨x2, e2, rfl, w2⟩ := DataW.trod_int Try.underlying2 hy2
  simp at e0 e1 e2
  exact ⟨x0, x1, x2, e0, e1, e2⟩

theorem cells_mat : Try.prog.cellsOf 26 = 12 := by kernel_rfl

/-- twelve numbers by their place -/
def f12 (a b c d e f g h i j k l : Int) (n : Nat) : Int := [a, b, c, d, e, f, g, h, i, j, k, l].getD n 0

theorem nums_mat {H : Type} {enc : TypeId × Value → H} {W : World} {base : Nat} {sp : Nat → Bool} {held : Bool} {n : Nat} {cs : List Value} {x : DataW H × List MemPlace} (hl : cs.length = 12)
    (h : DataW.trod enc Try.prog W base sp held n 26 cs = some x) : ∃ m : Nat → Int, cs = (List.range 12).map fun j => .int .i64 (m j) := by
  match cs, hl with
  | [c0, c1, c2, c3, c4, c5, c6, c7, c8, c9, c10, c11], _ =>
    obtain ⟨y0, y1, k, -, -, h0, h1⟩ := trod_struct2 Try.underlying26 h
    rw [show Try.prog.cellsOf 24 = 9 by kernel_rfl] at h0
    rw [cells_v3] at h1
    simp only [List.drop, List.take] at h0 h1
    obtain ⟨z0, z1, z2, k2, g0, g1, g2⟩ := trod_arr9 Try.underlying24 cells_v3 h0
    obtain ⟨a0, a1, a2, rfl, rfl, rfl⟩ := nums_v3 g0
    obtain ⟨b0, b1, b2, rfl, rfl, rfl⟩ := nums_v3 g1
    obtain ⟨d0, d1, d2, rfl, rfl, rfl⟩ := nums_v3 g2
    obtain ⟨e0, e1, e2, rfl, rfl, rfl⟩ := nums_v3 h1
    exact ⟨f12 a0 a1 a2 b0 b1 b2 d0 d1 d2 e0 e1 e2, rfl⟩

set_option maxRecDepth 100000 in
theorem open_m12 {H : Type} {enc : TypeId × Value → H} {W : World} {r : Reach} {b base : Nat} {sp : Nat → Bool} {held : Bool} {v : Value} {d : DataW H} {p : List MemPlace}
    (hv : Value.okWide Try.prog W r b 26 v) (h : DataW.Trod enc Try.prog W base sp held 26 v d p) : ∃ m, v = MV m := by
  obtain ⟨cs, rfl, hsz, _⟩ : ∃ cs, v = .agg cs ∧ cs.size = Try.prog.cellsOf 26 ∧ Row.okWide Try.prog W r b 26 cs := by
    simpa [Value.okWide, Try.underlying26] using hv
  rw [cells_mat] at hsz
  obtain ⟨l⟩ := cs
  obtain ⟨fuel, hf⟩ := h
  obtain ⟨m, hm⟩ := nums_mat (cs := l) (by simpa using hsz) (by simpa [Value.cells] using hf)
  exact ⟨m, by rw [hm]; rfl⟩

end Go.Proofs.Ytohnjhnfhmfiiaa.Ve
