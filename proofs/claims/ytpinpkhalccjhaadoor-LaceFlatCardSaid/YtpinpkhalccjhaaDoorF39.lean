/- What a point that came in is, as a value: three numbers. -/
import Derived.Test.YtpinpkhalccjhaaDoorChecked
import Derived.ProofKit
import Derived.Laws.IdiomArrays
namespace Go.Proofs.YtpinpkhalccjhaaDoor.He
open Go.ChangeShapes Go.WideShapes Go.RowKit

theorem cells_v3 : Tryd.prog.cellsOf 31 = 3 := by kernel_rfl

theorem cells_i64 : Tryd.prog.cellsOf 2 = 1 := by kernel_rfl

set_option maxRecDepth 100000 in
theorem open_v3 {H : Type} {enc : TypeId × Value → H} {W : World} {r : Reach} {b base : Nat} {sp : Nat → Bool} {held : Bool} {v : Value} {d : DataW H} {p : List MemPlace}
    (hv : Value.okWide Tryd.prog W r b 31 v) (h : DataW.Trod enc Tryd.prog W base sp held 31 v d p) : ∃ x y z, v = .agg #[.int .i64 x, .int .i64 y, .int .i64 z] := by
  obtain ⟨cs, rfl, hsz, _⟩ : ∃ cs, v = .agg cs ∧ cs.size = Tryd.prog.cellsOf 31 ∧ Row.okWide Tryd.prog W r b 31 cs := by
    simpa [Value.okWide, Tryd.underlying31] using hv
  rw [cells_v3] at hsz
  obtain ⟨l⟩ := cs
  match l, hsz with
  | [c0, c1, c2], _ =>
    obtain ⟨fuel, hf⟩ := h
    obtain ⟨y0, y1, y2, m, hx, hy0, hy1, hy2⟩ := trod_array3 Tryd.underlying31 cells_i64 hf
    obtain ⟨x0, e0, rfl, w0⟩ := DataW.trod_int Tryd.underlying2 hy0
    obtain ⟨x1, e1, rfl, w1⟩ := DataW.trod_int Tryd.underlying2 hy1
    obtain ⟨x2, e2, rfl, w2⟩ := DataW.trod_int Tryd.underlying2 hy2
    simp at e0 e1 e2
    subst e0 e1 e2
    exact ⟨x0, x1, x2, rfl⟩

end Go.Proofs.YtpinpkhalccjhaaDoor.He
