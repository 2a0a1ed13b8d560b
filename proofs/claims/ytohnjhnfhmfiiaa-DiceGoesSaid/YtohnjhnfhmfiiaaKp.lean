/- What a key that came in is, as a value: four numbers. -/
import Derived.Test.YtohnjhnfhmfiiaaChecked
import Derived.ProofKit
import Derived.Lib.SmallJoins
namespace Go.Proofs.Ytohnjhnfhmfiiaa.Di
open Go.ChangeShapes Go.WideShapes Go.RowKit

set_option maxRecDepth 100000 in
theorem open_k4 {H : Type} {enc : TypeId × Value → H} {W : World} {r : Reach} {b base : Nat} {sp : Nat → Bool} {held : Bool} {v : Value} {d : DataW H} {p : List MemPlace}
    (hv : Value.okWide Try.prog W r b 74 v) (h : DataW.Trod enc Try.prog W base sp held 74 v d p) : ∃ s f p m, v = .agg #[.int .u64 s, .int .i64 f, .int .i64 p, .int .i64 m] := by
  obtain ⟨c0, c1, c2, c3, y0, y1, y2, y3, n, rfl, -, -, h0, h1, h2, h3⟩ := Joins.open_agg4 Try.underlying74 (by kernel_rfl) (by kernel_rfl) hv h
  obtain ⟨x0, e0, rfl, -⟩ := DataW.trod_int Try.underlying69 h0
  obtain ⟨x1, e1, rfl, -⟩ := DataW.trod_int Try.underlying3 h1
  obtain ⟨x2, e2, rfl, -⟩ := DataW.trod_int Try.underlying3 h2
  obtain ⟨x3, e3, rfl, -⟩ := DataW.trod_int Try.underlying3 h3
  simp at e0 e1 e2 e3
  subst e0 e1 e2 e3
  exact ⟨x0, x1, x2, x3, rfl⟩
end Go.Proofs.Ytohnjhnfhmfiiaa.Di
