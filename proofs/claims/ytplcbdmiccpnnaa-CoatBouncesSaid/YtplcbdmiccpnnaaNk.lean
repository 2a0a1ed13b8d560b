/- What came in: paints, numbers all through. -/
import Derived.Test.YtplcbdmiccpnnaaNi
namespace Go.Proofs.Ytplcbdmiccpnnaa.Ni
open Go.ChangeShapes Go.WideShapes Go.RowKit Go.Deep Go.Proofs.Ytplcbdmiccpnnaa
set_option linter.unusedVariables false

section
variable {H : Type} {enc : TypeId × Value → H} {W : World} {base : Nat} {sp : Nat → Bool} {held : Bool}

theorem ints_hue {n : Nat} {cs : List Value} {y : DataW H × List MemPlace} (h : DataW.trod enc Try.prog W base sp held n 57 cs = some y) : Ints 3 cs :=
  ints_arr (c := 1) Try.underlying57 cz_i64 (by omega) (fun _ _ _ h => ints_int Try.underlying2 h) h

theorem cz_hue : Try.prog.cellsOf 57 = 3 := by kernel_rfl

theorem cz_paint : Try.prog.cellsOf 59 = 5 := by kernel_rfl

theorem ints_paint {n : Nat} {cs : List Value} {y : DataW H × List MemPlace} (h : DataW.trod enc Try.prog W base sp held n 59 cs = some y) : Ints 5 cs := by
  obtain ⟨xs, m, -, -, -, hlen, hf⟩ := DataW.trod_struct Try.underlying59 h
  match xs, hlen with
  | [y0, y1, y2], _ =>
    have h0 : DataW.trod enc Try.prog W base sp held m 3 ((cs.drop 0).take (Try.prog.cellsOf 3)) = some y0 := hf 0 _ rfl
    have h1 : DataW.trod enc Try.prog W base sp held m 57 ((cs.drop 1).take (Try.prog.cellsOf 57)) = some y1 := hf 1 _ rfl
    have h2 : DataW.trod enc Try.prog W base sp held m 2 ((cs.drop 4).take (Try.prog.cellsOf 2)) = some y2 := hf 2 _ rfl
    clear hf
    rw [cz_int] at h0
    rw [cz_hue] at h1
    rw [cz_i64] at h2
    have g0 := ints_part (ints_int Try.underlying3 h0)
    have g1 := ints_part (ints_hue h1)
    have g2 := ints_part (ints_int Try.underlying2 h2)
    intro j hj
    by_cases e0 : j < 1
    · obtain ⟨k, rfl⟩ : ∃ k, j = 0 + k := ⟨j - 0, by omega⟩
      exact g0 k (by omega)
    by_cases e1 : j < 4
    · obtain ⟨k, rfl⟩ : ∃ k, j = 1 + k := ⟨j - 1, by omega⟩
      exact g1 k (by omega)
    obtain ⟨k, rfl⟩ : ∃ k, j = 4 + k := ⟨j - 4, by omega⟩
    exact g2 k (by omega)

end

section
variable {H : Type} {enc : TypeId × Value → H} {W : World} {base : Nat} {sp : Nat → Bool} {held : Bool}

set_option maxRecDepth 100000 in
theorem open_paint {r : Reach} {b : Nat} {v : Value} {d : DataW H} {p : List MemPlace} (hv : Value.okWide Try.prog W r b 59 v) (h : DataW.Trod enc Try.prog W base sp held 59 v d p) : ∃ L : Nat → Int, v = .agg #[.int .i64 (L 0), .int .i64 (L 1), .int .i64 (L 2), .int .i64 (L 3), .int .i64 (L 4)] := by
  obtain ⟨L, hL⟩ := open_agg cz_paint (by
    obtain ⟨cs, h1, h2, -⟩ : ∃ cs, v = .agg cs ∧ cs.size = Try.prog.cellsOf 59 ∧ Row.okWide Try.prog W r b 59 cs := by simpa [Value.okWide, Try.underlying59] using hv
    exact ⟨cs, h1, h2⟩) (fun _ _ _ h => ints_paint h) h
  exact ⟨L, by rw [hL]; rfl⟩


end

end Go.Proofs.Ytplcbdmiccpnnaa.Ni
