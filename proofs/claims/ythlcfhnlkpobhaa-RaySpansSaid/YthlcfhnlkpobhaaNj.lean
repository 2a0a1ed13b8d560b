/- What came in: rays and hits, numbers all through. -/
import Derived.Test.YthlcfhnlkpobhaaNi
namespace Go.Proofs.Ythlcfhnlkpobhaa.Ni
open Go.ChangeShapes Go.WideShapes Go.RowKit Go.Deep Go.Proofs.Ythlcfhnlkpobhaa
set_option linter.unusedVariables false

section
variable {H : Type} {enc : TypeId × Value → H} {W : World} {base : Nat} {sp : Nat → Bool} {held : Bool}

theorem cz_ray : Try.prog.cellsOf 97 = 7 := by kernel_rfl

theorem ints_ray {n : Nat} {cs : List Value} {y : DataW H × List MemPlace} (h : DataW.trod enc Try.prog W base sp held n 97 cs = some y) : Ints 7 cs := by
  obtain ⟨xs, m, -, -, -, hlen, hf⟩ := DataW.trod_struct Try.underlying97 h
  match xs, hlen with
  | [y0, y1, y2], _ =>
    have h0 : DataW.trod enc Try.prog W base sp held m 59 ((cs.drop 0).take (Try.prog.cellsOf 59)) = some y0 := hf 0 _ rfl
    have h1 : DataW.trod enc Try.prog W base sp held m 59 ((cs.drop 3).take (Try.prog.cellsOf 59)) = some y1 := hf 1 _ rfl
    have h2 : DataW.trod enc Try.prog W base sp held m 2 ((cs.drop 6).take (Try.prog.cellsOf 2)) = some y2 := hf 2 _ rfl
    clear hf
    rw [cz_vec] at h0
    rw [cz_vec] at h1
    rw [cz_i64] at h2
    have g0 := ints_part (ints_vec h0)
    have g1 := ints_part (ints_vec h1)
    have g2 := ints_part (ints_int Try.underlying2 h2)
    intro j hj
    by_cases e0 : j < 3
    · obtain ⟨k, rfl⟩ : ∃ k, j = 0 + k := ⟨j - 0, by omega⟩
      exact g0 k (by omega)
    by_cases e1 : j < 6
    · obtain ⟨k, rfl⟩ : ∃ k, j = 3 + k := ⟨j - 3, by omega⟩
      exact g1 k (by omega)
    obtain ⟨k, rfl⟩ : ∃ k, j = 6 + k := ⟨j - 6, by omega⟩
    exact g2 k (by omega)

theorem cz_hit : Try.prog.cellsOf 99 = 8 := by kernel_rfl

theorem ints_hit {n : Nat} {cs : List Value} {y : DataW H × List MemPlace} (h : DataW.trod enc Try.prog W base sp held n 99 cs = some y) : Ints 8 cs := by
  obtain ⟨xs, m, -, -, -, hlen, hf⟩ := DataW.trod_struct Try.underlying99 h
  match xs, hlen with
  | [y0, y1, y2, y3], _ =>
    have h0 : DataW.trod enc Try.prog W base sp held m 2 ((cs.drop 0).take (Try.prog.cellsOf 2)) = some y0 := hf 0 _ rfl
    have h1 : DataW.trod enc Try.prog W base sp held m 3 ((cs.drop 1).take (Try.prog.cellsOf 3)) = some y1 := hf 1 _ rfl
    have h2 : DataW.trod enc Try.prog W base sp held m 59 ((cs.drop 2).take (Try.prog.cellsOf 59)) = some y2 := hf 2 _ rfl
    have h3 : DataW.trod enc Try.prog W base sp held m 59 ((cs.drop 5).take (Try.prog.cellsOf 59)) = some y3 := hf 3 _ rfl
    clear hf
    rw [cz_i64] at h0
    rw [cz_int] at h1
    rw [cz_vec] at h2
    rw [cz_vec] at h3
    have g0 := ints_part (ints_int Try.underlying2 h0)
    have g1 := ints_part (ints_int Try.underlying3 h1)
    have g2 := ints_part (ints_vec h2)
    have g3 := ints_part (ints_vec h3)
    intro j hj
    by_cases e0 : j < 1
    · obtain ⟨k, rfl⟩ : ∃ k, j = 0 + k := ⟨j - 0, by omega⟩
      exact g0 k (by omega)
    by_cases e1 : j < 2
    · obtain ⟨k, rfl⟩ : ∃ k, j = 1 + k := ⟨j - 1, by omega⟩
      exact g1 k (by omega)
    by_cases e2 : j < 5
    · obtain ⟨k, rfl⟩ : ∃ k, j = 2 + k := ⟨j - 2, by omega⟩
      exact g2 k (by omega)
    obtain ⟨k, rfl⟩ : ∃ k, j = 5 + k := ⟨j - 5, by omega⟩
    exact g3 k (by omega)

end

section
variable {H : Type} {enc : TypeId × Value → H} {W : World} {base : Nat} {sp : Nat → Bool} {held : Bool}

set_option maxRecDepth 100000 in
theorem open_ray {r : Reach} {b : Nat} {v : Value} {d : DataW H} {p : List MemPlace} (hv : Value.okWide Try.prog W r b 97 v) (h : DataW.Trod enc Try.prog W base sp held 97 v d p) : ∃ L : Nat → Int, v = .agg #[.int .i64 (L 0), .int .i64 (L 1), .int .i64 (L 2), .int .i64 (L 3), .int .i64 (L 4), .int .i64 (L 5), .int .i64 (L 6)] := by
  obtain ⟨L, hL⟩ := open_agg cz_ray (by
    obtain ⟨cs, h1, h2, -⟩ : ∃ cs, v = .agg cs ∧ cs.size = Try.prog.cellsOf 97 ∧ Row.okWide Try.prog W r b 97 cs := by simpa [Value.okWide, Try.underlying97] using hv
    exact ⟨cs, h1, h2⟩) (fun _ _ _ h => ints_ray h) h
  exact ⟨L, by rw [hL]; rfl⟩

set_option maxRecDepth 100000 in
theorem open_hit {r : Reach} {b : Nat} {v : Value} {d : DataW H} {p : List MemPlace} (hv : Value.okWide Try.prog W r b 99 v) (h : DataW.Trod enc Try.prog W base sp held 99 v d p) : ∃ L : Nat → Int, v = .agg #[.int .i64 (L 0), .int .i64 (L 1), .int .i64 (L 2), .int .i64 (L 3), .int .i64 (L 4), .int .i64 (L 5), .int .i64 (L 6), .int .i64 (L 7)] := by
  obtain ⟨L, hL⟩ := open_agg cz_hit (by
    obtain ⟨cs, h1, h2, -⟩ : ∃ cs, v = .agg cs ∧ cs.size = Try.prog.cellsOf 99 ∧ Row.okWide Try.prog W r b 99 cs := by simpa [Value.okWide, Try.underlying99] using hv
    exact ⟨cs, h1, h2⟩) (fun _ _ _ h => ints_hit h) h
  exact ⟨L, by rw [hL]; rfl⟩

end

end Go.Proofs.Ythlcfhnlkpobhaa.Ni
