/- Two matrices that are alike, as values: they are equal. -/
import Derived.Test.YtohnjhnfhmfiiaaVm
import Derived.ChangeKeysEq
namespace Go.Proofs.Ytohnjhnfhmfiiaa.Ve
open Go.RowKit Go.Proofs.Ytohnjhnfhmfiiaa Go.Proofs.Ytohnjhnfhmfiiaa.Wa

theorem infoV3 : (Try.prog.info? 23).map (fun i => (i.zero, i.size, i.bytes)) = some (some (.agg #[.int .i64 0, .int .i64 0, .int .i64 0]), 3, 24) := by kernel_rfl

theorem infoA9 : (Try.prog.info? 24).map (fun i => (i.zero, i.size, i.bytes)) = some (some (.agg #[.int .i64 0, .int .i64 0, .int .i64 0, .int .i64 0, .int .i64 0, .int .i64 0, .int .i64 0, .int .i64 0, .int .i64 0]), 9, 72) := by kernel_rfl

theorem cellsVec : Try.prog.cellsOf 23 = 3 := by kernel_rfl

theorem eq_v3d (d : Nat) (x y z : Int) (W : World) : (Op.equalIn (d + 2) 23 (V3 x y z) (V3 x y z)).run Try.prog W = .ok true W := by
  obtain ⟨i0, hi, hz0, hz1, hz2⟩ := info_parts infoInt
  rw [run_equalIn_array W (d + 1) _ _ Try.underlying23 hi, cellsInt]
  simp only [show List.range 3 = [0, 1, 2] from rfl, Op.eqItems, Sem.run_bind]
  simp [go_sem]

theorem eq_arr (d : Nat) (a b c e f g h i j : Int) (W : World) : (Op.equalIn (d + 3) 24 (.agg #[.int .i64 a, .int .i64 b, .int .i64 c, .int .i64 e, .int .i64 f, .int .i64 g, .int .i64 h, .int .i64 i, .int .i64 j]) (.agg #[.int .i64 a, .int .i64 b, .int .i64 c, .int .i64 e, .int .i64 f, .int .i64 g, .int .i64 h, .int .i64 i, .int .i64 j])).run Try.prog W = .ok true W := by
  obtain ⟨i0, hi, hz0, hz1, hz2⟩ := info_parts infoV3
  rw [run_equalIn_array W (d + 2) _ _ Try.underlying24 hi, cellsVec]
  simp only [show List.range 3 = [0, 1, 2] from rfl, Op.eqItems, Sem.run_bind]
  simp [go_sem, eq_v3d]

theorem eq_m12 (m : Nat → Int) (W : World) : (Op.equalIn 10000 26 (MV m) (MV m)).run Try.prog W = .ok true W := by
  rw [run_equalIn_struct W 9999 26 _ _ (by kernel_rfl) (by kernel_rfl)]
  have ha := fun (a b c e f g h i j : Int) (W : World) => eq_arr 9996 a b c e f g h i j W
  have hv := fun (x y z : Int) (W : World) => eq_v3d 9997 x y z W
  obtain ⟨i0, hi, hz0, hz1, hz2⟩ := info_parts infoV3
  obtain ⟨j0, hj, hy0, hy1, hy2⟩ := info_parts infoA9
  simp only [Program.fieldsOf, Try.underlying26, Op.eqFields]
  simp [go_sem, ha, hv]
end Go.Proofs.Ytohnjhnfhmfiiaa.Ve
