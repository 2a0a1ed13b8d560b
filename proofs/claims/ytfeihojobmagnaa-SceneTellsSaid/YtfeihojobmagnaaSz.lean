/- Two scenes that hold the same: the document's Same of tracks and of scenes. -/
import Derived.Test.YtfeihojobmagnaaSk
import Derived.Test.YtfeihojobmagnaaVg
import Derived.Laws.StructEq
import Derived.Deep.MidRow
import Derived.StillTailTactics
import Derived.BigQuiet
import Derived.Deep.DeepCutAuto
import Derived.Deep.RegionHeld3
namespace Go.Proofs.Ytfeihojobmagnaa.Sc
open Go.RowKit Go.Proofs.Ytfeihojobmagnaa Go.Proofs.Ytfeihojobmagnaa.Wa Go.Proofs.Ytfeihojobmagnaa.Ve Go.Proofs.Ytfeihojobmagnaa.Tk Go.Proofs.Ytfeihojobmagnaa.Ls
set_option linter.unusedVariables false

theorem blw_draws {B : Nat} {w wr : World} (h : Below B w wr) (k : Nat) : Below B w (wr.drewN k) := ⟨h.os, h.tape, h.output, h.size, h.block⟩

theorem eq_v3d (d : Nat) (x y z : Int) (W : World) : (Op.equalIn (d + 2) 60 (.agg #[.int .i64 x, .int .i64 y, .int .i64 z]) (.agg #[.int .i64 x, .int .i64 y, .int .i64 z])).run Try.prog W = .ok true W := by
  obtain ⟨i0, hi, hz0, hz1, hz2⟩ := info_parts infoInt
  rw [run_equalIn_array W (d + 1) _ _ Try.underlying60 hi, cellsInt]
  simp only [show List.range 3 = [0, 1, 2] from rfl, Op.eqItems, Sem.run_bind]
  simp [go_sem]

theorem eq_h3d (d : Nat) (x y z : Int) (W : World) : (Op.equalIn (d + 2) 24 (.agg #[.int .i64 x, .int .i64 y, .int .i64 z]) (.agg #[.int .i64 x, .int .i64 y, .int .i64 z])).run Try.prog W = .ok true W := by
  obtain ⟨i0, hi, hz0, hz1, hz2⟩ := info_parts infoInt
  rw [run_equalIn_array W (d + 1) _ _ Try.underlying24 hi, cellsInt]
  simp only [show List.range 3 = [0, 1, 2] from rfl, Op.eqItems, Sem.run_bind]
  simp [go_sem]

theorem eq_key (x0 x1 x2 x3 : Int) (W : World) : (Op.equalIn 10000 229 (.agg #[.int .i64 x0, .int .i64 x1, .int .i64 x2, .int .i64 x3]) (.agg #[.int .i64 x0, .int .i64 x1, .int .i64 x2, .int .i64 x3])).run Try.prog W = .ok true W := by
  have hv := eq_v3d 9997 x1 x2 x3
  rw [run_equalIn_struct W 9999 229 _ _ (by kernel_rfl) (by kernel_rfl)]
  simp only [Program.fieldsOf, Try.underlying229, Op.eqFields]
  simp [go_sem, hv]


theorem infoVec3 : (Try.prog.info? 60).map (fun i => (i.zero, i.size, i.bytes)) = some (some (.agg #[.int .i64 0, .int .i64 0, .int .i64 0]), 3, 24) := by kernel_rfl

theorem eq_paint (a b c d e : Int) (W : World) : (Op.equalIn 10000 143 (.agg #[.int .i64 a, .int .i64 b, .int .i64 c, .int .i64 d, .int .i64 e]) (.agg #[.int .i64 a, .int .i64 b, .int .i64 c, .int .i64 d, .int .i64 e])).run Try.prog W = .ok true W := by
  have hv := eq_h3d 9997 b c d
  rw [run_equalIn_struct W 9999 143 _ _ (by kernel_rfl) (by kernel_rfl)]
  simp only [Program.fieldsOf, Try.underlying143, Op.eqFields]
  simp [go_sem, hv]

theorem eq_joint (a b c d : Int) (W : World) : (Op.equalIn 10000 148 (.agg #[.int .i64 a, .int .i64 b, .int .i64 c, .int .i64 d]) (.agg #[.int .i64 a, .int .i64 b, .int .i64 c, .int .i64 d])).run Try.prog W = .ok true W := by
  have hv : True := trivial
  rw [run_equalIn_struct W 9999 148 _ _ (by kernel_rfl) (by kernel_rfl)]
  simp only [Program.fieldsOf, Try.underlying148, Op.eqFields]
  simp [go_sem]

theorem eq_head (a b c d e f g h i j : Int) (W : World) : (Op.equalIn 10000 26 (.agg #[.int .i64 a, .int .i64 b, .int .i64 c, .int .i64 d, .int .i64 e, .int .i64 f, .int .u64 g, .int .i64 h, .int .i64 i, .int .i64 j]) (.agg #[.int .i64 a, .int .i64 b, .int .i64 c, .int .i64 d, .int .i64 e, .int .i64 f, .int .u64 g, .int .i64 h, .int .i64 i, .int .i64 j])).run Try.prog W = .ok true W := by
  have hv := eq_h3d 9997 h i j
  rw [run_equalIn_struct W 9999 26 _ _ (by kernel_rfl) (by kernel_rfl)]
  simp only [Program.fieldsOf, Try.underlying26, Op.eqFields]
  simp [go_sem, hv]

theorem eq_p3d (d : Nat) (x0 x1 x2 x3 x4 x5 x6 x7 x8 : Int) (W : World) : (Op.equalIn (d + 3) 61 (.agg #[.int .i64 x0, .int .i64 x1, .int .i64 x2, .int .i64 x3, .int .i64 x4, .int .i64 x5, .int .i64 x6, .int .i64 x7, .int .i64 x8]) (.agg #[.int .i64 x0, .int .i64 x1, .int .i64 x2, .int .i64 x3, .int .i64 x4, .int .i64 x5, .int .i64 x6, .int .i64 x7, .int .i64 x8])).run Try.prog W = .ok true W := by
  obtain ⟨i0, hi, hz0, hz1, hz2⟩ := info_parts infoVec3
  rw [run_equalIn_array W (d + 2) _ _ Try.underlying61 hi, show Try.prog.cellsOf 60 = 3 by kernel_rfl]
  simp only [show List.range 3 = [0, 1, 2] from rfl, Op.eqItems, Sem.run_bind]
  simp [go_sem, eq_v3d d]

theorem eq_shape (a b c x0 x1 x2 x3 x4 x5 x6 x7 x8 e : Int) (W : World) : (Op.equalIn 10000 63 (.agg #[.int .i64 a, .int .i64 b, .int .i64 c, .int .i64 x0, .int .i64 x1, .int .i64 x2, .int .i64 x3, .int .i64 x4, .int .i64 x5, .int .i64 x6, .int .i64 x7, .int .i64 x8, .int .i64 e]) (.agg #[.int .i64 a, .int .i64 b, .int .i64 c, .int .i64 x0, .int .i64 x1, .int .i64 x2, .int .i64 x3, .int .i64 x4, .int .i64 x5, .int .i64 x6, .int .i64 x7, .int .i64 x8, .int .i64 e])).run Try.prog W = .ok true W := by
  have hv := eq_p3d 9996 x0 x1 x2 x3 x4 x5 x6 x7 x8
  rw [run_equalIn_struct W 9999 63 _ _ (by kernel_rfl) (by kernel_rfl)]
  simp only [Program.fieldsOf, Try.underlying63, Op.eqFields]
  simp [go_sem, hv]

end Go.Proofs.Ytfeihojobmagnaa.Sc
