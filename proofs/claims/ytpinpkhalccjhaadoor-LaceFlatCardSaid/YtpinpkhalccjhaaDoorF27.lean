/- Films, sheets: from the program's to the document's: a sheet. -/
import Derived.Test.YtpinpkhalccjhaaDoorF25
import Derived.Test.YtpinpkhalccjhaaDoorF12
import Derived.Laws.StructEq
import Derived.Deep.MidRow
import Derived.StillTailTactics
import Derived.BigQuiet
import Derived.Deep.DeepCutAuto
import Derived.Deep.RegionHeld3
namespace Go.Proofs.YtpinpkhalccjhaaDoor.Fm
open Go.RowKit Go.Proofs.YtpinpkhalccjhaaDoor Go.Proofs.YtpinpkhalccjhaaDoor.Rp Go.Proofs.YtpinpkhalccjhaaDoor.Re Go.Proofs.YtpinpkhalccjhaaDoor.Au Go.Proofs.YtpinpkhalccjhaaDoor.Jw
set_option linter.unusedVariables false
set_option linter.unusedSimpArgs false

end Go.Proofs.YtpinpkhalccjhaaDoor.Fm

/- Films, sheets that hold the same: the document's SameSheet, Same. -/
namespace Go.Proofs.YtpinpkhalccjhaaDoor.Fm
open Go Go.RowKit Go.Proofs.YtpinpkhalccjhaaDoor Go.Proofs.YtpinpkhalccjhaaDoor.Rp Go.Proofs.YtpinpkhalccjhaaDoor.Re Go.Proofs.YtpinpkhalccjhaaDoor.Au
set_option linter.unusedVariables false
set_option linter.unusedSimpArgs false

theorem bel_draws {B : Nat} {w wr : World} (h : Below B w wr) (k : Nat) : Below B w (wr.drewN k) := ⟨h.os, h.tape, h.output, h.size, h.block⟩

theorem eq_v3a (x y z : Int) (W : World) : (Op.equalIn 10000 107 (.agg #[.int .i64 x, .int .i64 y, .int .i64 z]) (.agg #[.int .i64 x, .int .i64 y, .int .i64 z])).run Tryd.prog W = .ok true W := by
  obtain ⟨i0, hi, hz0, hz1, hz2⟩ := info_parts Ve.infoInt
  rw [run_equalIn_array W 9999 _ _ Tryd.underlying107 hi, Ve.cellsInt]
  simp only [show List.range 3 = [0, 1, 2] from rfl, Op.eqItems, Sem.run_bind]
  simp [go_sem]

theorem eq_h3a (x y z : Int) (W : World) : (Op.equalIn 10000 31 (.agg #[.int .i64 x, .int .i64 y, .int .i64 z]) (.agg #[.int .i64 x, .int .i64 y, .int .i64 z])).run Tryd.prog W = .ok true W := by
  obtain ⟨i0, hi, hz0, hz1, hz2⟩ := info_parts Ve.infoInt
  rw [run_equalIn_array W 9999 _ _ Tryd.underlying31 hi, Ve.cellsInt]
  simp only [show List.range 3 = [0, 1, 2] from rfl, Op.eqItems, Sem.run_bind]
  simp [go_sem]

end Go.Proofs.YtpinpkhalccjhaaDoor.Fm
