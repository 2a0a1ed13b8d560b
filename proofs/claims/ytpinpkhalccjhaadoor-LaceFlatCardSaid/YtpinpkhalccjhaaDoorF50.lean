/- From what the rows list of the table of counts to what the contracts ask. -/
import Derived.Test.YtpinpkhalccjhaaDoorRows
import Derived.Test.YtpinpkhalccjhaaDoorF43
import Derived.Lib.LaidTab
import Derived.MakeChecks
namespace Go.Proofs.YtpinpkhalccjhaaDoor.Fm
open Go Go.RowKit Go.Proofs.YtpinpkhalccjhaaDoor

theorem cnt_of {W : World} {zs : List Int} (hz : zs = [1, 4, 6, 4, 1]) (h : Lib.TabIs Tryd.prog W "zoetrope/lace.counts" .i64 zs) : Cnt W := by
  subst hz
  have hg : Tryd.prog.globalNamed "zoetrope/lace.counts" = some 1 := by kernel_rfl
  exact ⟨h.cell hg 0 (by decide), h.cell hg 1 (by decide), h.cell hg 2 (by decide), h.cell hg 3 (by decide), h.cell hg 4 (by decide)⟩

theorem cnt_flat {W : World} (hL : laidMetH Tryd.prog Rows.laceFlatRow.laid W) : Cnt W := by
  rw [Go.MakeChecks.laidMetH_plain Tryd.prog _ W (by decide)] at hL
  exact cnt_of rfl (Lib.tabIs_of_head (g := 1) (by kernel_rfl) (by kernel_rfl) Tryd.underlying175 Tryd.underlying3 (by kernel_rfl) (by kernel_rfl) hL)
end Go.Proofs.YtpinpkhalccjhaaDoor.Fm
