/- PlateFiles (zoetropelaw21): its walk. -/
import Derived.Test.YtcohehekkeeeoaaDoorPgw
namespace Go.Proofs.YtcohehekkeeeoaaDoor.plateFilesW
open Go Go.RowKit Go.Proofs.YtcohehekkeeeoaaDoor Go.Proofs.YtcohehekkeeeoaaDoor.Pg
set_option linter.unusedVariables false
set_option linter.unusedSimpArgs false

set_option maxHeartbeats 2000000 in
set_option maxRecDepth 100000 in
theorem big (x y : Int) (a : Option Addr) (n c : Nat) (v : Value) (w : World) (hn : ¬ n ≤ 5000) : Calls Tryd.prog 4 #[.agg #[.int .i64 x, .int .i64 y, .slice a n c], v] w fun e' w' => e' = .returned (.bool true) ∧ Below w.heap.size w w' := by
  have hni : (5000 : Int) < n := by omega
  go_enter Tryd.func4, Tryd.ntmps4
  go_upto_region 1 with fail
  have hr0 := heap_alloc_last w (.cells #[.int .i64 x, .int .i64 y, .slice a n c] 52)
  have hb0 := Ve.below_n1 w (.cells #[.int .i64 x, .int .i64 y, .slice a n c] 52)
  obtain ⟨y0, hy0⟩ : ∃ y0, w.alloc (.cells #[.int .i64 x, .int .i64 y, .slice a n c] 52) = y0 := ⟨_, rfl⟩
  rw [hy0] at hr0 hb0 ⊢
  clear hy0
  have c2 := cell_of_row _ _ 2 _ _ _ hr0
  simp at c2
  have HB := Lib.hid hb0
  clear hb0
  go_wp2_with (go_at_call 7; refine (awake_any _).mono ?_; rintro e y1 ⟨rfl, hb1⟩)
  go_ret
  exact ⟨rfl, HB.out.trans (hb1.mono HB.out.size)⟩

theorem walk (x y : Int) (a : Option Addr) (n c : Nat) (D : List UInt8) (ab : Option Addr) (nb cb : Nat) (lb : List UInt8) (w : World) (hD : Dn w a n c D) (hb : BA w ab nb cb lb) (hnb : nb ≤ 140737488351232) : Calls Tryd.prog 4 #[.agg #[.int .i64 x, .int .i64 y, .slice a n c], .slice ab nb cb] w fun e' w' => e' = .returned (.bool true) ∧ Below w.heap.size w w' := by
  by_cases hn : n ≤ 5000
  · by_cases hsz : Fm.okSz x y
    · by_cases hok : Fm.okSh x y n
      · exact files_A x y a n c D ab nb cb lb w hD hb hnb hn hsz hok trivial
      · exact files_B x y a n c D ab nb cb lb w hD hb hnb hn hsz hok trivial
    · exact files_C x y a n c D ab nb cb lb w hD hb hnb hn hsz trivial
  · exact big x y a n c _ w hn

end Go.Proofs.YtcohehekkeeeoaaDoor.plateFilesW
