/- Films, sheets that hold the same: the document's SameSheet, Same. -/
import Derived.Test.YtgpbnpnnbipfpaaE33
import Derived.Test.YtgpbnpnnbipfpaaE16
import Derived.Laws.StructEq
import Derived.Deep.MidRow
import Derived.StillTailTactics
import Derived.BigQuiet
import Derived.Deep.DeepCutAuto
import Derived.Deep.RegionHeld3
namespace Go.Proofs.Ytgpbnpnnbipfpaa.Fm
open Go Go.RowKit Go.Proofs.Ytgpbnpnnbipfpaa Go.Proofs.Ytgpbnpnnbipfpaa.Rp Go.Proofs.Ytgpbnpnnbipfpaa.Re Go.Proofs.Ytgpbnpnnbipfpaa.Au
set_option linter.unusedVariables false
set_option linter.unusedSimpArgs false

theorem bel_draws {B : Nat} {w wr : World} (h : Below B w wr) (k : Nat) : Below B w (wr.drewN k) := ⟨h.os, h.tape, h.output, h.size, h.block⟩

theorem eq_v3a (x y z : Int) (W : World) : (Op.equalIn 10000 66 (.agg #[.int .i64 x, .int .i64 y, .int .i64 z]) (.agg #[.int .i64 x, .int .i64 y, .int .i64 z])).run Try.prog W = .ok true W := by
  obtain ⟨i0, hi, hz0, hz1, hz2⟩ := info_parts Ve.infoInt
  rw [run_equalIn_array W 9999 _ _ Try.underlying66 hi, Ve.cellsInt]
  simp only [show List.range 3 = [0, 1, 2] from rfl, Op.eqItems, Sem.run_bind]
  simp [go_sem]

theorem eq_h3a (x y z : Int) (W : World) : (Op.equalIn 10000 56 (.agg #[.int .i64 x, .int .i64 y, .int .i64 z]) (.agg #[.int .i64 x, .int .i64 y, .int .i64 z])).run Try.prog W = .ok true W := by
  obtain ⟨i0, hi, hz0, hz1, hz2⟩ := info_parts Ve.infoInt
  rw [run_equalIn_array W 9999 _ _ Try.underlying56 hi, Ve.cellsInt]
  simp only [show List.range 3 = [0, 1, 2] from rfl, Op.eqItems, Sem.run_bind]
  simp [go_sem]

set_option maxHeartbeats 4000000 in
set_option maxRecDepth 100000 in
theorem samesheet_any (W H : Int) (n : Nat) (a a' : Option Addr) (c c' : Nat) (L : Nat → Int) (w : World) (h1 : Rw 3 w a n L) (h2 : Rw 3 w a' n L) (hn : n ≤ 140737488351232) : Calls Try.prog 13 #[.agg #[.int .i64 W, .int .i64 H, .slice a n c], .agg #[.int .i64 W, .int .i64 H, .slice a' n c']] w fun e' w' => e' = .returned (.bool true) ∧ Below w.heap.size w w' := by
  have HAl := Lib.hid h1
  have HBl := Lib.hid h2
  clear h1 h2
  go_enter Try.func13, Try.ntmps13
  go_upto_region 1 with fail
  have hR := Au.rows2 w (.cells #[.int .i64 W, .int .i64 H, .slice a n c] 24) (.cells #[.int .i64 W, .int .i64 H, .slice a' n c'] 24)
  have HUx := Ve.below_n2 w (.cells #[.int .i64 W, .int .i64 H, .slice a n c] 24) (.cells #[.int .i64 W, .int .i64 H, .slice a' n c'] 24)
  obtain ⟨y0, hy0⟩ : ∃ y0, (w.alloc (.cells #[.int .i64 W, .int .i64 H, .slice a n c] 24)).alloc (.cells #[.int .i64 W, .int .i64 H, .slice a' n c'] 24) = y0 := ⟨_, rfl⟩
  rw [hy0] at hR HUx ⊢
  clear hy0
  have HU0 := Lib.hid HUx
  clear HUx
  obtain ⟨hr0_0, hr0_1⟩ := hR
  have c0_0 := cell_of_row _ _ 0 _ _ _ hr0_0
  have c0_1 := cell_of_row _ _ 1 _ _ _ hr0_0
  have c0_2 := cell_of_row _ _ 2 _ _ _ hr0_0
  have c1_0 := cell_of_row _ _ 0 _ _ _ hr0_1
  have c1_1 := cell_of_row _ _ 1 _ _ _ hr0_1
  have c1_2 := cell_of_row _ _ 2 _ _ _ hr0_1
  simp at c0_0 c0_1 c0_2 c1_0 c1_1 c1_2
  have HW := Lib.hid (Below.refl y0.heap.size y0)
  go_wp2_with fail
  go_loopw [5] (fun ix wr => ∃ k : Nat, k ≤ n ∧ ix = .int .i64 k ∧ Hid (Below y0.heap.size y0 wr)) (fun ix _ => n - (intOf ix).toNat)
  case atStart => exact ⟨0, Nat.zero_le _, rfl, HW⟩
  case round =>
    clear HW
    obtain ⟨k1, hk1, rfl, HW⟩ := hrel
    have hww := HU0.out.trans (HW.out.mono HU0.out.size)
    have d1 := cell_of_row _ _ 2 _ _ _ ((HW.out.block _ (lt_heap hr0_0)).trans hr0_0)
    have d2 := cell_of_row _ _ 2 _ _ _ ((HW.out.block _ (lt_heap hr0_1)).trans hr0_1)
    simp at d1 d2
    by_cases hlt : k1 < n
    · have hlt' : (k1 : Int) < n := by omega
      obtain ⟨sb, so, hsa, e0, e1, e2⟩ := (HAl.out.on hww).at3 hlt
      obtain ⟨sb', so', hsb, f0, f1, f2⟩ := (HBl.out.on hww).at3 hlt
      rw [hsa] at d1
      rw [hsb] at d2
      obtain ⟨x0, hx0⟩ : ∃ x, x = L (k1 * 3) := ⟨_, rfl⟩
      rw [← hx0] at e0 f0
      clear hx0
      obtain ⟨x1, hx1⟩ : ∃ x, x = L (k1 * 3 + 1) := ⟨_, rfl⟩
      rw [← hx1] at e1 f1
      clear hx1
      obtain ⟨x2, hx2⟩ : ∃ x, x = L (k1 * 3 + 2) := ⟨_, rfl⟩
      rw [← hx2] at e2 f2
      clear hx2
      have he : ∀ W, (Op.equalIn 10000 56 (.agg #[.int .i64 x0, .int .i64 x1, .int .i64 x2]) (.agg #[.int .i64 x0, .int .i64 x1, .int .i64 x2])).run Try.prog W = .ok true W := eq_h3a _ _ _
      clear hsa hsb
      go_wp2_with fail
      go_quiet (fail)
      go_wp2
      go_roundw
      case rel => exact ⟨k1 + 1, by omega, by go_num, Lib.hid (bel_draws HW.out _)⟩
      case measure => simp [intOf]; omega
    · have hge : ¬ (k1 : Int) < n := by omega
      clear hlt
      go_wp2
      exact bodyPost_ret (v := .bool true) (by simp [results, Try.results13, go_sem]) rfl ⟨rfl, hww⟩

end Go.Proofs.Ytgpbnpnnbipfpaa.Fm
