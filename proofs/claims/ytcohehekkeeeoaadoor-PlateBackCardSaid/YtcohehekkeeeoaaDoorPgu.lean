/- Layer 21 (plate): the same pictures. -/
import Derived.Test.YtcohehekkeeeoaaDoorPgs
import Derived.BigQuiet
namespace Go.Proofs.YtcohehekkeeeoaaDoor.Pg
open Go Go.RowKit Go.Proofs.YtcohehekkeeeoaaDoor Go.Proofs.YtcohehekkeeeoaaDoor.Re Go.Proofs.YtcohehekkeeeoaaDoor.Au
set_option linter.unusedVariables false
set_option linter.unusedSimpArgs false

theorem cells_u8 : Tryd.prog.cellsOf 5 = 1 := by kernel_rfl

theorem eq_d3 (x y z : Int) (W : World) : (Op.equalIn 10000 69 (.agg #[.int .u8 x, .int .u8 y, .int .u8 z]) (.agg #[.int .u8 x, .int .u8 y, .int .u8 z])).run Tryd.prog W = .ok true W := by
  obtain ⟨i0, hi, hz0, hz1, hz2⟩ := info_parts infoByte
  rw [run_equalIn_array W 9999 _ _ Tryd.underlying69 hi, cells_u8]
  simp only [show List.range 3 = [0, 1, 2] from rfl, Op.eqItems, Sem.run_bind]
  simp [go_sem]

set_option maxHeartbeats 4000000 in
set_option maxRecDepth 100000 in
theorem same_any (W H : Int) (n : Nat) (a a' : Option Addr) (c c' : Nat) (D : List UInt8) (w : World) (h1 : Dt w a n D) (h2 : Dt w a' n D) (hn : n ≤ 140737488351232) : Calls Tryd.prog 14 #[.agg #[.int .i64 W, .int .i64 H, .slice a n c], .agg #[.int .i64 W, .int .i64 H, .slice a' n c']] w fun e' w' => e' = .returned (.bool true) ∧ Below w.heap.size w w' := by
  have HAl := Lib.hid h1
  have HBl := Lib.hid h2
  clear h1 h2
  go_enter Tryd.func14, Tryd.ntmps14
  go_upto_region 1 with fail
  have hR := Au.rows2 w (.cells #[.int .i64 W, .int .i64 H, .slice a n c] 52) (.cells #[.int .i64 W, .int .i64 H, .slice a' n c'] 52)
  have HUx := Ve.below_n2 w (.cells #[.int .i64 W, .int .i64 H, .slice a n c] 52) (.cells #[.int .i64 W, .int .i64 H, .slice a' n c'] 52)
  obtain ⟨y0, hy0⟩ : ∃ y0, (w.alloc (.cells #[.int .i64 W, .int .i64 H, .slice a n c] 52)).alloc (.cells #[.int .i64 W, .int .i64 H, .slice a' n c'] 52) = y0 := ⟨_, rfl⟩
  rw [hy0] at hR HUx ⊢
  clear hy0
  have HU0 := Lib.hid HUx
  clear HUx
  obtain ⟨hr0_0, hr0_1⟩ := hR
  have c0_0 := cell_of_row _ _ 0 _ _ _ hr0_0
  have c0_1 := cell_of_row _ _ 1 _ _ _ hr0_0
  have c0_2 := cell_of_row _ _ 2 _ _ _ hr0_0
  have c1_0 := cell_of_row _ _ 0 _ _ _ hr0_1
  have c1_1 := cell_of_row _ _ 1 _ _ _ hr0_1
  have c1_2 := cell_of_row _ _ 2 _ _ _ hr0_1
  simp at c0_0 c0_1 c0_2 c1_0 c1_1 c1_2
  have HW := Lib.hid (Below.refl y0.heap.size y0)
  go_wp2_with fail
  go_loopw [5] (fun ix wr => ∃ k : Nat, k ≤ n ∧ ix = .int .i64 k ∧ Hid (Below y0.heap.size y0 wr)) (fun ix _ => n - (intOf ix).toNat)
  case atStart => exact ⟨0, Nat.zero_le _, rfl, HW⟩
  case round =>
    clear HW
    obtain ⟨k1, hk1, rfl, HW⟩ := hrel
    have hww := HU0.out.trans (HW.out.mono HU0.out.size)
    have d1 := cell_of_row _ _ 2 _ _ _ ((HW.out.block _ (lt_heap hr0_0)).trans hr0_0)
    have d2 := cell_of_row _ _ 2 _ _ _ ((HW.out.block _ (lt_heap hr0_1)).trans hr0_1)
    simp at d1 d2
    by_cases hlt : k1 < n
    · have hlt' : (k1 : Int) < n := by omega
      obtain ⟨sb, so, hsa, e0, e1, e2⟩ := (HAl.out.on hww).at hlt
      obtain ⟨sb', so', hsb, f0, f1, f2⟩ := (HBl.out.on hww).at hlt
      rw [hsa] at d1
      rw [hsb] at d2
      obtain ⟨x0, hx0⟩ : ∃ x, x = ((bn D (k1 * 3) : Nat) : Int) := ⟨_, rfl⟩
      rw [← hx0] at e0 f0
      clear hx0
      obtain ⟨x1, hx1⟩ : ∃ x, x = ((bn D (k1 * 3 + 1) : Nat) : Int) := ⟨_, rfl⟩
      rw [← hx1] at e1 f1
      clear hx1
      obtain ⟨x2, hx2⟩ : ∃ x, x = ((bn D (k1 * 3 + 2) : Nat) : Int) := ⟨_, rfl⟩
      rw [← hx2] at e2 f2
      clear hx2
      have he : ∀ W, (Op.equalIn 10000 69 (.agg #[.int .u8 x0, .int .u8 x1, .int .u8 x2]) (.agg #[.int .u8 x0, .int .u8 x1, .int .u8 x2])).run Tryd.prog W = .ok true W := eq_d3 _ _ _
      clear hsa hsb
      go_wp2_with fail
      go_quiet (fail)
      go_wp2
      go_roundw
      case rel => exact ⟨k1 + 1, by omega, by go_num, Lib.hid (drawnB HW.out _)⟩
      case measure => simp [intOf]; omega
    · have hge : ¬ (k1 : Int) < n := by omega
      clear hlt
      go_wp2
      exact bodyPost_ret (v := .bool true) (by simp [results, Tryd.results14, go_sem]) rfl ⟨rfl, hww⟩


end Go.Proofs.YtcohehekkeeeoaaDoor.Pg
