/- Films, sheets that hold the same: the document's SameSheet, Same. -/
import Derived.Test.YtgkfoiekminfmaaFd
import Derived.Test.YtgkfoiekminfmaaVg
import Derived.Laws.StructEq
import Derived.Deep.MidRow
import Derived.StillTailTactics
import Derived.BigQuiet
import Derived.Deep.DeepCutAuto
import Derived.Deep.RegionHeld3
namespace Go.Proofs.Ytgkfoiekminfmaa.Fm
open Go Go.RowKit Go.Proofs.Ytgkfoiekminfmaa Go.Proofs.Ytgkfoiekminfmaa.Rp Go.Proofs.Ytgkfoiekminfmaa.Re Go.Proofs.Ytgkfoiekminfmaa.Au
set_option linter.unusedVariables false
set_option linter.unusedSimpArgs false

theorem bel_draws {B : Nat} {w wr : World} (h : Below B w wr) (k : Nat) : Below B w (wr.drewN k) := ⟨h.os, h.tape, h.output, h.size, h.block⟩

theorem eq_v3a (x y z : Int) (W : World) : (Op.equalIn 10000 71 (.agg #[.int .i64 x, .int .i64 y, .int .i64 z]) (.agg #[.int .i64 x, .int .i64 y, .int .i64 z])).run Try.prog W = .ok true W := by
  obtain ⟨i0, hi, hz0, hz1, hz2⟩ := info_parts Ve.infoInt
  rw [run_equalIn_array W 9999 _ _ Try.underlying71 hi, Ve.cellsInt]
  simp only [show List.range 3 = [0, 1, 2] from rfl, Op.eqItems, Sem.run_bind]
  simp [go_sem]

theorem eq_h3a (x y z : Int) (W : World) : (Op.equalIn 10000 75 (.agg #[.int .i64 x, .int .i64 y, .int .i64 z]) (.agg #[.int .i64 x, .int .i64 y, .int .i64 z])).run Try.prog W = .ok true W := by
  obtain ⟨i0, hi, hz0, hz1, hz2⟩ := info_parts Ve.infoInt
  rw [run_equalIn_array W 9999 _ _ Try.underlying75 hi, Ve.cellsInt]
  simp only [show List.range 3 = [0, 1, 2] from rfl, Op.eqItems, Sem.run_bind]
  simp [go_sem]

set_option maxHeartbeats 4000000 in
set_option maxRecDepth 100000 in
theorem samesheet_any (W H : Int) (n : Nat) (a a' : Option Addr) (c c' : Nat) (L : Nat → Int) (w : World) (h1 : Rw 3 w a n L) (h2 : Rw 3 w a' n L) (hn : n ≤ 140737488351232) : Calls Try.prog 24 #[.agg #[.int .i64 W, .int .i64 H, .slice a n c], .agg #[.int .i64 W, .int .i64 H, .slice a' n c']] w fun e' w' => e' = .returned (.bool true) ∧ Below w.heap.size w w' := by
  have HAl := Lib.hid h1
  have HBl := Lib.hid h2
  clear h1 h2
  go_enter Try.func24, Try.ntmps24
  go_upto_region 1 with fail
  have hR := Au.rows2 w (.cells #[.int .i64 W, .int .i64 H, .slice a n c] 24) (.cells #[.int .i64 W, .int .i64 H, .slice a' n c'] 24)
  have HUx := Ve.below_n2 w (.cells #[.int .i64 W, .int .i64 H, .slice a n c] 24) (.cells #[.int .i64 W, .int .i64 H, .slice a' n c'] 24)
  obtain ⟨y0, hy0⟩ : ∃ y0, (w.alloc (.cells #[.int .i64 W, .int .i64 H, .slice a n c] 24)).alloc (.cells #[.int .i64 W, .int .i64 H, .slice a' n c'] 24) = y0 := ⟨_, rfl⟩
  rw [hy0] at hR HUx ⊢
  clear hy0
  have HU0 := Lib.hid HUx
  clear HUx
  obtain ⟨hr0_0, hr0_1⟩ := hR
  have c0_0 := cell_of_row _ _ 0 _ _ _ hr0_0
  have c0_1 := cell_of_row _ _ 1 _ _ _ hr0_0
  have c0_2 := cell_of_row _ _ 2 _ _ _ hr0_0
  have c1_0 := cell_of_row _ _ 0 _ _ _ hr0_1
  have c1_1 := cell_of_row _ _ 1 _ _ _ hr0_1
  have c1_2 := cell_of_row _ _ 2 _ _ _ hr0_1
  simp at c0_0 c0_1 c0_2 c1_0 c1_1 c1_2
  have HW := Lib.hid (Below.refl y0.heap.size y0)
  go_wp2_with fail
  go_loopw [5] (fun ix wr => ∃ k : Nat, k ≤ n ∧ ix = .int .i64 k ∧ Hid (Below y0.heap.size y0 wr)) (fun ix _ => n - (intOf ix).toNat)
  case atStart => exact ⟨0, Nat.zero_le _, rfl, HW⟩
  case round =>
    clear HW
    obtain ⟨k1, hk1, rfl, HW⟩ := hrel
    have hww := HU0.out.trans (HW.out.mono HU0.out.size)
    have d1 := cell_of_row _ _ 2 _ _ _ ((HW.out.block _ (lt_heap hr0_0)).trans hr0_0)
    have d2 := cell_of_row _ _ 2 _ _ _ ((HW.out.block _ (lt_heap hr0_1)).trans hr0_1)
    simp at d1 d2
    by_cases hlt : k1 < n
    · have hlt' : (k1 : Int) < n := by omega
      obtain ⟨sb, so, hsa, e0, e1, e2⟩ := (HAl.out.on hww).at3 hlt
      obtain ⟨sb', so', hsb, f0, f1, f2⟩ := (HBl.out.on hww).at3 hlt
      rw [hsa] at d1
      rw [hsb] at d2
      obtain ⟨x0, hx0⟩ : ∃ x, x = L (k1 * 3) := ⟨_, rfl⟩
      rw [← hx0] at e0 f0
      clear hx0
      obtain ⟨x1, hx1⟩ : ∃ x, x = L (k1 * 3 + 1) := ⟨_, rfl⟩
      rw [← hx1] at e1 f1
      clear hx1
      obtain ⟨x2, hx2⟩ : ∃ x, x = L (k1 * 3 + 2) := ⟨_, rfl⟩
      rw [← hx2] at e2 f2
      clear hx2
      have he : ∀ W, (Op.equalIn 10000 75 (.agg #[.int .i64 x0, .int .i64 x1, .int .i64 x2]) (.agg #[.int .i64 x0, .int .i64 x1, .int .i64 x2])).run Try.prog W = .ok true W := eq_h3a _ _ _
      clear hsa hsb
      go_wp2_with fail
      go_quiet (fail)
      go_wp2
      go_roundw
      case rel => exact ⟨k1 + 1, by omega, by go_num, Lib.hid (bel_draws HW.out _)⟩
      case measure => simp [intOf]; omega
    · have hge : ¬ (k1 : Int) < n := by omega
      clear hlt
      go_wp2
      exact bodyPost_ret (v := .bool true) (by simp [results, Try.results24, go_sem]) rfl ⟨rfl, hww⟩

set_option maxHeartbeats 8000000 in
set_option maxRecDepth 100000 in
theorem same_letters (W H : Int) (nl nd nn nb ns nf : Nat) (al ad an ab ax af al' ad' an' ab' ax' af' : Option Addr) (cl cd cn cb cx cf cl' cd' cn' cb' cx' cf' : Nat) (L D N B S F : Nat → Int) (w : World) (hl1 : Rw 3 w al nl L) (hd1 : Rw 1 w ad nd D) (hn1 : Rw 3 w an nn N) (hb1 : Rw 3 w ab nb B) (hx1 : Rw 1 w ax ns S) (hf1 : Rw 1 w af nf F) (hl2 : Rw 3 w al' nl L) (hd2 : Rw 1 w ad' nd D) (hn2 : Rw 3 w an' nn N) (hb2 : Rw 3 w ab' nb B) (hx2 : Rw 1 w ax' ns S) (hf2 : Rw 1 w af' nf F) (bl : nl ≤ 140737488351232) (bd : nd ≤ 140737488351232) (bn : nn ≤ 140737488351232) (bb : nb ≤ 140737488351232) (bx : ns ≤ 140737488351232) (bf : nf ≤ 140737488351232) : Calls Try.prog 26 #[.agg #[.int .i64 W, .int .i64 H, .slice al nl cl, .slice ad nd cd, .slice an nn cn, .slice ab nb cb, .slice ax ns cx, .slice af nf cf], .agg #[.int .i64 W, .int .i64 H, .slice al' nl cl', .slice ad' nd cd', .slice an' nn cn', .slice ab' nb cb', .slice ax' ns cx', .slice af' nf cf']] w fun e' w' => e' = .returned (.bool true) ∧ Below w.heap.size w w' := by
  have HAl := Lib.hid hl1
  clear hl1
  have HAd := Lib.hid hd1
  clear hd1
  have HAn := Lib.hid hn1
  clear hn1
  have HAb := Lib.hid hb1
  clear hb1
  have HAx := Lib.hid hx1
  clear hx1
  have HAf := Lib.hid hf1
  clear hf1
  have HBl := Lib.hid hl2
  clear hl2
  have HBd := Lib.hid hd2
  clear hd2
  have HBn := Lib.hid hn2
  clear hn2
  have HBb := Lib.hid hb2
  clear hb2
  have HBx := Lib.hid hx2
  clear hx2
  have HBf := Lib.hid hf2
  clear hf2
  go_enter Try.func26, Try.ntmps26
  go_upto_region 1 with fail
  have hR := Au.rows2 w (.cells #[.int .i64 W, .int .i64 H, .slice al nl cl, .slice ad nd cd, .slice an nn cn, .slice ab nb cb, .slice ax ns cx, .slice af nf cf] 29) (.cells #[.int .i64 W, .int .i64 H, .slice al' nl cl', .slice ad' nd cd', .slice an' nn cn', .slice ab' nb cb', .slice ax' ns cx', .slice af' nf cf'] 29)
  have HUx := Ve.below_n2 w (.cells #[.int .i64 W, .int .i64 H, .slice al nl cl, .slice ad nd cd, .slice an nn cn, .slice ab nb cb, .slice ax ns cx, .slice af nf cf] 29) (.cells #[.int .i64 W, .int .i64 H, .slice al' nl cl', .slice ad' nd cd', .slice an' nn cn', .slice ab' nb cb', .slice ax' ns cx', .slice af' nf cf'] 29)
  obtain ⟨y0, hy0⟩ : ∃ y0, (w.alloc (.cells #[.int .i64 W, .int .i64 H, .slice al nl cl, .slice ad nd cd, .slice an nn cn, .slice ab nb cb, .slice ax ns cx, .slice af nf cf] 29)).alloc (.cells #[.int .i64 W, .int .i64 H, .slice al' nl cl', .slice ad' nd cd', .slice an' nn cn', .slice ab' nb cb', .slice ax' ns cx', .slice af' nf cf'] 29) = y0 := ⟨_, rfl⟩
  rw [hy0] at hR HUx ⊢
  clear hy0
  have HU0 := Lib.hid HUx
  clear HUx
  obtain ⟨hr0_0, hr0_1⟩ := hR
  have c0_0 := cell_of_row _ _ 0 _ _ _ hr0_0
  have c0_1 := cell_of_row _ _ 1 _ _ _ hr0_0
  have c0_2 := cell_of_row _ _ 2 _ _ _ hr0_0
  have c0_3 := cell_of_row _ _ 3 _ _ _ hr0_0
  have c0_4 := cell_of_row _ _ 4 _ _ _ hr0_0
  have c0_5 := cell_of_row _ _ 5 _ _ _ hr0_0
  have c0_6 := cell_of_row _ _ 6 _ _ _ hr0_0
  have c0_7 := cell_of_row _ _ 7 _ _ _ hr0_0
  have c1_0 := cell_of_row _ _ 0 _ _ _ hr0_1
  have c1_1 := cell_of_row _ _ 1 _ _ _ hr0_1
  have c1_2 := cell_of_row _ _ 2 _ _ _ hr0_1
  have c1_3 := cell_of_row _ _ 3 _ _ _ hr0_1
  have c1_4 := cell_of_row _ _ 4 _ _ _ hr0_1
  have c1_5 := cell_of_row _ _ 5 _ _ _ hr0_1
  have c1_6 := cell_of_row _ _ 6 _ _ _ hr0_1
  have c1_7 := cell_of_row _ _ 7 _ _ _ hr0_1
  simp at c0_0 c0_1 c0_2 c0_3 c0_4 c0_5 c0_6 c0_7 c1_0 c1_1 c1_2 c1_3 c1_4 c1_5 c1_6 c1_7
  go_wp2_with fail
  refine (samesheet_any W H nl al al' cl cl' L _ (HAl.out.on HU0.out) (HBl.out.on HU0.out) bl).mono ?_
  rintro e y1 ⟨rfl, hb1⟩
  clear c0_0 c0_1 c0_2 c0_3 c0_4 c0_5 c0_6 c0_7 c1_0 c1_1 c1_2 c1_3 c1_4 c1_5 c1_6 c1_7
  have hr1_0 := (hb1.block _ (lt_heap hr0_0)).trans hr0_0
  have hr1_1 := (hb1.block _ (lt_heap hr0_1)).trans hr0_1
  have HU1 := Lib.hid (HU0.out.trans (hb1.mono HU0.out.size))
  clear hr0_0 hr0_1 HU0
  have HW := Lib.hid (Below.refl y1.heap.size y1)
  have c0_0 := cell_of_row _ _ 0 _ _ _ hr1_0
  have c0_1 := cell_of_row _ _ 1 _ _ _ hr1_0
  have c0_2 := cell_of_row _ _ 2 _ _ _ hr1_0
  have c0_3 := cell_of_row _ _ 3 _ _ _ hr1_0
  have c0_4 := cell_of_row _ _ 4 _ _ _ hr1_0
  have c0_5 := cell_of_row _ _ 5 _ _ _ hr1_0
  have c0_6 := cell_of_row _ _ 6 _ _ _ hr1_0
  have c0_7 := cell_of_row _ _ 7 _ _ _ hr1_0
  have c1_0 := cell_of_row _ _ 0 _ _ _ hr1_1
  have c1_1 := cell_of_row _ _ 1 _ _ _ hr1_1
  have c1_2 := cell_of_row _ _ 2 _ _ _ hr1_1
  have c1_3 := cell_of_row _ _ 3 _ _ _ hr1_1
  have c1_4 := cell_of_row _ _ 4 _ _ _ hr1_1
  have c1_5 := cell_of_row _ _ 5 _ _ _ hr1_1
  have c1_6 := cell_of_row _ _ 6 _ _ _ hr1_1
  have c1_7 := cell_of_row _ _ 7 _ _ _ hr1_1
  simp at c0_0 c0_1 c0_2 c0_3 c0_4 c0_5 c0_6 c0_7 c1_0 c1_1 c1_2 c1_3 c1_4 c1_5 c1_6 c1_7
  go_wp2_with fail
  go_loopw [5] (fun ix wr => ∃ k : Nat, k ≤ nd ∧ ix = .int .i64 k ∧ Hid (Below y1.heap.size y1 wr)) (fun ix _ => nd - (intOf ix).toNat)
  case atStart => exact ⟨0, Nat.zero_le _, rfl, HW⟩
  case round =>
    clear HW
    obtain ⟨k1, hk1, rfl, HW⟩ := hrel
    have hww := HU1.out.trans (HW.out.mono HU1.out.size)
    have d1 := cell_of_row _ _ 3 _ _ _ ((HW.out.block _ (lt_heap hr1_0)).trans hr1_0)
    have d2 := cell_of_row _ _ 3 _ _ _ ((HW.out.block _ (lt_heap hr1_1)).trans hr1_1)
    simp at d1 d2
    by_cases hlt : k1 < nd
    · have hlt' : (k1 : Int) < nd := by omega
      obtain ⟨sb, so, hsa, e0⟩ := (HAd.out.on hww).at1 hlt
      obtain ⟨sb', so', hsb, f0⟩ := (HBd.out.on hww).at1 hlt
      rw [hsa] at d1
      rw [hsb] at d2
      obtain ⟨x0, hx0⟩ : ∃ x, x = D (k1) := ⟨_, rfl⟩
      rw [← hx0] at e0 f0
      clear hx0
      clear hsa hsb
      go_wp2_with fail
      go_quiet (fail)
      go_wp2
      go_roundw
      case rel => exact ⟨k1 + 1, by omega, by go_num, Lib.hid (bel_draws HW.out _)⟩
      case measure => simp [intOf]; omega
    · have hge : ¬ (k1 : Int) < nd := by omega
      clear hlt
      go_wp2_with fail
      go_loopw [6] (fun ix wr => ∃ k : Nat, k ≤ nn ∧ ix = .int .i64 k ∧ Hid (Below y1.heap.size y1 wr)) (fun ix _ => nn - (intOf ix).toNat)
      case atStart => exact ⟨0, Nat.zero_le _, rfl, HW⟩
      case round =>
        clear HW
        obtain ⟨k2, hk2, rfl, HW⟩ := hrel
        have hww := HU1.out.trans (HW.out.mono HU1.out.size)
        have d1 := cell_of_row _ _ 4 _ _ _ ((HW.out.block _ (lt_heap hr1_0)).trans hr1_0)
        have d2 := cell_of_row _ _ 4 _ _ _ ((HW.out.block _ (lt_heap hr1_1)).trans hr1_1)
        simp at d1 d2
        by_cases hlt : k2 < nn
        · have hlt' : (k2 : Int) < nn := by omega
          obtain ⟨sb, so, hsa, e0, e1, e2⟩ := (HAn.out.on hww).at3 hlt
          obtain ⟨sb', so', hsb, f0, f1, f2⟩ := (HBn.out.on hww).at3 hlt
          rw [hsa] at d1
          rw [hsb] at d2
          obtain ⟨x0, hx0⟩ : ∃ x, x = N (k2 * 3) := ⟨_, rfl⟩
          rw [← hx0] at e0 f0
          clear hx0
          obtain ⟨x1, hx1⟩ : ∃ x, x = N (k2 * 3 + 1) := ⟨_, rfl⟩
          rw [← hx1] at e1 f1
          clear hx1
          obtain ⟨x2, hx2⟩ : ∃ x, x = N (k2 * 3 + 2) := ⟨_, rfl⟩
          rw [← hx2] at e2 f2
          clear hx2
          have he : ∀ W, (Op.equalIn 10000 71 (.agg #[.int .i64 x0, .int .i64 x1, .int .i64 x2]) (.agg #[.int .i64 x0, .int .i64 x1, .int .i64 x2])).run Try.prog W = .ok true W := eq_v3a _ _ _
          clear hsa hsb
          go_wp2_with fail
          go_quiet (fail)
          go_wp2
          go_roundw
          case rel => exact ⟨k2 + 1, by omega, by go_num, Lib.hid (bel_draws HW.out _)⟩
          case measure => simp [intOf]; omega
        · have hge : ¬ (k2 : Int) < nn := by omega
          clear hlt
          go_wp2_with fail
          go_loopw [7] (fun ix wr => ∃ k : Nat, k ≤ nb ∧ ix = .int .i64 k ∧ Hid (Below y1.heap.size y1 wr)) (fun ix _ => nb - (intOf ix).toNat)
          case atStart => exact ⟨0, Nat.zero_le _, rfl, HW⟩
          case round =>
            clear HW
            obtain ⟨k3, hk3, rfl, HW⟩ := hrel
            have hww := HU1.out.trans (HW.out.mono HU1.out.size)
            have d1 := cell_of_row _ _ 5 _ _ _ ((HW.out.block _ (lt_heap hr1_0)).trans hr1_0)
            have d2 := cell_of_row _ _ 5 _ _ _ ((HW.out.block _ (lt_heap hr1_1)).trans hr1_1)
            simp at d1 d2
            by_cases hlt : k3 < nb
            · have hlt' : (k3 : Int) < nb := by omega
              obtain ⟨sb, so, hsa, e0, e1, e2⟩ := (HAb.out.on hww).at3 hlt
              obtain ⟨sb', so', hsb, f0, f1, f2⟩ := (HBb.out.on hww).at3 hlt
              rw [hsa] at d1
              rw [hsb] at d2
              obtain ⟨x0, hx0⟩ : ∃ x, x = B (k3 * 3) := ⟨_, rfl⟩
              rw [← hx0] at e0 f0
              clear hx0
              obtain ⟨x1, hx1⟩ : ∃ x, x = B (k3 * 3 + 1) := ⟨_, rfl⟩
              rw [← hx1] at e1 f1
              clear hx1
              obtain ⟨x2, hx2⟩ : ∃ x, x = B (k3 * 3 + 2) := ⟨_, rfl⟩
              rw [← hx2] at e2 f2
              clear hx2
              have he : ∀ W, (Op.equalIn 10000 75 (.agg #[.int .i64 x0, .int .i64 x1, .int .i64 x2]) (.agg #[.int .i64 x0, .int .i64 x1, .int .i64 x2])).run Try.prog W = .ok true W := eq_h3a _ _ _
              clear hsa hsb
              go_wp2_with fail
              go_quiet (fail)
              go_wp2
              go_roundw
              case rel => exact ⟨k3 + 1, by omega, by go_num, Lib.hid (bel_draws HW.out _)⟩
              case measure => simp [intOf]; omega
            · have hge : ¬ (k3 : Int) < nb := by omega
              clear hlt
              go_wp2_with fail
              go_loopw [8] (fun ix wr => ∃ k : Nat, k ≤ ns ∧ ix = .int .i64 k ∧ Hid (Below y1.heap.size y1 wr)) (fun ix _ => ns - (intOf ix).toNat)
              case atStart => exact ⟨0, Nat.zero_le _, rfl, HW⟩
              case round =>
                clear HW
                obtain ⟨k4, hk4, rfl, HW⟩ := hrel
                have hww := HU1.out.trans (HW.out.mono HU1.out.size)
                have d1 := cell_of_row _ _ 6 _ _ _ ((HW.out.block _ (lt_heap hr1_0)).trans hr1_0)
                have d2 := cell_of_row _ _ 6 _ _ _ ((HW.out.block _ (lt_heap hr1_1)).trans hr1_1)
                simp at d1 d2
                by_cases hlt : k4 < ns
                · have hlt' : (k4 : Int) < ns := by omega
                  obtain ⟨sb, so, hsa, e0⟩ := (HAx.out.on hww).at1 hlt
                  obtain ⟨sb', so', hsb, f0⟩ := (HBx.out.on hww).at1 hlt
                  rw [hsa] at d1
                  rw [hsb] at d2
                  obtain ⟨x0, hx0⟩ : ∃ x, x = S (k4) := ⟨_, rfl⟩
                  rw [← hx0] at e0 f0
                  clear hx0
                  clear hsa hsb
                  go_wp2_with fail
                  go_quiet (fail)
                  go_wp2
                  go_roundw
                  case rel => exact ⟨k4 + 1, by omega, by go_num, Lib.hid (bel_draws HW.out _)⟩
                  case measure => simp [intOf]; omega
                · have hge : ¬ (k4 : Int) < ns := by omega
                  clear hlt
                  go_wp2_with fail
                  go_loopw [9] (fun ix wr => ∃ k : Nat, k ≤ nf ∧ ix = .int .i64 k ∧ Hid (Below y1.heap.size y1 wr)) (fun ix _ => nf - (intOf ix).toNat)
                  case atStart => exact ⟨0, Nat.zero_le _, rfl, HW⟩
                  case round =>
                    clear HW
                    obtain ⟨k5, hk5, rfl, HW⟩ := hrel
                    have hww := HU1.out.trans (HW.out.mono HU1.out.size)
                    have d1 := cell_of_row _ _ 7 _ _ _ ((HW.out.block _ (lt_heap hr1_0)).trans hr1_0)
                    have d2 := cell_of_row _ _ 7 _ _ _ ((HW.out.block _ (lt_heap hr1_1)).trans hr1_1)
                    simp at d1 d2
                    by_cases hlt : k5 < nf
                    · have hlt' : (k5 : Int) < nf := by omega
                      obtain ⟨sb, so, hsa, e0⟩ := (HAf.out.on hww).at1 hlt
                      obtain ⟨sb', so', hsb, f0⟩ := (HBf.out.on hww).at1 hlt
                      rw [hsa] at d1
                      rw [hsb] at d2
                      obtain ⟨x0, hx0⟩ : ∃ x, x = F (k5) := ⟨_, rfl⟩
                      rw [← hx0] at e0 f0
                      clear hx0
                      clear hsa hsb
                      go_wp2_with fail
                      go_quiet (fail)
                      go_wp2
                      go_roundw
                      case rel => exact ⟨k5 + 1, by omega, by go_num, Lib.hid (bel_draws HW.out _)⟩
                      case measure => simp [intOf]; omega
                    · have hge : ¬ (k5 : Int) < nf := by omega
                      clear hlt
                      go_wp2
                      exact bodyPost_ret (v := .bool true) (by simp [results, Try.results26, go_sem]) rfl ⟨rfl, hww⟩

theorem same_film (f : Flm) (p p' : Pl) (w : World) (h : FAt w f p) (h' : FAt w f p') (bl : f.nl ≤ 140737488351232) (bd : f.nd ≤ 140737488351232) (bn : f.nn ≤ 140737488351232) (bb : f.nb ≤ 140737488351232) (bx : f.ns ≤ 140737488351232) (bf : f.nf ≤ 140737488351232) :
    Calls Try.prog 26 #[.agg (FC f p), .agg (FC f p')] w fun e w' => e = .returned (.bool true) ∧ Below w.heap.size w w' := by
  obtain ⟨W, H, nl, nd, nn, nb, ns, nf, L, D, N, B, S, F⟩ := f
  obtain ⟨al, cl, ad, cd, an, cn, ab, cb, ax, cx, af, cf⟩ := p
  obtain ⟨al', cl', ad', cd', an', cn', ab', cb', ax', cx', af', cf'⟩ := p'
  obtain ⟨h1, h2, h3, h4, h5, h6⟩ := h
  obtain ⟨k1, k2, k3, k4, k5, k6⟩ := h'
  exact same_letters W H nl nd nn nb ns nf al ad an ab ax af al' ad' an' ab' ax' af' cl cd cn cb cx cf cl' cd' cn' cb' cx' cf' L D N B S F w h1 h2 h3 h4 h5 h6 k1 k2 k3 k4 k5 k6 bl bd bn bb bx bf

end Go.Proofs.Ytgkfoiekminfmaa.Fm
