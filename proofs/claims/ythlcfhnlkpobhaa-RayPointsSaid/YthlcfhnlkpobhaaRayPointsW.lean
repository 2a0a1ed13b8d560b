/- RayPoints: the walk: the law returns true, whatever ray, whatever numbers, direction and hits come in; nothing that was there is written. -/
import Derived.Test.YthlcfhnlkpobhaaYf
import Derived.Test.YthlcfhnlkpobhaaYg
import Derived.Test.YthlcfhnlkpobhaaBl
import Derived.Test.YthlcfhnlkpobhaaLr
namespace Go.Proofs.Ythlcfhnlkpobhaa.rayPointsW
open Go.RowKit Go.Proofs.Ythlcfhnlkpobhaa Go.Proofs.Ythlcfhnlkpobhaa.Wa Go.Proofs.Ythlcfhnlkpobhaa.Ve Go.Proofs.Ythlcfhnlkpobhaa.Au Go.Proofs.Ythlcfhnlkpobhaa.Bx Go.Proofs.Ythlcfhnlkpobhaa.Yr
set_option linter.unusedVariables false
set_option linter.unusedSimpArgs false

set_option maxHeartbeats 8000000 in
set_option maxRecDepth 100000 in
theorem walk (fx fy fz dx dy dz pt a b bx by_ bz x0 x1 x2 x3 x4 x5 x6 x7 z0 z1 z2 z3 z4 z5 z6 z7 : Int) (w : World)  : Calls Try.prog 5 #[.agg #[.int .i64 fx, .int .i64 fy, .int .i64 fz, .int .i64 dx, .int .i64 dy, .int .i64 dz, .int .i64 pt], .int .i64 a, .int .i64 b, .agg #[.int .i64 bx, .int .i64 by_, .int .i64 bz], .agg #[.int .i64 x0, .int .i64 x1, .int .i64 x2, .int .i64 x3, .int .i64 x4, .int .i64 x5, .int .i64 x6, .int .i64 x7], .agg #[.int .i64 z0, .int .i64 z1, .int .i64 z2, .int .i64 z3, .int .i64 z4, .int .i64 z5, .int .i64 z6, .int .i64 z7]] w fun e' w' => e' = .returned (.bool true) ∧ Below w.heap.size w w' := by
  have heq := eq_v3
  have heb := eq_b6
  go_enter Try.func5, Try.ntmps5
  go_upto_region 1 with fail
  have hR := Au.rows4 w (.cells #[.int .i64 fx, .int .i64 fy, .int .i64 fz, .int .i64 dx, .int .i64 dy, .int .i64 dz, .int .i64 pt] 97) (.cells #[.int .i64 bx, .int .i64 by_, .int .i64 bz] 59) (.cells #[.int .i64 x0, .int .i64 x1, .int .i64 x2, .int .i64 x3, .int .i64 x4, .int .i64 x5, .int .i64 x6, .int .i64 x7] 99) (.cells #[.int .i64 z0, .int .i64 z1, .int .i64 z2, .int .i64 z3, .int .i64 z4, .int .i64 z5, .int .i64 z6, .int .i64 z7] 99)
  have HUx := below_n4 w (.cells #[.int .i64 fx, .int .i64 fy, .int .i64 fz, .int .i64 dx, .int .i64 dy, .int .i64 dz, .int .i64 pt] 97) (.cells #[.int .i64 bx, .int .i64 by_, .int .i64 bz] 59) (.cells #[.int .i64 x0, .int .i64 x1, .int .i64 x2, .int .i64 x3, .int .i64 x4, .int .i64 x5, .int .i64 x6, .int .i64 x7] 99) (.cells #[.int .i64 z0, .int .i64 z1, .int .i64 z2, .int .i64 z3, .int .i64 z4, .int .i64 z5, .int .i64 z6, .int .i64 z7] 99)
  obtain ⟨y0, hy0⟩ : ∃ y0, (((w.alloc (.cells #[.int .i64 fx, .int .i64 fy, .int .i64 fz, .int .i64 dx, .int .i64 dy, .int .i64 dz, .int .i64 pt] 97)).alloc (.cells #[.int .i64 bx, .int .i64 by_, .int .i64 bz] 59)).alloc (.cells #[.int .i64 x0, .int .i64 x1, .int .i64 x2, .int .i64 x3, .int .i64 x4, .int .i64 x5, .int .i64 x6, .int .i64 x7] 99)).alloc (.cells #[.int .i64 z0, .int .i64 z1, .int .i64 z2, .int .i64 z3, .int .i64 z4, .int .i64 z5, .int .i64 z6, .int .i64 z7] 99) = y0 := ⟨_, rfl⟩
  rw [hy0] at hR HUx ⊢
  clear hy0
  have HU0 := Lib.hid HUx
  clear HUx
  obtain ⟨hr0_0, hr0_1, hr0_2, hr0_3⟩ := hR
  have HWL0 := Lib.hid hr0_0
  have HWZ0 := Lib.hid (show (Try.prog.info? 97).map (·.size) = some (#[.int .i64 fx, .int .i64 fy, .int .i64 fz, .int .i64 dx, .int .i64 dy, .int .i64 dz, .int .i64 pt] : Array Value).size by kernel_rfl)
  go_wp2_with (first | (with_reducible refine wpList_load_row rfl 97 (.tmp 6) rfl (w.heap.size) rfl 97 #[.int .i64 fx, .int .i64 fy, .int .i64 fz, .int .i64 dx, .int .i64 dy, .int .i64 dz, .int .i64 pt] (0, 0) _ HWL0.out Try.underlying97 rfl HWZ0.out ?_))
  clear HWL0 HWZ0
  refine (rto_any _ _ _ _ _ _ _ _ ).mono ?_
  rintro e y1 ⟨rfl, hb1⟩
  have hr1_0 := (hb1.block _ (lt_heap hr0_0)).trans hr0_0
  have hr1_1 := (hb1.block _ (lt_heap hr0_1)).trans hr0_1
  have hr1_2 := (hb1.block _ (lt_heap hr0_2)).trans hr0_2
  have hr1_3 := (hb1.block _ (lt_heap hr0_3)).trans hr0_3
  have HU1 := Lib.hid (HU0.out.trans (hb1.mono HU0.out.size))
  clear hr0_0 hr0_1 hr0_2 hr0_3 HU0
  go_upto_region 2 with fail
  have hb2 := below_n1 y1 (.cells #[.int .i64 fx, .int .i64 fy, .int .i64 fz, .int .i64 dx, .int .i64 dy, .int .i64 dz, .int .i64 pt] 101)
  have hN := heap_alloc_last y1 (.cells #[.int .i64 fx, .int .i64 fy, .int .i64 fz, .int .i64 dx, .int .i64 dy, .int .i64 dz, .int .i64 pt] 101)
  obtain ⟨y2, hy2⟩ : ∃ y, y1.alloc (.cells #[.int .i64 fx, .int .i64 fy, .int .i64 fz, .int .i64 dx, .int .i64 dy, .int .i64 dz, .int .i64 pt] 101) = y := ⟨_, rfl⟩
  have hs2 : y2.heap.size = y1.heap.size + 1 := by rw [← hy2]; simp
  rw [hy2] at hb2 hN ⊢
  clear hy2
  have hl2_0 := lt_heap hr1_0
  have hl2_1 := lt_heap hr1_1
  have hl2_2 := lt_heap hr1_2
  have hl2_3 := lt_heap hr1_3
  have hr2_0 := (hb2.block _ (lt_heap hr1_0)).trans hr1_0
  have hr2_1 := (hb2.block _ (lt_heap hr1_1)).trans hr1_1
  have hr2_2 := (hb2.block _ (lt_heap hr1_2)).trans hr1_2
  have hr2_3 := (hb2.block _ (lt_heap hr1_3)).trans hr1_3
  have HU2 := Lib.hid (HU1.out.trans (hb2.mono HU1.out.size))
  clear hr1_0 hr1_1 hr1_2 hr1_3 HU1
  have hr2_4 := hN
  clear hN
  go_cut [14, 15] (fun s14 s15 wx => ∃ gg gh : Nat, s14 = .pointer (some ⟨gg, 0, none⟩) ∧ s15 = .pointer (some ⟨gh, 0, none⟩) ∧ wx.heap[gg]? = some (.cells #[.int .i64 x0, .int .i64 x1, .int .i64 0, .int .i64 0, .int .i64 0, .int .i64 0, .int .i64 0, .int .i64 0] 104 (0, 0)) ∧ wx.heap[gh]? = some (.cells #[.int .i64 z0, .int .i64 z1, .int .i64 0, .int .i64 0, .int .i64 0, .int .i64 0, .int .i64 0, .int .i64 0] 104 (0, 0)) ∧ wx.heap[w.heap.size]? = some (.cells #[.int .i64 fx, .int .i64 fy, .int .i64 fz, .int .i64 dx, .int .i64 dy, .int .i64 dz, .int .i64 pt] 97 (0, 0)) ∧ wx.heap[w.heap.size + 1]? = some (.cells #[.int .i64 bx, .int .i64 by_, .int .i64 bz] 59 (0, 0)) ∧ wx.heap[w.heap.size + 1 + 1]? = some (.cells #[.int .i64 x0, .int .i64 x1, .int .i64 x2, .int .i64 x3, .int .i64 x4, .int .i64 x5, .int .i64 x6, .int .i64 x7] 99 (0, 0)) ∧ wx.heap[w.heap.size + 1 + 1 + 1]? = some (.cells #[.int .i64 z0, .int .i64 z1, .int .i64 z2, .int .i64 z3, .int .i64 z4, .int .i64 z5, .int .i64 z6, .int .i64 z7] 99 (0, 0)) ∧ wx.heap[y1.heap.size]? = some (.cells #[.int .i64 fx, .int .i64 fy, .int .i64 fz, .int .i64 dx, .int .i64 dy, .int .i64 dz, .int .i64 pt] 101 (0, 0)) ∧ Hid (Below w.heap.size w wx))
  case first =>
    refine wp_region_held_drew (S := fun y => y.heap[w.heap.size]? = some (.cells #[.int .i64 fx, .int .i64 fy, .int .i64 fz, .int .i64 dx, .int .i64 dy, .int .i64 dz, .int .i64 pt] 97 (0, 0)) ∧ y.heap[w.heap.size + 1]? = some (.cells #[.int .i64 bx, .int .i64 by_, .int .i64 bz] 59 (0, 0)) ∧ y.heap[w.heap.size + 1 + 1]? = some (.cells #[.int .i64 x0, .int .i64 x1, .int .i64 x2, .int .i64 x3, .int .i64 x4, .int .i64 x5, .int .i64 x6, .int .i64 x7] 99 (0, 0)) ∧ y.heap[w.heap.size + 1 + 1 + 1]? = some (.cells #[.int .i64 z0, .int .i64 z1, .int .i64 z2, .int .i64 z3, .int .i64 z4, .int .i64 z5, .int .i64 z6, .int .i64 z7] 99 (0, 0)) ∧ y.heap[y1.heap.size]? = some (.cells #[.int .i64 fx, .int .i64 fy, .int .i64 fz, .int .i64 dx, .int .i64 dy, .int .i64 dz, .int .i64 pt] 101 (0, 0))) (by kernel_rfl) (⟨hr2_0, hr2_1, hr2_2, hr2_3, hr2_4⟩) (fun hS0 => ?_)
    obtain ⟨y3, hy3⟩ : ∃ y, y2.drew = y := ⟨_, rfl⟩
    have HU3 := Lib.hid (show Below w.heap.size w y3 by rw [← hy3]; exact HU2.out.drew)
    have hr3_0 : y3.heap[w.heap.size]? = some (.cells #[.int .i64 fx, .int .i64 fy, .int .i64 fz, .int .i64 dx, .int .i64 dy, .int .i64 dz, .int .i64 pt] 97 (0, 0)) := by rw [← hy3]; exact hr2_0
    have hr3_1 : y3.heap[w.heap.size + 1]? = some (.cells #[.int .i64 bx, .int .i64 by_, .int .i64 bz] 59 (0, 0)) := by rw [← hy3]; exact hr2_1
    have hr3_2 : y3.heap[w.heap.size + 1 + 1]? = some (.cells #[.int .i64 x0, .int .i64 x1, .int .i64 x2, .int .i64 x3, .int .i64 x4, .int .i64 x5, .int .i64 x6, .int .i64 x7] 99 (0, 0)) := by rw [← hy3]; exact hr2_2
    have hr3_3 : y3.heap[w.heap.size + 1 + 1 + 1]? = some (.cells #[.int .i64 z0, .int .i64 z1, .int .i64 z2, .int .i64 z3, .int .i64 z4, .int .i64 z5, .int .i64 z6, .int .i64 z7] 99 (0, 0)) := by rw [← hy3]; exact hr2_3
    have hr3_4 : y3.heap[y1.heap.size]? = some (.cells #[.int .i64 fx, .int .i64 fy, .int .i64 fz, .int .i64 dx, .int .i64 dy, .int .i64 dz, .int .i64 pt] 101 (0, 0)) := by rw [← hy3]; exact hr2_4
    rw [hy3] at hS0 ⊢
    clear hy3
    refine wpAnyH_take (i := 0) (v := ?_) rfl (by kernel_rfl) (by kernel_rfl) (by kernel_rfl) (fun _ _ _ h => h) (Or.inl ⟨by kernel_rfl, by (intro wz hSz; go_simp; try with_reducible rfl)⟩) hS0 ?_
    go_simp
    refine wpAnyH_take (i := 1) (v := ?_) rfl (by kernel_rfl) (by kernel_rfl) (by kernel_rfl) (fun _ _ _ h => h) (Or.inl ⟨by kernel_rfl, by (intro wz hSz; have c2_0 := cell_of_row _ _ 0 _ _ _ hSz.2.2.1; have c2_1 := cell_of_row _ _ 1 _ _ _ hSz.2.2.1; have c2_2 := cell_of_row _ _ 2 _ _ _ hSz.2.2.1; have c2_3 := cell_of_row _ _ 3 _ _ _ hSz.2.2.1; have c2_4 := cell_of_row _ _ 4 _ _ _ hSz.2.2.1; have c2_5 := cell_of_row _ _ 5 _ _ _ hSz.2.2.1; have c2_6 := cell_of_row _ _ 6 _ _ _ hSz.2.2.1; have c2_7 := cell_of_row _ _ 7 _ _ _ hSz.2.2.1; have c3_0 := cell_of_row _ _ 0 _ _ _ hSz.2.2.2.1; have c3_1 := cell_of_row _ _ 1 _ _ _ hSz.2.2.2.1; have c3_2 := cell_of_row _ _ 2 _ _ _ hSz.2.2.2.1; have c3_3 := cell_of_row _ _ 3 _ _ _ hSz.2.2.2.1; have c3_4 := cell_of_row _ _ 4 _ _ _ hSz.2.2.2.1; have c3_5 := cell_of_row _ _ 5 _ _ _ hSz.2.2.2.1; have c3_6 := cell_of_row _ _ 6 _ _ _ hSz.2.2.2.1; have c3_7 := cell_of_row _ _ 7 _ _ _ hSz.2.2.2.1; simp at c2_0 c2_1 c2_2 c2_3 c2_4 c2_5 c2_6 c2_7 c3_0 c3_1 c3_2 c3_3 c3_4 c3_5 c3_6 c3_7; go_simp; try with_reducible rfl)⟩) hS0 ?_
    go_simp
    refine wpAnyH_take (i := 2) (v := ?_) rfl (by kernel_rfl) (by kernel_rfl) (by kernel_rfl) (fun _ _ _ h => h) (Or.inl ⟨by kernel_rfl, by (intro wz hSz; go_simp; try with_reducible rfl)⟩) hS0 ?_
    go_simp
    refine wpAnyH_take (i := 3) (v := ?_) rfl (by kernel_rfl) (by kernel_rfl) (by kernel_rfl) (fun _ _ _ h => h) (Or.inl ⟨by kernel_rfl, by (intro wz hSz; have c2_0 := cell_of_row _ _ 0 _ _ _ hSz.2.2.1; have c2_1 := cell_of_row _ _ 1 _ _ _ hSz.2.2.1; have c2_2 := cell_of_row _ _ 2 _ _ _ hSz.2.2.1; have c2_3 := cell_of_row _ _ 3 _ _ _ hSz.2.2.1; have c2_4 := cell_of_row _ _ 4 _ _ _ hSz.2.2.1; have c2_5 := cell_of_row _ _ 5 _ _ _ hSz.2.2.1; have c2_6 := cell_of_row _ _ 6 _ _ _ hSz.2.2.1; have c2_7 := cell_of_row _ _ 7 _ _ _ hSz.2.2.1; have c3_0 := cell_of_row _ _ 0 _ _ _ hSz.2.2.2.1; have c3_1 := cell_of_row _ _ 1 _ _ _ hSz.2.2.2.1; have c3_2 := cell_of_row _ _ 2 _ _ _ hSz.2.2.2.1; have c3_3 := cell_of_row _ _ 3 _ _ _ hSz.2.2.2.1; have c3_4 := cell_of_row _ _ 4 _ _ _ hSz.2.2.2.1; have c3_5 := cell_of_row _ _ 5 _ _ _ hSz.2.2.2.1; have c3_6 := cell_of_row _ _ 6 _ _ _ hSz.2.2.2.1; have c3_7 := cell_of_row _ _ 7 _ _ _ hSz.2.2.2.1; simp at c2_0 c2_1 c2_2 c2_3 c2_4 c2_5 c2_6 c2_7 c3_0 c3_1 c3_2 c3_3 c3_4 c3_5 c3_6 c3_7; go_simp; try with_reducible rfl)⟩) hS0 ?_
    go_simp
    refine wpAnyH_take (i := 4) (v := ?_) rfl (by kernel_rfl) (by kernel_rfl) (by kernel_rfl) (fun _ _ _ h => h) (Or.inl ⟨by kernel_rfl, by (intro wz hSz; go_simp; try with_reducible rfl)⟩) hS0 ?_
    go_simp
    refine wpAnyH_take (i := 5) (v := ?_) rfl (by kernel_rfl) (by kernel_rfl) (by kernel_rfl) (fun _ _ _ h => h) (Or.inl ⟨by kernel_rfl, by (intro wz hSz; go_simp; try with_reducible rfl)⟩) hS0 ?_
    go_simp
    refine wpAnyH_take (i := 6) (v := ?_) rfl (by kernel_rfl) (by kernel_rfl) (by kernel_rfl) (fun _ _ _ h => h) (Or.inl ⟨by kernel_rfl, by (intro wz hSz; have c2_0 := cell_of_row _ _ 0 _ _ _ hSz.2.2.1; have c2_1 := cell_of_row _ _ 1 _ _ _ hSz.2.2.1; have c2_2 := cell_of_row _ _ 2 _ _ _ hSz.2.2.1; have c2_3 := cell_of_row _ _ 3 _ _ _ hSz.2.2.1; have c2_4 := cell_of_row _ _ 4 _ _ _ hSz.2.2.1; have c2_5 := cell_of_row _ _ 5 _ _ _ hSz.2.2.1; have c2_6 := cell_of_row _ _ 6 _ _ _ hSz.2.2.1; have c2_7 := cell_of_row _ _ 7 _ _ _ hSz.2.2.1; have c3_0 := cell_of_row _ _ 0 _ _ _ hSz.2.2.2.1; have c3_1 := cell_of_row _ _ 1 _ _ _ hSz.2.2.2.1; have c3_2 := cell_of_row _ _ 2 _ _ _ hSz.2.2.2.1; have c3_3 := cell_of_row _ _ 3 _ _ _ hSz.2.2.2.1; have c3_4 := cell_of_row _ _ 4 _ _ _ hSz.2.2.2.1; have c3_5 := cell_of_row _ _ 5 _ _ _ hSz.2.2.2.1; have c3_6 := cell_of_row _ _ 6 _ _ _ hSz.2.2.2.1; have c3_7 := cell_of_row _ _ 7 _ _ _ hSz.2.2.2.1; simp at c2_0 c2_1 c2_2 c2_3 c2_4 c2_5 c2_6 c2_7 c3_0 c3_1 c3_2 c3_3 c3_4 c3_5 c3_6 c3_7; go_simp; try with_reducible rfl)⟩) hS0 ?_
    go_simp
    refine wpAnyH_take (i := 7) (v := ?_) rfl (by kernel_rfl) (by kernel_rfl) (by kernel_rfl) (fun _ _ _ h => h) (Or.inl ⟨by kernel_rfl, by (intro wz hSz; go_simp; try with_reducible rfl)⟩) hS0 ?_
    go_simp
    refine wpAnyH_take (i := 8) (v := ?_) rfl (by kernel_rfl) (by kernel_rfl) (by kernel_rfl) (fun _ _ _ h => h) (Or.inl ⟨by kernel_rfl, by (intro wz hSz; have c2_0 := cell_of_row _ _ 0 _ _ _ hSz.2.2.1; have c2_1 := cell_of_row _ _ 1 _ _ _ hSz.2.2.1; have c2_2 := cell_of_row _ _ 2 _ _ _ hSz.2.2.1; have c2_3 := cell_of_row _ _ 3 _ _ _ hSz.2.2.1; have c2_4 := cell_of_row _ _ 4 _ _ _ hSz.2.2.1; have c2_5 := cell_of_row _ _ 5 _ _ _ hSz.2.2.1; have c2_6 := cell_of_row _ _ 6 _ _ _ hSz.2.2.1; have c2_7 := cell_of_row _ _ 7 _ _ _ hSz.2.2.1; have c3_0 := cell_of_row _ _ 0 _ _ _ hSz.2.2.2.1; have c3_1 := cell_of_row _ _ 1 _ _ _ hSz.2.2.2.1; have c3_2 := cell_of_row _ _ 2 _ _ _ hSz.2.2.2.1; have c3_3 := cell_of_row _ _ 3 _ _ _ hSz.2.2.2.1; have c3_4 := cell_of_row _ _ 4 _ _ _ hSz.2.2.2.1; have c3_5 := cell_of_row _ _ 5 _ _ _ hSz.2.2.2.1; have c3_6 := cell_of_row _ _ 6 _ _ _ hSz.2.2.2.1; have c3_7 := cell_of_row _ _ 7 _ _ _ hSz.2.2.2.1; simp at c2_0 c2_1 c2_2 c2_3 c2_4 c2_5 c2_6 c2_7 c3_0 c3_1 c3_2 c3_3 c3_4 c3_5 c3_6 c3_7; go_simp; try with_reducible rfl)⟩) hS0 ?_
    go_simp
    refine wpAnyH_take (i := 9) (v := ?_) rfl (by kernel_rfl) (by kernel_rfl) (by kernel_rfl) (fun _ _ _ h => h) (Or.inl ⟨by kernel_rfl, by (intro wz hSz; go_simp; try with_reducible rfl)⟩) hS0 ?_
    go_simp
    refine wpAnyH_ready (rs := [10, 11]) (by kernel_rfl) (by simp) ?_
    refine AllReadyH.cons rfl (fun K hK => ?_) (AllReadyH.cons rfl (fun K hK => ?_) AllReadyH.nil)
    · skip
      go_simp
      have hb4 := below_n1 y3 (.cells #[.int .i64 0, .int .i64 0, .int .i64 0, .int .i64 0, .int .i64 0, .int .i64 0, .int .i64 0, .int .i64 0] 104)
      have hN := heap_alloc_last y3 (.cells #[.int .i64 0, .int .i64 0, .int .i64 0, .int .i64 0, .int .i64 0, .int .i64 0, .int .i64 0, .int .i64 0] 104)
      obtain ⟨y4, hy4⟩ : ∃ y, y3.alloc (.cells #[.int .i64 0, .int .i64 0, .int .i64 0, .int .i64 0, .int .i64 0, .int .i64 0, .int .i64 0, .int .i64 0] 104) = y := ⟨_, rfl⟩
      rw [hy4] at hb4 hN ⊢
      clear hy4
      have hl4_0 := lt_heap hr3_0
      have hr4_0 := (hb4.block _ (lt_heap hr3_0)).trans hr3_0
      have hl4_1 := lt_heap hr3_1
      have hr4_1 := (hb4.block _ (lt_heap hr3_1)).trans hr3_1
      have hl4_2 := lt_heap hr3_2
      have hr4_2 := (hb4.block _ (lt_heap hr3_2)).trans hr3_2
      have hl4_3 := lt_heap hr3_3
      have hr4_3 := (hb4.block _ (lt_heap hr3_3)).trans hr3_3
      have hl4_4 := lt_heap hr3_4
      have hr4_4 := (hb4.block _ (lt_heap hr3_4)).trans hr3_4
      have hr4_5 := hN
      clear hN
      have HU4 := Lib.hid (HU3.out.trans (hb4.mono HU3.out.size))
      refine hK.out _ _ (⟨(hb4.block _ (lt_heap hS0.1)).trans hS0.1, (hb4.block _ (lt_heap hS0.2.1)).trans hS0.2.1, (hb4.block _ (lt_heap hS0.2.2.1)).trans hS0.2.2.1, (hb4.block _ (lt_heap hS0.2.2.2.1)).trans hS0.2.2.2.1, (hb4.block _ (lt_heap hS0.2.2.2.2)).trans hS0.2.2.2.2⟩) (fun hS4a => ?_)
      clear hK K
      refine wpAnyH_ready (rs := [11]) (by kernel_rfl) (by simp) ?_
      refine AllReadyH.cons rfl (fun K hK => ?_) AllReadyH.nil
      go_simp
      have hb5 := below_n1 y4 (.cells #[.int .i64 0, .int .i64 0, .int .i64 0, .int .i64 0, .int .i64 0, .int .i64 0, .int .i64 0, .int .i64 0] 104)
      have hN := heap_alloc_last y4 (.cells #[.int .i64 0, .int .i64 0, .int .i64 0, .int .i64 0, .int .i64 0, .int .i64 0, .int .i64 0, .int .i64 0] 104)
      obtain ⟨y5, hy5⟩ : ∃ y, y4.alloc (.cells #[.int .i64 0, .int .i64 0, .int .i64 0, .int .i64 0, .int .i64 0, .int .i64 0, .int .i64 0, .int .i64 0] 104) = y := ⟨_, rfl⟩
      rw [hy5] at hb5 hN ⊢
      clear hy5
      have hl5_0 := lt_heap hr4_0
      have hr5_0 := (hb5.block _ (lt_heap hr4_0)).trans hr4_0
      have hl5_1 := lt_heap hr4_1
      have hr5_1 := (hb5.block _ (lt_heap hr4_1)).trans hr4_1
      have hl5_2 := lt_heap hr4_2
      have hr5_2 := (hb5.block _ (lt_heap hr4_2)).trans hr4_2
      have hl5_3 := lt_heap hr4_3
      have hr5_3 := (hb5.block _ (lt_heap hr4_3)).trans hr4_3
      have hl5_4 := lt_heap hr4_4
      have hr5_4 := (hb5.block _ (lt_heap hr4_4)).trans hr4_4
      have hl5_5 := lt_heap hr4_5
      have hr5_5 := (hb5.block _ (lt_heap hr4_5)).trans hr4_5
      have hr5_6 := hN
      clear hN
      have HU5 := Lib.hid (HU4.out.trans (hb5.mono HU4.out.size))
      refine hK.out _ _ (⟨(hb5.block _ (lt_heap hS4a.1)).trans hS4a.1, (hb5.block _ (lt_heap hS4a.2.1)).trans hS4a.2.1, (hb5.block _ (lt_heap hS4a.2.2.1)).trans hS4a.2.2.1, (hb5.block _ (lt_heap hS4a.2.2.2.1)).trans hS4a.2.2.2.1, (hb5.block _ (lt_heap hS4a.2.2.2.2)).trans hS4a.2.2.2.2⟩) (fun hS5a => ?_)
      clear hK K
      refine wpAnyH_ready (rs := [12]) (by kernel_rfl) (by simp) ?_
      refine AllReadyH.cons rfl (fun K hK => ?_) AllReadyH.nil
      refine step_store_row rfl 104 (.tmp 14) (.tmp 22) rfl #[.int .i64 0, .int .i64 0, .int .i64 0, .int .i64 0, .int .i64 0, .int .i64 0, .int .i64 0, .int .i64 0] #[.int .i64 x0, .int .i64 x1, .int .i64 0, .int .i64 0, .int .i64 0, .int .i64 0, .int .i64 0, .int .i64 0] _ 104 hr5_5 rfl (by first | rfl | (go_simp; done) | (go_simp; rfl)) (by kernel_rfl) rfl (by simp [Value.oneCell']) ?_
      have hN := setRow_heap _ (y3.heap.size) _ #[.int .i64 x0, .int .i64 x1, .int .i64 0, .int .i64 0, .int .i64 0, .int .i64 0, .int .i64 0, .int .i64 0] _ _ hr5_5
      have hsz := HU5.out.size
      have HUx := below_setRow (g := y3.heap.size) HU5.out (by first | omega | (simp at *; omega)) #[.int .i64 x0, .int .i64 x1, .int .i64 0, .int .i64 0, .int .i64 0, .int .i64 0, .int .i64 0, .int .i64 0]
      obtain ⟨y6, hy6⟩ : ∃ y, y5.setRow (y3.heap.size) #[.int .i64 x0, .int .i64 x1, .int .i64 0, .int .i64 0, .int .i64 0, .int .i64 0, .int .i64 0, .int .i64 0] = y := ⟨_, rfl⟩
      have hO : ∀ k, k ≠ y3.heap.size → y6.heap[k]? = y5.heap[k]? := fun k hk => by rw [← hy6]; exact setRow_other _ _ _ _ hk
      rw [hy6] at hN HUx ⊢
      clear hy6
      have HU6 := Lib.hid HUx
      clear HUx
      have hr6_0 := (hO _ (by omega)).trans hr5_0
      have hr6_1 := (hO _ (by omega)).trans hr5_1
      have hr6_2 := (hO _ (by omega)).trans hr5_2
      have hr6_3 := (hO _ (by omega)).trans hr5_3
      have hr6_4 := (hO _ (by omega)).trans hr5_4
      have hr6_5 := hN
      have hr6_6 := (hO _ (by omega)).trans hr5_6
      clear hN
      refine hK.out _ _ (⟨(hO _ (by omega)).trans hS5a.1, (hO _ (by omega)).trans hS5a.2.1, (hO _ (by omega)).trans hS5a.2.2.1, (hO _ (by omega)).trans hS5a.2.2.2.1, (hO _ (by omega)).trans hS5a.2.2.2.2⟩) (fun hS6s => ?_)
      clear hK K
      refine wpAnyH_ready (rs := [13]) (by kernel_rfl) (by simp) ?_
      refine AllReadyH.cons rfl (fun K hK => ?_) AllReadyH.nil
      refine step_store_row rfl 104 (.tmp 15) (.tmp 27) rfl #[.int .i64 0, .int .i64 0, .int .i64 0, .int .i64 0, .int .i64 0, .int .i64 0, .int .i64 0, .int .i64 0] #[.int .i64 z0, .int .i64 z1, .int .i64 0, .int .i64 0, .int .i64 0, .int .i64 0, .int .i64 0, .int .i64 0] _ 104 hr6_6 rfl (by first | rfl | (go_simp; done) | (go_simp; rfl)) (by kernel_rfl) rfl (by simp [Value.oneCell']) ?_
      have hN := setRow_heap _ (y4.heap.size) _ #[.int .i64 z0, .int .i64 z1, .int .i64 0, .int .i64 0, .int .i64 0, .int .i64 0, .int .i64 0, .int .i64 0] _ _ hr6_6
      have hsz := HU6.out.size
      have HUx := below_setRow (g := y4.heap.size) HU6.out (by first | omega | (simp at *; omega)) #[.int .i64 z0, .int .i64 z1, .int .i64 0, .int .i64 0, .int .i64 0, .int .i64 0, .int .i64 0, .int .i64 0]
      obtain ⟨y7, hy7⟩ : ∃ y, y6.setRow (y4.heap.size) #[.int .i64 z0, .int .i64 z1, .int .i64 0, .int .i64 0, .int .i64 0, .int .i64 0, .int .i64 0, .int .i64 0] = y := ⟨_, rfl⟩
      have hO : ∀ k, k ≠ y4.heap.size → y7.heap[k]? = y6.heap[k]? := fun k hk => by rw [← hy7]; exact setRow_other _ _ _ _ hk
      rw [hy7] at hN HUx ⊢
      clear hy7
      have HU7 := Lib.hid HUx
      clear HUx
      have hr7_0 := (hO _ (by omega)).trans hr6_0
      have hr7_1 := (hO _ (by omega)).trans hr6_1
      have hr7_2 := (hO _ (by omega)).trans hr6_2
      have hr7_3 := (hO _ (by omega)).trans hr6_3
      have hr7_4 := (hO _ (by omega)).trans hr6_4
      have hr7_5 := (hO _ (by omega)).trans hr6_5
      have hr7_6 := hN
      clear hN
      refine hK.out _ _ (⟨(hO _ (by omega)).trans hS6s.1, (hO _ (by omega)).trans hS6s.2.1, (hO _ (by omega)).trans hS6s.2.2.1, (hO _ (by omega)).trans hS6s.2.2.2.1, (hO _ (by omega)).trans hS6s.2.2.2.2⟩) (fun hS7s => ?_)
      clear hK K
      refine wpAnyH_done (by kernel_rfl) ?_ _
      go_wp2_with fail
      go_meet
      exact ⟨_, _, rfl, rfl, hr7_5, hr7_6, hr7_0, hr7_1, hr7_2, hr7_3, hr7_4, HU7⟩
    · skip
      go_simp
      have hb4 := below_n1 y3 (.cells #[.int .i64 0, .int .i64 0, .int .i64 0, .int .i64 0, .int .i64 0, .int .i64 0, .int .i64 0, .int .i64 0] 104)
      have hN := heap_alloc_last y3 (.cells #[.int .i64 0, .int .i64 0, .int .i64 0, .int .i64 0, .int .i64 0, .int .i64 0, .int .i64 0, .int .i64 0] 104)
      obtain ⟨y4, hy4⟩ : ∃ y, y3.alloc (.cells #[.int .i64 0, .int .i64 0, .int .i64 0, .int .i64 0, .int .i64 0, .int .i64 0, .int .i64 0, .int .i64 0] 104) = y := ⟨_, rfl⟩
      rw [hy4] at hb4 hN ⊢
      clear hy4
      have hl4_0 := lt_heap hr3_0
      have hr4_0 := (hb4.block _ (lt_heap hr3_0)).trans hr3_0
      have hl4_1 := lt_heap hr3_1
      have hr4_1 := (hb4.block _ (lt_heap hr3_1)).trans hr3_1
      have hl4_2 := lt_heap hr3_2
      have hr4_2 := (hb4.block _ (lt_heap hr3_2)).trans hr3_2
      have hl4_3 := lt_heap hr3_3
      have hr4_3 := (hb4.block _ (lt_heap hr3_3)).trans hr3_3
      have hl4_4 := lt_heap hr3_4
      have hr4_4 := (hb4.block _ (lt_heap hr3_4)).trans hr3_4
      have hr4_5 := hN
      clear hN
      have HU4 := Lib.hid (HU3.out.trans (hb4.mono HU3.out.size))
      refine hK.out _ _ (⟨(hb4.block _ (lt_heap hS0.1)).trans hS0.1, (hb4.block _ (lt_heap hS0.2.1)).trans hS0.2.1, (hb4.block _ (lt_heap hS0.2.2.1)).trans hS0.2.2.1, (hb4.block _ (lt_heap hS0.2.2.2.1)).trans hS0.2.2.2.1, (hb4.block _ (lt_heap hS0.2.2.2.2)).trans hS0.2.2.2.2⟩) (fun hS4a => ?_)
      clear hK K
      refine wpAnyH_ready (rs := [10]) (by kernel_rfl) (by simp) ?_
      refine AllReadyH.cons rfl (fun K hK => ?_) AllReadyH.nil
      go_simp
      have hb5 := below_n1 y4 (.cells #[.int .i64 0, .int .i64 0, .int .i64 0, .int .i64 0, .int .i64 0, .int .i64 0, .int .i64 0, .int .i64 0] 104)
      have hN := heap_alloc_last y4 (.cells #[.int .i64 0, .int .i64 0, .int .i64 0, .int .i64 0, .int .i64 0, .int .i64 0, .int .i64 0, .int .i64 0] 104)
      obtain ⟨y5, hy5⟩ : ∃ y, y4.alloc (.cells #[.int .i64 0, .int .i64 0, .int .i64 0, .int .i64 0, .int .i64 0, .int .i64 0, .int .i64 0, .int .i64 0] 104) = y := ⟨_, rfl⟩
      rw [hy5] at hb5 hN ⊢
      clear hy5
      have hl5_0 := lt_heap hr4_0
      have hr5_0 := (hb5.block _ (lt_heap hr4_0)).trans hr4_0
      have hl5_1 := lt_heap hr4_1
      have hr5_1 := (hb5.block _ (lt_heap hr4_1)).trans hr4_1
      have hl5_2 := lt_heap hr4_2
      have hr5_2 := (hb5.block _ (lt_heap hr4_2)).trans hr4_2
      have hl5_3 := lt_heap hr4_3
      have hr5_3 := (hb5.block _ (lt_heap hr4_3)).trans hr4_3
      have hl5_4 := lt_heap hr4_4
      have hr5_4 := (hb5.block _ (lt_heap hr4_4)).trans hr4_4
      have hl5_5 := lt_heap hr4_5
      have hr5_5 := (hb5.block _ (lt_heap hr4_5)).trans hr4_5
      have hr5_6 := hN
      clear hN
      have HU5 := Lib.hid (HU4.out.trans (hb5.mono HU4.out.size))
      refine hK.out _ _ (⟨(hb5.block _ (lt_heap hS4a.1)).trans hS4a.1, (hb5.block _ (lt_heap hS4a.2.1)).trans hS4a.2.1, (hb5.block _ (lt_heap hS4a.2.2.1)).trans hS4a.2.2.1, (hb5.block _ (lt_heap hS4a.2.2.2.1)).trans hS4a.2.2.2.1, (hb5.block _ (lt_heap hS4a.2.2.2.2)).trans hS4a.2.2.2.2⟩) (fun hS5a => ?_)
      clear hK K
      refine wpAnyH_ready (rs := [12]) (by kernel_rfl) (by simp) ?_
      refine AllReadyH.cons rfl (fun K hK => ?_) AllReadyH.nil
      refine step_store_row rfl 104 (.tmp 14) (.tmp 22) rfl #[.int .i64 0, .int .i64 0, .int .i64 0, .int .i64 0, .int .i64 0, .int .i64 0, .int .i64 0, .int .i64 0] #[.int .i64 x0, .int .i64 x1, .int .i64 0, .int .i64 0, .int .i64 0, .int .i64 0, .int .i64 0, .int .i64 0] _ 104 hr5_6 rfl (by first | rfl | (go_simp; done) | (go_simp; rfl)) (by kernel_rfl) rfl (by simp [Value.oneCell']) ?_
      have hN := setRow_heap _ (y4.heap.size) _ #[.int .i64 x0, .int .i64 x1, .int .i64 0, .int .i64 0, .int .i64 0, .int .i64 0, .int .i64 0, .int .i64 0] _ _ hr5_6
      have hsz := HU5.out.size
      have HUx := below_setRow (g := y4.heap.size) HU5.out (by first | omega | (simp at *; omega)) #[.int .i64 x0, .int .i64 x1, .int .i64 0, .int .i64 0, .int .i64 0, .int .i64 0, .int .i64 0, .int .i64 0]
      obtain ⟨y6, hy6⟩ : ∃ y, y5.setRow (y4.heap.size) #[.int .i64 x0, .int .i64 x1, .int .i64 0, .int .i64 0, .int .i64 0, .int .i64 0, .int .i64 0, .int .i64 0] = y := ⟨_, rfl⟩
      have hO : ∀ k, k ≠ y4.heap.size → y6.heap[k]? = y5.heap[k]? := fun k hk => by rw [← hy6]; exact setRow_other _ _ _ _ hk
      rw [hy6] at hN HUx ⊢
      clear hy6
      have HU6 := Lib.hid HUx
      clear HUx
      have hr6_0 := (hO _ (by omega)).trans hr5_0
      have hr6_1 := (hO _ (by omega)).trans hr5_1
      have hr6_2 := (hO _ (by omega)).trans hr5_2
      have hr6_3 := (hO _ (by omega)).trans hr5_3
      have hr6_4 := (hO _ (by omega)).trans hr5_4
      have hr6_5 := (hO _ (by omega)).trans hr5_5
      have hr6_6 := hN
      clear hN
      refine hK.out _ _ (⟨(hO _ (by omega)).trans hS5a.1, (hO _ (by omega)).trans hS5a.2.1, (hO _ (by omega)).trans hS5a.2.2.1, (hO _ (by omega)).trans hS5a.2.2.2.1, (hO _ (by omega)).trans hS5a.2.2.2.2⟩) (fun hS6s => ?_)
      clear hK K
      refine wpAnyH_ready (rs := [13]) (by kernel_rfl) (by simp) ?_
      refine AllReadyH.cons rfl (fun K hK => ?_) AllReadyH.nil
      refine step_store_row rfl 104 (.tmp 15) (.tmp 27) rfl #[.int .i64 0, .int .i64 0, .int .i64 0, .int .i64 0, .int .i64 0, .int .i64 0, .int .i64 0, .int .i64 0] #[.int .i64 z0, .int .i64 z1, .int .i64 0, .int .i64 0, .int .i64 0, .int .i64 0, .int .i64 0, .int .i64 0] _ 104 hr6_5 rfl (by first | rfl | (go_simp; done) | (go_simp; rfl)) (by kernel_rfl) rfl (by simp [Value.oneCell']) ?_
      have hN := setRow_heap _ (y3.heap.size) _ #[.int .i64 z0, .int .i64 z1, .int .i64 0, .int .i64 0, .int .i64 0, .int .i64 0, .int .i64 0, .int .i64 0] _ _ hr6_5
      have hsz := HU6.out.size
      have HUx := below_setRow (g := y3.heap.size) HU6.out (by first | omega | (simp at *; omega)) #[.int .i64 z0, .int .i64 z1, .int .i64 0, .int .i64 0, .int .i64 0, .int .i64 0, .int .i64 0, .int .i64 0]
      obtain ⟨y7, hy7⟩ : ∃ y, y6.setRow (y3.heap.size) #[.int .i64 z0, .int .i64 z1, .int .i64 0, .int .i64 0, .int .i64 0, .int .i64 0, .int .i64 0, .int .i64 0] = y := ⟨_, rfl⟩
      have hO : ∀ k, k ≠ y3.heap.size → y7.heap[k]? = y6.heap[k]? := fun k hk => by rw [← hy7]; exact setRow_other _ _ _ _ hk
      rw [hy7] at hN HUx ⊢
      clear hy7
      have HU7 := Lib.hid HUx
      clear HUx
      have hr7_0 := (hO _ (by omega)).trans hr6_0
      have hr7_1 := (hO _ (by omega)).trans hr6_1
      have hr7_2 := (hO _ (by omega)).trans hr6_2
      have hr7_3 := (hO _ (by omega)).trans hr6_3
      have hr7_4 := (hO _ (by omega)).trans hr6_4
      have hr7_5 := hN
      have hr7_6 := (hO _ (by omega)).trans hr6_6
      clear hN
      refine hK.out _ _ (⟨(hO _ (by omega)).trans hS6s.1, (hO _ (by omega)).trans hS6s.2.1, (hO _ (by omega)).trans hS6s.2.2.1, (hO _ (by omega)).trans hS6s.2.2.2.1, (hO _ (by omega)).trans hS6s.2.2.2.2⟩) (fun hS7s => ?_)
      clear hK K
      refine wpAnyH_done (by kernel_rfl) ?_ _
      go_wp2_with fail
      go_meet
      exact ⟨_, _, rfl, rfl, hr7_6, hr7_5, hr7_0, hr7_1, hr7_2, hr7_3, hr7_4, HU7⟩
  case rest =>
    obtain ⟨gg, gh, rfl, rfl, hr9_5, hr9_6, hr9_0, hr9_1, hr9_2, hr9_3, hr9_4, HU9⟩ := hcut
    rename World => y9
    go_upto_region 3 with fail
    refine wp_region_held_drew (S := fun y => y.heap[w.heap.size]? = some (.cells #[.int .i64 fx, .int .i64 fy, .int .i64 fz, .int .i64 dx, .int .i64 dy, .int .i64 dz, .int .i64 pt] 97 (0, 0)) ∧ y.heap[w.heap.size + 1]? = some (.cells #[.int .i64 bx, .int .i64 by_, .int .i64 bz] 59 (0, 0)) ∧ y.heap[w.heap.size + 1 + 1]? = some (.cells #[.int .i64 x0, .int .i64 x1, .int .i64 x2, .int .i64 x3, .int .i64 x4, .int .i64 x5, .int .i64 x6, .int .i64 x7] 99 (0, 0)) ∧ y.heap[w.heap.size + 1 + 1 + 1]? = some (.cells #[.int .i64 z0, .int .i64 z1, .int .i64 z2, .int .i64 z3, .int .i64 z4, .int .i64 z5, .int .i64 z6, .int .i64 z7] 99 (0, 0)) ∧ y.heap[y1.heap.size]? = some (.cells #[.int .i64 fx, .int .i64 fy, .int .i64 fz, .int .i64 dx, .int .i64 dy, .int .i64 dz, .int .i64 pt] 101 (0, 0)) ∧ y.heap[gg]? = some (.cells #[.int .i64 x0, .int .i64 x1, .int .i64 0, .int .i64 0, .int .i64 0, .int .i64 0, .int .i64 0, .int .i64 0] 104 (0, 0)) ∧ y.heap[gh]? = some (.cells #[.int .i64 z0, .int .i64 z1, .int .i64 0, .int .i64 0, .int .i64 0, .int .i64 0, .int .i64 0, .int .i64 0] 104 (0, 0))) (by kernel_rfl) (⟨hr9_0, hr9_1, hr9_2, hr9_3, hr9_4, hr9_5, hr9_6⟩) (fun hS0 => ?_)
    obtain ⟨y10, hy10⟩ : ∃ y, y9.drew = y := ⟨_, rfl⟩
    have HU10 := Lib.hid (show Below w.heap.size w y10 by rw [← hy10]; exact HU9.out.drew)
    have hr10_0 : y10.heap[w.heap.size]? = some (.cells #[.int .i64 fx, .int .i64 fy, .int .i64 fz, .int .i64 dx, .int .i64 dy, .int .i64 dz, .int .i64 pt] 97 (0, 0)) := by rw [← hy10]; exact hr9_0
    have hr10_1 : y10.heap[w.heap.size + 1]? = some (.cells #[.int .i64 bx, .int .i64 by_, .int .i64 bz] 59 (0, 0)) := by rw [← hy10]; exact hr9_1
    have hr10_2 : y10.heap[w.heap.size + 1 + 1]? = some (.cells #[.int .i64 x0, .int .i64 x1, .int .i64 x2, .int .i64 x3, .int .i64 x4, .int .i64 x5, .int .i64 x6, .int .i64 x7] 99 (0, 0)) := by rw [← hy10]; exact hr9_2
    have hr10_3 : y10.heap[w.heap.size + 1 + 1 + 1]? = some (.cells #[.int .i64 z0, .int .i64 z1, .int .i64 z2, .int .i64 z3, .int .i64 z4, .int .i64 z5, .int .i64 z6, .int .i64 z7] 99 (0, 0)) := by rw [← hy10]; exact hr9_3
    have hr10_4 : y10.heap[y1.heap.size]? = some (.cells #[.int .i64 fx, .int .i64 fy, .int .i64 fz, .int .i64 dx, .int .i64 dy, .int .i64 dz, .int .i64 pt] 101 (0, 0)) := by rw [← hy10]; exact hr9_4
    have hr10_5 : y10.heap[gg]? = some (.cells #[.int .i64 x0, .int .i64 x1, .int .i64 0, .int .i64 0, .int .i64 0, .int .i64 0, .int .i64 0, .int .i64 0] 104 (0, 0)) := by rw [← hy10]; exact hr9_5
    have hr10_6 : y10.heap[gh]? = some (.cells #[.int .i64 z0, .int .i64 z1, .int .i64 0, .int .i64 0, .int .i64 0, .int .i64 0, .int .i64 0, .int .i64 0] 104 (0, 0)) := by rw [← hy10]; exact hr9_6
    rw [hy10] at hS0 ⊢
    clear hy10
    refine wpAnyH_ready (rs := [0]) (by kernel_rfl) (by simp) ?_
    refine AllReadyH.cons rfl (fun K hK => ?_) AllReadyH.nil
    go_simp
    go_wp2_with (go_at_call 29; refine (awake_any12 _).mono ?_; rintro e y11 ⟨rfl, hb11⟩)
    have hr11_0 := (hb11.block _ (lt_heap hr10_0)).trans hr10_0
    have hr11_1 := (hb11.block _ (lt_heap hr10_1)).trans hr10_1
    have hr11_2 := (hb11.block _ (lt_heap hr10_2)).trans hr10_2
    have hr11_3 := (hb11.block _ (lt_heap hr10_3)).trans hr10_3
    have hr11_4 := (hb11.block _ (lt_heap hr10_4)).trans hr10_4
    have hr11_5 := (hb11.block _ (lt_heap hr10_5)).trans hr10_5
    have hr11_6 := (hb11.block _ (lt_heap hr10_6)).trans hr10_6
    have HU11 := Lib.hid (HU10.out.trans (hb11.mono HU10.out.size))
    refine hK.out _ _ (⟨(hb11.block _ (lt_heap hS0.1)).trans hS0.1, (hb11.block _ (lt_heap hS0.2.1)).trans hS0.2.1, (hb11.block _ (lt_heap hS0.2.2.1)).trans hS0.2.2.1, (hb11.block _ (lt_heap hS0.2.2.2.1)).trans hS0.2.2.2.1, (hb11.block _ (lt_heap hS0.2.2.2.2.1)).trans hS0.2.2.2.2.1, (hb11.block _ (lt_heap hS0.2.2.2.2.2.1)).trans hS0.2.2.2.2.2.1, (hb11.block _ (lt_heap hS0.2.2.2.2.2.2)).trans hS0.2.2.2.2.2.2⟩) (fun hS11c => ?_)
    clear hK K
    refine wpAnyH_take (i := 1) (v := ?_) rfl (by kernel_rfl) (by kernel_rfl) (by kernel_rfl) (fun _ _ _ h => h) (Or.inl ⟨by kernel_rfl, by (intro wz hSz; go_simp; try with_reducible rfl)⟩) hS11c ?_
    go_simp
    refine wpAnyH_take (i := 2) (v := .agg #[.int .i64 fx, .int .i64 fy, .int .i64 fz, .int .i64 dx, .int .i64 dy, .int .i64 dz, .int .i64 pt]) rfl (by kernel_rfl) (by kernel_rfl) (by kernel_rfl) (fun _ _ _ h => h) (Lr.yieldsIf_load_row (by kernel_rfl) 101 (.tmp 13) rfl (y1.heap.size) rfl 101 #[.int .i64 fx, .int .i64 fy, .int .i64 fz, .int .i64 dx, .int .i64 dy, .int .i64 dz, .int .i64 pt] _ (fun yy hh => hh.2.2.2.2.1) Try.underlying101 rfl (by kernel_rfl)) hS11c ?_
    go_simp
    refine wpAnyH_take (i := 3) (v := ?_) rfl (by kernel_rfl) (by kernel_rfl) (by kernel_rfl) (fun _ _ _ h => h) (Or.inl ⟨by kernel_rfl, by (intro wz hSz; go_simp; try with_reducible rfl)⟩) hS11c ?_
    go_simp
    refine wpAnyH_take (i := 6) (v := .agg #[.int .i64 fx, .int .i64 fy, .int .i64 fz, .int .i64 dx, .int .i64 dy, .int .i64 dz, .int .i64 pt]) rfl (by kernel_rfl) (by kernel_rfl) (by kernel_rfl) (fun _ _ _ h => h) (Lr.yieldsIf_load_row (by kernel_rfl) 97 (.tmp 6) rfl (w.heap.size) rfl 97 #[.int .i64 fx, .int .i64 fy, .int .i64 fz, .int .i64 dx, .int .i64 dy, .int .i64 dz, .int .i64 pt] _ (fun yy hh => hh.1) Try.underlying97 rfl (by kernel_rfl)) hS11c ?_
    go_simp
    refine wpAnyH_take (i := 7) (v := ?_) rfl (by kernel_rfl) (by kernel_rfl) (by kernel_rfl) (fun _ _ _ h => h) (Or.inl ⟨by kernel_rfl, by (intro wz hSz; go_simp; try with_reducible rfl)⟩) hS11c ?_
    go_simp
    refine wpAnyH_ready (rs := [4]) (by kernel_rfl) (by simp) ?_
    refine AllReadyH.cons rfl (fun K hK => ?_) AllReadyH.nil
    go_simp
    go_wp2_with (go_at_call 31; refine (ray_at _ _ _ _ _ _ _ _ _).mono ?_; rintro e y12 ⟨rfl, hb12⟩)
    have hr12_0 := (hb12.block _ (lt_heap hr11_0)).trans hr11_0
    have hr12_1 := (hb12.block _ (lt_heap hr11_1)).trans hr11_1
    have hr12_2 := (hb12.block _ (lt_heap hr11_2)).trans hr11_2
    have hr12_3 := (hb12.block _ (lt_heap hr11_3)).trans hr11_3
    have hr12_4 := (hb12.block _ (lt_heap hr11_4)).trans hr11_4
    have hr12_5 := (hb12.block _ (lt_heap hr11_5)).trans hr11_5
    have hr12_6 := (hb12.block _ (lt_heap hr11_6)).trans hr11_6
    have HU12 := Lib.hid (HU11.out.trans (hb12.mono HU11.out.size))
    refine hK.out _ _ (⟨(hb12.block _ (lt_heap hS11c.1)).trans hS11c.1, (hb12.block _ (lt_heap hS11c.2.1)).trans hS11c.2.1, (hb12.block _ (lt_heap hS11c.2.2.1)).trans hS11c.2.2.1, (hb12.block _ (lt_heap hS11c.2.2.2.1)).trans hS11c.2.2.2.1, (hb12.block _ (lt_heap hS11c.2.2.2.2.1)).trans hS11c.2.2.2.2.1, (hb12.block _ (lt_heap hS11c.2.2.2.2.2.1)).trans hS11c.2.2.2.2.2.1, (hb12.block _ (lt_heap hS11c.2.2.2.2.2.2)).trans hS11c.2.2.2.2.2.2⟩) (fun hS12c => ?_)
    clear hK K
    refine wpAnyH_ready (rs := [5]) (by kernel_rfl) (by simp) ?_
    refine AllReadyH.cons rfl (fun K hK => ?_) AllReadyH.nil
    go_simp
    go_wp2_with (go_at_call 30; refine (from_any _ _ _ _).mono ?_; rintro e y13 ⟨rfl, hb13⟩)
    have hr13_0 := (hb13.block _ (lt_heap hr12_0)).trans hr12_0
    have hr13_1 := (hb13.block _ (lt_heap hr12_1)).trans hr12_1
    have hr13_2 := (hb13.block _ (lt_heap hr12_2)).trans hr12_2
    have hr13_3 := (hb13.block _ (lt_heap hr12_3)).trans hr12_3
    have hr13_4 := (hb13.block _ (lt_heap hr12_4)).trans hr12_4
    have hr13_5 := (hb13.block _ (lt_heap hr12_5)).trans hr12_5
    have hr13_6 := (hb13.block _ (lt_heap hr12_6)).trans hr12_6
    have HU13 := Lib.hid (HU12.out.trans (hb13.mono HU12.out.size))
    refine hK.out _ _ (⟨(hb13.block _ (lt_heap hS12c.1)).trans hS12c.1, (hb13.block _ (lt_heap hS12c.2.1)).trans hS12c.2.1, (hb13.block _ (lt_heap hS12c.2.2.1)).trans hS12c.2.2.1, (hb13.block _ (lt_heap hS12c.2.2.2.1)).trans hS12c.2.2.2.1, (hb13.block _ (lt_heap hS12c.2.2.2.2.1)).trans hS12c.2.2.2.2.1, (hb13.block _ (lt_heap hS12c.2.2.2.2.2.1)).trans hS12c.2.2.2.2.2.1, (hb13.block _ (lt_heap hS12c.2.2.2.2.2.2)).trans hS12c.2.2.2.2.2.2⟩) (fun hS13c => ?_)
    clear hK K
    refine wpAnyH_ready (rs := [8]) (by kernel_rfl) (by simp) ?_
    refine AllReadyH.cons rfl (fun K hK => ?_) AllReadyH.nil
    go_simp
    go_wp2_with (go_at_call 32; refine (rray_at _ _ _ _ _ _ _ _ _).mono ?_; rintro e y14 ⟨rfl, hb14⟩)
    have hr14_0 := (hb14.block _ (lt_heap hr13_0)).trans hr13_0
    have hr14_1 := (hb14.block _ (lt_heap hr13_1)).trans hr13_1
    have hr14_2 := (hb14.block _ (lt_heap hr13_2)).trans hr13_2
    have hr14_3 := (hb14.block _ (lt_heap hr13_3)).trans hr13_3
    have hr14_4 := (hb14.block _ (lt_heap hr13_4)).trans hr13_4
    have hr14_5 := (hb14.block _ (lt_heap hr13_5)).trans hr13_5
    have hr14_6 := (hb14.block _ (lt_heap hr13_6)).trans hr13_6
    have HU14 := Lib.hid (HU13.out.trans (hb14.mono HU13.out.size))
    refine hK.out _ _ (⟨(hb14.block _ (lt_heap hS13c.1)).trans hS13c.1, (hb14.block _ (lt_heap hS13c.2.1)).trans hS13c.2.1, (hb14.block _ (lt_heap hS13c.2.2.1)).trans hS13c.2.2.1, (hb14.block _ (lt_heap hS13c.2.2.2.1)).trans hS13c.2.2.2.1, (hb14.block _ (lt_heap hS13c.2.2.2.2.1)).trans hS13c.2.2.2.2.1, (hb14.block _ (lt_heap hS13c.2.2.2.2.2.1)).trans hS13c.2.2.2.2.2.1, (hb14.block _ (lt_heap hS13c.2.2.2.2.2.2)).trans hS13c.2.2.2.2.2.2⟩) (fun hS14c => ?_)
    clear hK K
    refine wpAnyH_take (i := 9) (v := ?_) rfl (by kernel_rfl) (by kernel_rfl) (by kernel_rfl) (fun _ _ _ h => h) (Or.inl ⟨by kernel_rfl, by (intro wz hSz; go_simp; try with_reducible rfl)⟩) hS14c ?_
    go_simp
    refine wpAnyH_take (i := 10) (v := ?_) rfl (by kernel_rfl) (by kernel_rfl) (by kernel_rfl) (fun _ _ _ h => h) (Or.inl ⟨by kernel_rfl, by (intro wz hSz; go_simp; try with_reducible rfl)⟩) hS14c ?_
    go_simp
    refine wpAnyH_take (i := 11) (v := ?_) rfl (by kernel_rfl) (by kernel_rfl) (by kernel_rfl) (fun _ _ _ h => h) (Or.inl ⟨by kernel_rfl, by (intro wz hSz; go_simp; try with_reducible rfl)⟩) hS14c ?_
    go_simp
    refine wpAnyH_take (i := 12) (v := .agg #[.int .i64 fx, .int .i64 fy, .int .i64 fz, .int .i64 dx, .int .i64 dy, .int .i64 dz, .int .i64 pt]) rfl (by kernel_rfl) (by kernel_rfl) (by kernel_rfl) (fun _ _ _ h => h) (Lr.yieldsIf_load_row (by kernel_rfl) 101 (.tmp 13) rfl (y1.heap.size) rfl 101 #[.int .i64 fx, .int .i64 fy, .int .i64 fz, .int .i64 dx, .int .i64 dy, .int .i64 dz, .int .i64 pt] _ (fun yy hh => hh.2.2.2.2.1) Try.underlying101 rfl (by kernel_rfl)) hS14c ?_
    go_simp
    refine wpAnyH_take (i := 13) (v := ?_) rfl (by kernel_rfl) (by kernel_rfl) (by kernel_rfl) (fun _ _ _ h => h) (Or.inl ⟨by kernel_rfl, by (intro wz hSz; go_simp; try with_reducible rfl)⟩) hS14c ?_
    go_simp
    refine wpAnyH_take (i := 14) (v := ?_) rfl (by kernel_rfl) (by kernel_rfl) (by kernel_rfl) (fun _ _ _ h => h) (Or.inl ⟨by kernel_rfl, by (intro wz hSz; go_simp; try with_reducible rfl)⟩) hS14c ?_
    go_simp
    refine wpAnyH_take (i := 17) (v := .agg #[.int .i64 fx, .int .i64 fy, .int .i64 fz, .int .i64 dx, .int .i64 dy, .int .i64 dz, .int .i64 pt]) rfl (by kernel_rfl) (by kernel_rfl) (by kernel_rfl) (fun _ _ _ h => h) (Lr.yieldsIf_load_row (by kernel_rfl) 97 (.tmp 6) rfl (w.heap.size) rfl 97 #[.int .i64 fx, .int .i64 fy, .int .i64 fz, .int .i64 dx, .int .i64 dy, .int .i64 dz, .int .i64 pt] _ (fun yy hh => hh.1) Try.underlying97 rfl (by kernel_rfl)) hS14c ?_
    go_simp
    refine wpAnyH_take (i := 18) (v := ?_) rfl (by kernel_rfl) (by kernel_rfl) (by kernel_rfl) (fun _ _ _ h => h) (Or.inl ⟨by kernel_rfl, by (intro wz hSz; go_simp; try with_reducible rfl)⟩) hS14c ?_
    go_simp
    refine wpAnyH_take (i := 20) (v := .agg #[.int .i64 fx, .int .i64 fy, .int .i64 fz, .int .i64 dx, .int .i64 dy, .int .i64 dz, .int .i64 pt]) rfl (by kernel_rfl) (by kernel_rfl) (by kernel_rfl) (fun _ _ _ h => h) (Lr.yieldsIf_load_row (by kernel_rfl) 97 (.tmp 6) rfl (w.heap.size) rfl 97 #[.int .i64 fx, .int .i64 fy, .int .i64 fz, .int .i64 dx, .int .i64 dy, .int .i64 dz, .int .i64 pt] _ (fun yy hh => hh.1) Try.underlying97 rfl (by kernel_rfl)) hS14c ?_
    go_simp
    refine wpAnyH_take (i := 21) (v := ?_) rfl (by kernel_rfl) (by kernel_rfl) (by kernel_rfl) (fun _ _ _ h => h) (Or.inl ⟨by kernel_rfl, by (intro wz hSz; go_simp; try with_reducible rfl)⟩) hS14c ?_
    go_simp
    refine wpAnyH_ready (rs := [15]) (by kernel_rfl) (by simp) ?_
    refine AllReadyH.cons rfl (fun K hK => ?_) AllReadyH.nil
    go_simp
    go_wp2_with (go_at_call 33; refine (span_any _ _ _ _ _ _ _ _ _ _ ).mono ?_; rintro e y15 ⟨rfl, hb15⟩)
    have hr15_0 := (hb15.block _ (lt_heap hr14_0)).trans hr14_0
    have hr15_1 := (hb15.block _ (lt_heap hr14_1)).trans hr14_1
    have hr15_2 := (hb15.block _ (lt_heap hr14_2)).trans hr14_2
    have hr15_3 := (hb15.block _ (lt_heap hr14_3)).trans hr14_3
    have hr15_4 := (hb15.block _ (lt_heap hr14_4)).trans hr14_4
    have hr15_5 := (hb15.block _ (lt_heap hr14_5)).trans hr14_5
    have hr15_6 := (hb15.block _ (lt_heap hr14_6)).trans hr14_6
    have HU15 := Lib.hid (HU14.out.trans (hb15.mono HU14.out.size))
    refine hK.out _ _ (⟨(hb15.block _ (lt_heap hS14c.1)).trans hS14c.1, (hb15.block _ (lt_heap hS14c.2.1)).trans hS14c.2.1, (hb15.block _ (lt_heap hS14c.2.2.1)).trans hS14c.2.2.1, (hb15.block _ (lt_heap hS14c.2.2.2.1)).trans hS14c.2.2.2.1, (hb15.block _ (lt_heap hS14c.2.2.2.2.1)).trans hS14c.2.2.2.2.1, (hb15.block _ (lt_heap hS14c.2.2.2.2.2.1)).trans hS14c.2.2.2.2.2.1, (hb15.block _ (lt_heap hS14c.2.2.2.2.2.2)).trans hS14c.2.2.2.2.2.2⟩) (fun hS15c => ?_)
    clear hK K
    refine wpAnyH_ready (rs := [16]) (by kernel_rfl) (by simp) ?_
    refine AllReadyH.cons rfl (fun K hK => ?_) AllReadyH.nil
    go_simp
    go_wp2_with (go_at_call 16; refine (bfrom_any _ _ _ _ _ _ _ ).mono ?_; rintro e y16 ⟨rfl, hb16⟩)
    have hr16_0 := (hb16.block _ (lt_heap hr15_0)).trans hr15_0
    have hr16_1 := (hb16.block _ (lt_heap hr15_1)).trans hr15_1
    have hr16_2 := (hb16.block _ (lt_heap hr15_2)).trans hr15_2
    have hr16_3 := (hb16.block _ (lt_heap hr15_3)).trans hr15_3
    have hr16_4 := (hb16.block _ (lt_heap hr15_4)).trans hr15_4
    have hr16_5 := (hb16.block _ (lt_heap hr15_5)).trans hr15_5
    have hr16_6 := (hb16.block _ (lt_heap hr15_6)).trans hr15_6
    have HU16 := Lib.hid (HU15.out.trans (hb16.mono HU15.out.size))
    refine hK.out _ _ (⟨(hb16.block _ (lt_heap hS15c.1)).trans hS15c.1, (hb16.block _ (lt_heap hS15c.2.1)).trans hS15c.2.1, (hb16.block _ (lt_heap hS15c.2.2.1)).trans hS15c.2.2.1, (hb16.block _ (lt_heap hS15c.2.2.2.1)).trans hS15c.2.2.2.1, (hb16.block _ (lt_heap hS15c.2.2.2.2.1)).trans hS15c.2.2.2.2.1, (hb16.block _ (lt_heap hS15c.2.2.2.2.2.1)).trans hS15c.2.2.2.2.2.1, (hb16.block _ (lt_heap hS15c.2.2.2.2.2.2)).trans hS15c.2.2.2.2.2.2⟩) (fun hS16c => ?_)
    clear hK K
    refine wpAnyH_ready (rs := [19]) (by kernel_rfl) (by simp) ?_
    refine AllReadyH.cons rfl (fun K hK => ?_) AllReadyH.nil
    go_simp
    go_wp2_with (go_at_call 32; refine (rray_at _ _ _ _ _ _ _ _ _).mono ?_; rintro e y17 ⟨rfl, hb17⟩)
    have hr17_0 := (hb17.block _ (lt_heap hr16_0)).trans hr16_0
    have hr17_1 := (hb17.block _ (lt_heap hr16_1)).trans hr16_1
    have hr17_2 := (hb17.block _ (lt_heap hr16_2)).trans hr16_2
    have hr17_3 := (hb17.block _ (lt_heap hr16_3)).trans hr16_3
    have hr17_4 := (hb17.block _ (lt_heap hr16_4)).trans hr16_4
    have hr17_5 := (hb17.block _ (lt_heap hr16_5)).trans hr16_5
    have hr17_6 := (hb17.block _ (lt_heap hr16_6)).trans hr16_6
    have HU17 := Lib.hid (HU16.out.trans (hb17.mono HU16.out.size))
    refine hK.out _ _ (⟨(hb17.block _ (lt_heap hS16c.1)).trans hS16c.1, (hb17.block _ (lt_heap hS16c.2.1)).trans hS16c.2.1, (hb17.block _ (lt_heap hS16c.2.2.1)).trans hS16c.2.2.1, (hb17.block _ (lt_heap hS16c.2.2.2.1)).trans hS16c.2.2.2.1, (hb17.block _ (lt_heap hS16c.2.2.2.2.1)).trans hS16c.2.2.2.2.1, (hb17.block _ (lt_heap hS16c.2.2.2.2.2.1)).trans hS16c.2.2.2.2.2.1, (hb17.block _ (lt_heap hS16c.2.2.2.2.2.2)).trans hS16c.2.2.2.2.2.2⟩) (fun hS17c => ?_)
    clear hK K
    refine wpAnyH_ready (rs := [22]) (by kernel_rfl) (by simp) ?_
    refine AllReadyH.cons rfl (fun K hK => ?_) AllReadyH.nil
    go_simp
    go_wp2_with (go_at_call 32; refine (rray_at _ _ _ _ _ _ _ _ _).mono ?_; rintro e y18 ⟨rfl, hb18⟩)
    have hr18_0 := (hb18.block _ (lt_heap hr17_0)).trans hr17_0
    have hr18_1 := (hb18.block _ (lt_heap hr17_1)).trans hr17_1
    have hr18_2 := (hb18.block _ (lt_heap hr17_2)).trans hr17_2
    have hr18_3 := (hb18.block _ (lt_heap hr17_3)).trans hr17_3
    have hr18_4 := (hb18.block _ (lt_heap hr17_4)).trans hr17_4
    have hr18_5 := (hb18.block _ (lt_heap hr17_5)).trans hr17_5
    have hr18_6 := (hb18.block _ (lt_heap hr17_6)).trans hr17_6
    have HU18 := Lib.hid (HU17.out.trans (hb18.mono HU17.out.size))
    refine hK.out _ _ (⟨(hb18.block _ (lt_heap hS17c.1)).trans hS17c.1, (hb18.block _ (lt_heap hS17c.2.1)).trans hS17c.2.1, (hb18.block _ (lt_heap hS17c.2.2.1)).trans hS17c.2.2.1, (hb18.block _ (lt_heap hS17c.2.2.2.1)).trans hS17c.2.2.2.1, (hb18.block _ (lt_heap hS17c.2.2.2.2.1)).trans hS17c.2.2.2.2.1, (hb18.block _ (lt_heap hS17c.2.2.2.2.2.1)).trans hS17c.2.2.2.2.2.1, (hb18.block _ (lt_heap hS17c.2.2.2.2.2.2)).trans hS17c.2.2.2.2.2.2⟩) (fun hS18c => ?_)
    clear hK K
    refine wpAnyH_ready (rs := [23]) (by kernel_rfl) (by simp) ?_
    refine AllReadyH.cons rfl (fun K hK => ?_) AllReadyH.nil
    go_simp
    have hb19 := below_n1 y18 (.cells #[.int .i64 (Pl.add fx (Pl.mul dx a)), .int .i64 (Pl.add fy (Pl.mul dy a)), .int .i64 (Pl.add fz (Pl.mul dz a)), .int .i64 (Pl.add fx (Pl.mul dx b)), .int .i64 (Pl.add fy (Pl.mul dy b)), .int .i64 (Pl.add fz (Pl.mul dz b))] 59)
    have hN := heap_alloc_last y18 (.cells #[.int .i64 (Pl.add fx (Pl.mul dx a)), .int .i64 (Pl.add fy (Pl.mul dy a)), .int .i64 (Pl.add fz (Pl.mul dz a)), .int .i64 (Pl.add fx (Pl.mul dx b)), .int .i64 (Pl.add fy (Pl.mul dy b)), .int .i64 (Pl.add fz (Pl.mul dz b))] 59)
    obtain ⟨y19, hy19⟩ : ∃ y, y18.alloc (.cells #[.int .i64 (Pl.add fx (Pl.mul dx a)), .int .i64 (Pl.add fy (Pl.mul dy a)), .int .i64 (Pl.add fz (Pl.mul dz a)), .int .i64 (Pl.add fx (Pl.mul dx b)), .int .i64 (Pl.add fy (Pl.mul dy b)), .int .i64 (Pl.add fz (Pl.mul dz b))] 59) = y := ⟨_, rfl⟩
    rw [hy19] at hb19 hN ⊢
    clear hy19
    have hl19_0 := lt_heap hr18_0
    have hr19_0 := (hb19.block _ (lt_heap hr18_0)).trans hr18_0
    have hl19_1 := lt_heap hr18_1
    have hr19_1 := (hb19.block _ (lt_heap hr18_1)).trans hr18_1
    have hl19_2 := lt_heap hr18_2
    have hr19_2 := (hb19.block _ (lt_heap hr18_2)).trans hr18_2
    have hl19_3 := lt_heap hr18_3
    have hr19_3 := (hb19.block _ (lt_heap hr18_3)).trans hr18_3
    have hl19_4 := lt_heap hr18_4
    have hr19_4 := (hb19.block _ (lt_heap hr18_4)).trans hr18_4
    have hl19_5 := lt_heap hr18_5
    have hr19_5 := (hb19.block _ (lt_heap hr18_5)).trans hr18_5
    have hl19_6 := lt_heap hr18_6
    have hr19_6 := (hb19.block _ (lt_heap hr18_6)).trans hr18_6
    have hr19_7 := hN
    clear hN
    have HU19 := Lib.hid (HU18.out.trans (hb19.mono HU18.out.size))
    refine hK.out _ _ (⟨(hb19.block _ (lt_heap hS18c.1)).trans hS18c.1, (hb19.block _ (lt_heap hS18c.2.1)).trans hS18c.2.1, (hb19.block _ (lt_heap hS18c.2.2.1)).trans hS18c.2.2.1, (hb19.block _ (lt_heap hS18c.2.2.2.1)).trans hS18c.2.2.2.1, (hb19.block _ (lt_heap hS18c.2.2.2.2.1)).trans hS18c.2.2.2.2.1, (hb19.block _ (lt_heap hS18c.2.2.2.2.2.1)).trans hS18c.2.2.2.2.2.1, (hb19.block _ (lt_heap hS18c.2.2.2.2.2.2)).trans hS18c.2.2.2.2.2.2⟩) (fun hS19a => ?_)
    clear hK K
    refine wpAnyH_ready (rs := [24]) (by kernel_rfl) (by simp) ?_
    refine AllReadyH.cons rfl (fun K hK => ?_) AllReadyH.nil
    go_simp
    go_wp2_with (go_at_call 34; refine (rof_two _ _ _ _ _ _ _ _ _ _ hr19_7).mono ?_; rintro e y20 ⟨rfl, hb20⟩)
    have hr20_0 := (hb20.block _ (lt_heap hr19_0)).trans hr19_0
    have hr20_1 := (hb20.block _ (lt_heap hr19_1)).trans hr19_1
    have hr20_2 := (hb20.block _ (lt_heap hr19_2)).trans hr19_2
    have hr20_3 := (hb20.block _ (lt_heap hr19_3)).trans hr19_3
    have hr20_4 := (hb20.block _ (lt_heap hr19_4)).trans hr19_4
    have hr20_5 := (hb20.block _ (lt_heap hr19_5)).trans hr19_5
    have hr20_6 := (hb20.block _ (lt_heap hr19_6)).trans hr19_6
    have hr20_7 := (hb20.block _ (lt_heap hr19_7)).trans hr19_7
    have HU20 := Lib.hid (HU19.out.trans (hb20.mono HU19.out.size))
    refine hK.out _ _ (⟨(hb20.block _ (lt_heap hS19a.1)).trans hS19a.1, (hb20.block _ (lt_heap hS19a.2.1)).trans hS19a.2.1, (hb20.block _ (lt_heap hS19a.2.2.1)).trans hS19a.2.2.1, (hb20.block _ (lt_heap hS19a.2.2.2.1)).trans hS19a.2.2.2.1, (hb20.block _ (lt_heap hS19a.2.2.2.2.1)).trans hS19a.2.2.2.2.1, (hb20.block _ (lt_heap hS19a.2.2.2.2.2.1)).trans hS19a.2.2.2.2.2.1, (hb20.block _ (lt_heap hS19a.2.2.2.2.2.2)).trans hS19a.2.2.2.2.2.2⟩) (fun hS20c => ?_)
    clear hK K
    refine wpAnyH_take (i := 25) (v := ?_) rfl (by kernel_rfl) (by kernel_rfl) (by kernel_rfl) (fun _ _ _ h => h) (Or.inl ⟨by kernel_rfl, by (intro wz hSz; go_simp; try with_reducible rfl)⟩) hS20c ?_
    go_simp
    refine wpAnyH_take (i := 26) (v := ?_) rfl (by kernel_rfl) (by kernel_rfl) (by kernel_rfl) (fun _ _ _ h => h) (Or.inl ⟨by kernel_rfl, by (intro wz hSz; go_simp; try with_reducible rfl)⟩) hS20c ?_
    go_simp
    refine wpAnyH_take (i := 27) (v := ?_) rfl (by kernel_rfl) (by kernel_rfl) (by kernel_rfl) (fun _ _ _ h => h) (Or.inl ⟨by kernel_rfl, by (intro wz hSz; go_simp; try with_reducible rfl)⟩) hS20c ?_
    go_simp
    refine wpAnyH_take (i := 28) (v := ?_) rfl (by kernel_rfl) (by kernel_rfl) (by kernel_rfl) (fun _ _ _ h => h) (Or.inl ⟨by kernel_rfl, by (intro wz hSz; go_simp; try with_reducible rfl)⟩) hS20c ?_
    go_simp
    refine wpAnyH_take (i := 29) (v := ?_) rfl (by kernel_rfl) (by kernel_rfl) (by kernel_rfl) (fun _ _ _ h => h) (Or.inl ⟨by kernel_rfl, by (intro wz hSz; have c0_0 := cell_of_row _ _ 0 _ _ _ hSz.1; have c0_1 := cell_of_row _ _ 1 _ _ _ hSz.1; have c0_2 := cell_of_row _ _ 2 _ _ _ hSz.1; have c0_3 := cell_of_row _ _ 3 _ _ _ hSz.1; have c0_4 := cell_of_row _ _ 4 _ _ _ hSz.1; have c0_5 := cell_of_row _ _ 5 _ _ _ hSz.1; have c0_6 := cell_of_row _ _ 6 _ _ _ hSz.1; have c4_0 := cell_of_row _ _ 0 _ _ _ hSz.2.2.2.2.1; have c4_1 := cell_of_row _ _ 1 _ _ _ hSz.2.2.2.2.1; have c4_2 := cell_of_row _ _ 2 _ _ _ hSz.2.2.2.2.1; have c4_3 := cell_of_row _ _ 3 _ _ _ hSz.2.2.2.2.1; have c4_4 := cell_of_row _ _ 4 _ _ _ hSz.2.2.2.2.1; have c4_5 := cell_of_row _ _ 5 _ _ _ hSz.2.2.2.2.1; have c4_6 := cell_of_row _ _ 6 _ _ _ hSz.2.2.2.2.1; simp at c0_0 c0_1 c0_2 c0_3 c0_4 c0_5 c0_6 c4_0 c4_1 c4_2 c4_3 c4_4 c4_5 c4_6; go_simp; try with_reducible rfl)⟩) hS20c ?_
    go_simp
    refine wpAnyH_take (i := 30) (v := .agg #[.int .i64 bx, .int .i64 by_, .int .i64 bz]) rfl (by kernel_rfl) (by kernel_rfl) (by kernel_rfl) (fun _ _ _ h => h) (Lr.yieldsIf_load_row (by kernel_rfl) 59 (.tmp 9) rfl (w.heap.size + 1) rfl 59 #[.int .i64 bx, .int .i64 by_, .int .i64 bz] _ (fun yy hh => hh.2.1) Try.underlying59 rfl (by kernel_rfl)) hS20c ?_
    go_simp
    refine wpAnyH_take (i := 34) (v := ?_) rfl (by kernel_rfl) (by kernel_rfl) (by kernel_rfl) (fun _ _ _ h => h) (Or.inl ⟨by kernel_rfl, by (intro wz hSz; go_simp; try with_reducible rfl)⟩) hS20c ?_
    go_simp
    refine wpAnyH_take (i := 35) (v := ?_) rfl (by kernel_rfl) (by kernel_rfl) (by kernel_rfl) (fun _ _ _ h => h) (Or.inl ⟨by kernel_rfl, by (intro wz hSz; have c0_0 := cell_of_row _ _ 0 _ _ _ hSz.1; have c0_1 := cell_of_row _ _ 1 _ _ _ hSz.1; have c0_2 := cell_of_row _ _ 2 _ _ _ hSz.1; have c0_3 := cell_of_row _ _ 3 _ _ _ hSz.1; have c0_4 := cell_of_row _ _ 4 _ _ _ hSz.1; have c0_5 := cell_of_row _ _ 5 _ _ _ hSz.1; have c0_6 := cell_of_row _ _ 6 _ _ _ hSz.1; have c4_0 := cell_of_row _ _ 0 _ _ _ hSz.2.2.2.2.1; have c4_1 := cell_of_row _ _ 1 _ _ _ hSz.2.2.2.2.1; have c4_2 := cell_of_row _ _ 2 _ _ _ hSz.2.2.2.2.1; have c4_3 := cell_of_row _ _ 3 _ _ _ hSz.2.2.2.2.1; have c4_4 := cell_of_row _ _ 4 _ _ _ hSz.2.2.2.2.1; have c4_5 := cell_of_row _ _ 5 _ _ _ hSz.2.2.2.2.1; have c4_6 := cell_of_row _ _ 6 _ _ _ hSz.2.2.2.2.1; simp at c0_0 c0_1 c0_2 c0_3 c0_4 c0_5 c0_6 c4_0 c4_1 c4_2 c4_3 c4_4 c4_5 c4_6; go_simp; try with_reducible rfl)⟩) hS20c ?_
    go_simp
    refine wpAnyH_take (i := 36) (v := .agg #[.int .i64 bx, .int .i64 by_, .int .i64 bz]) rfl (by kernel_rfl) (by kernel_rfl) (by kernel_rfl) (fun _ _ _ h => h) (Lr.yieldsIf_load_row (by kernel_rfl) 59 (.tmp 9) rfl (w.heap.size + 1) rfl 59 #[.int .i64 bx, .int .i64 by_, .int .i64 bz] _ (fun yy hh => hh.2.1) Try.underlying59 rfl (by kernel_rfl)) hS20c ?_
    go_simp
    refine wpAnyH_ready (rs := [31]) (by kernel_rfl) (by simp) ?_
    refine AllReadyH.cons rfl (fun K hK => ?_) AllReadyH.nil
    go_simp
    go_wp2_with (go_at_call 36; refine (to_any _ _ _ _).mono ?_; rintro e y21 ⟨rfl, hb21⟩)
    have hr21_0 := (hb21.block _ (lt_heap hr20_0)).trans hr20_0
    have hr21_1 := (hb21.block _ (lt_heap hr20_1)).trans hr20_1
    have hr21_2 := (hb21.block _ (lt_heap hr20_2)).trans hr20_2
    have hr21_3 := (hb21.block _ (lt_heap hr20_3)).trans hr20_3
    have hr21_4 := (hb21.block _ (lt_heap hr20_4)).trans hr20_4
    have hr21_5 := (hb21.block _ (lt_heap hr20_5)).trans hr20_5
    have hr21_6 := (hb21.block _ (lt_heap hr20_6)).trans hr20_6
    have hr21_7 := (hb21.block _ (lt_heap hr20_7)).trans hr20_7
    have HU21 := Lib.hid (HU20.out.trans (hb21.mono HU20.out.size))
    refine hK.out _ _ (⟨(hb21.block _ (lt_heap hS20c.1)).trans hS20c.1, (hb21.block _ (lt_heap hS20c.2.1)).trans hS20c.2.1, (hb21.block _ (lt_heap hS20c.2.2.1)).trans hS20c.2.2.1, (hb21.block _ (lt_heap hS20c.2.2.2.1)).trans hS20c.2.2.2.1, (hb21.block _ (lt_heap hS20c.2.2.2.2.1)).trans hS20c.2.2.2.2.1, (hb21.block _ (lt_heap hS20c.2.2.2.2.2.1)).trans hS20c.2.2.2.2.2.1, (hb21.block _ (lt_heap hS20c.2.2.2.2.2.2)).trans hS20c.2.2.2.2.2.2⟩) (fun hS21c => ?_)
    clear hK K
    refine wpAnyH_ready (rs := [32]) (by kernel_rfl) (by simp) ?_
    refine AllReadyH.cons rfl (fun K hK => ?_) AllReadyH.nil
    go_simp
    go_wp2_with (go_at_call 35; refine (mirrored_any _ _ _ _ _ _ _ ).mono ?_; rintro e y22 ⟨rfl, hb22⟩)
    have hr22_0 := (hb22.block _ (lt_heap hr21_0)).trans hr21_0
    have hr22_1 := (hb22.block _ (lt_heap hr21_1)).trans hr21_1
    have hr22_2 := (hb22.block _ (lt_heap hr21_2)).trans hr21_2
    have hr22_3 := (hb22.block _ (lt_heap hr21_3)).trans hr21_3
    have hr22_4 := (hb22.block _ (lt_heap hr21_4)).trans hr21_4
    have hr22_5 := (hb22.block _ (lt_heap hr21_5)).trans hr21_5
    have hr22_6 := (hb22.block _ (lt_heap hr21_6)).trans hr21_6
    have hr22_7 := (hb22.block _ (lt_heap hr21_7)).trans hr21_7
    have HU22 := Lib.hid (HU21.out.trans (hb22.mono HU21.out.size))
    refine hK.out _ _ (⟨(hb22.block _ (lt_heap hS21c.1)).trans hS21c.1, (hb22.block _ (lt_heap hS21c.2.1)).trans hS21c.2.1, (hb22.block _ (lt_heap hS21c.2.2.1)).trans hS21c.2.2.1, (hb22.block _ (lt_heap hS21c.2.2.2.1)).trans hS21c.2.2.2.1, (hb22.block _ (lt_heap hS21c.2.2.2.2.1)).trans hS21c.2.2.2.2.1, (hb22.block _ (lt_heap hS21c.2.2.2.2.2.1)).trans hS21c.2.2.2.2.2.1, (hb22.block _ (lt_heap hS21c.2.2.2.2.2.2)).trans hS21c.2.2.2.2.2.2⟩) (fun hS22c => ?_)
    clear hK K
    refine wpAnyH_ready (rs := [33]) (by kernel_rfl) (by simp) ?_
    refine AllReadyH.cons rfl (fun K hK => ?_) AllReadyH.nil
    go_simp
    go_wp2_with (go_at_call 30; refine (from_any _ _ _ _).mono ?_; rintro e y23 ⟨rfl, hb23⟩)
    have hr23_0 := (hb23.block _ (lt_heap hr22_0)).trans hr22_0
    have hr23_1 := (hb23.block _ (lt_heap hr22_1)).trans hr22_1
    have hr23_2 := (hb23.block _ (lt_heap hr22_2)).trans hr22_2
    have hr23_3 := (hb23.block _ (lt_heap hr22_3)).trans hr22_3
    have hr23_4 := (hb23.block _ (lt_heap hr22_4)).trans hr22_4
    have hr23_5 := (hb23.block _ (lt_heap hr22_5)).trans hr22_5
    have hr23_6 := (hb23.block _ (lt_heap hr22_6)).trans hr22_6
    have hr23_7 := (hb23.block _ (lt_heap hr22_7)).trans hr22_7
    have HU23 := Lib.hid (HU22.out.trans (hb23.mono HU22.out.size))
    refine hK.out _ _ (⟨(hb23.block _ (lt_heap hS22c.1)).trans hS22c.1, (hb23.block _ (lt_heap hS22c.2.1)).trans hS22c.2.1, (hb23.block _ (lt_heap hS22c.2.2.1)).trans hS22c.2.2.1, (hb23.block _ (lt_heap hS22c.2.2.2.1)).trans hS22c.2.2.2.1, (hb23.block _ (lt_heap hS22c.2.2.2.2.1)).trans hS22c.2.2.2.2.1, (hb23.block _ (lt_heap hS22c.2.2.2.2.2.1)).trans hS22c.2.2.2.2.2.1, (hb23.block _ (lt_heap hS22c.2.2.2.2.2.2)).trans hS22c.2.2.2.2.2.2⟩) (fun hS23c => ?_)
    clear hK K
    refine wpAnyH_ready (rs := [37]) (by kernel_rfl) (by simp) ?_
    refine AllReadyH.cons rfl (fun K hK => ?_) AllReadyH.nil
    go_simp
    go_wp2_with (go_at_call 37; refine (rmirrored_any _ _ _ _ _ _ _ ).mono ?_; rintro e y24 ⟨rfl, hb24⟩)
    have hr24_0 := (hb24.block _ (lt_heap hr23_0)).trans hr23_0
    have hr24_1 := (hb24.block _ (lt_heap hr23_1)).trans hr23_1
    have hr24_2 := (hb24.block _ (lt_heap hr23_2)).trans hr23_2
    have hr24_3 := (hb24.block _ (lt_heap hr23_3)).trans hr23_3
    have hr24_4 := (hb24.block _ (lt_heap hr23_4)).trans hr23_4
    have hr24_5 := (hb24.block _ (lt_heap hr23_5)).trans hr23_5
    have hr24_6 := (hb24.block _ (lt_heap hr23_6)).trans hr23_6
    have hr24_7 := (hb24.block _ (lt_heap hr23_7)).trans hr23_7
    have HU24 := Lib.hid (HU23.out.trans (hb24.mono HU23.out.size))
    refine hK.out _ _ (⟨(hb24.block _ (lt_heap hS23c.1)).trans hS23c.1, (hb24.block _ (lt_heap hS23c.2.1)).trans hS23c.2.1, (hb24.block _ (lt_heap hS23c.2.2.1)).trans hS23c.2.2.1, (hb24.block _ (lt_heap hS23c.2.2.2.1)).trans hS23c.2.2.2.1, (hb24.block _ (lt_heap hS23c.2.2.2.2.1)).trans hS23c.2.2.2.2.1, (hb24.block _ (lt_heap hS23c.2.2.2.2.2.1)).trans hS23c.2.2.2.2.2.1, (hb24.block _ (lt_heap hS23c.2.2.2.2.2.2)).trans hS23c.2.2.2.2.2.2⟩) (fun hS24c => ?_)
    clear hK K
    refine wpAnyH_take (i := 38) (v := ?_) rfl (by kernel_rfl) (by kernel_rfl) (by kernel_rfl) (fun _ _ _ h => h) (Or.inl ⟨by kernel_rfl, by (intro wz hSz; go_simp; try with_reducible rfl)⟩) hS24c ?_
    go_simp
    refine wpAnyH_take (i := 39) (v := ?_) rfl (by kernel_rfl) (by kernel_rfl) (by kernel_rfl) (fun _ _ _ h => h) (Or.inl ⟨by kernel_rfl, by (intro wz hSz; go_simp; try with_reducible rfl)⟩) hS24c ?_
    go_simp
    refine wpAnyH_take (i := 40) (v := ?_) rfl (by kernel_rfl) (by kernel_rfl) (by kernel_rfl) (fun _ _ _ h => h) (Or.inl ⟨by kernel_rfl, by (intro wz hSz; go_simp; try with_reducible rfl)⟩) hS24c ?_
    go_simp
    refine wpAnyH_take (i := 41) (v := .agg #[.int .i64 x0, .int .i64 x1, .int .i64 0, .int .i64 0, .int .i64 0, .int .i64 0, .int .i64 0, .int .i64 0]) rfl (by kernel_rfl) (by kernel_rfl) (by kernel_rfl) (fun _ _ _ h => h) (Lr.yieldsIf_load_row (by kernel_rfl) 104 (.tmp 14) rfl (gg) rfl 104 #[.int .i64 x0, .int .i64 x1, .int .i64 0, .int .i64 0, .int .i64 0, .int .i64 0, .int .i64 0, .int .i64 0] _ (fun yy hh => hh.2.2.2.2.2.1) Try.underlying104 rfl (by kernel_rfl)) hS24c ?_
    go_simp
    refine wpAnyH_take (i := 42) (v := .agg #[.int .i64 z0, .int .i64 z1, .int .i64 0, .int .i64 0, .int .i64 0, .int .i64 0, .int .i64 0, .int .i64 0]) rfl (by kernel_rfl) (by kernel_rfl) (by kernel_rfl) (fun _ _ _ h => h) (Lr.yieldsIf_load_row (by kernel_rfl) 104 (.tmp 15) rfl (gh) rfl 104 #[.int .i64 z0, .int .i64 z1, .int .i64 0, .int .i64 0, .int .i64 0, .int .i64 0, .int .i64 0, .int .i64 0] _ (fun yy hh => hh.2.2.2.2.2.2) Try.underlying104 rfl (by kernel_rfl)) hS24c ?_
    go_simp
    refine wpAnyH_take (i := 44) (v := .agg #[.int .i64 x0, .int .i64 x1, .int .i64 x2, .int .i64 x3, .int .i64 x4, .int .i64 x5, .int .i64 x6, .int .i64 x7]) rfl (by kernel_rfl) (by kernel_rfl) (by kernel_rfl) (fun _ _ _ h => h) (Lr.yieldsIf_load_row (by kernel_rfl) 99 (.tmp 10) rfl (w.heap.size + 1 + 1) rfl 99 #[.int .i64 x0, .int .i64 x1, .int .i64 x2, .int .i64 x3, .int .i64 x4, .int .i64 x5, .int .i64 x6, .int .i64 x7] _ (fun yy hh => hh.2.2.1) Try.underlying99 rfl (by kernel_rfl)) hS24c ?_
    go_simp
    refine wpAnyH_take (i := 45) (v := .agg #[.int .i64 z0, .int .i64 z1, .int .i64 z2, .int .i64 z3, .int .i64 z4, .int .i64 z5, .int .i64 z6, .int .i64 z7]) rfl (by kernel_rfl) (by kernel_rfl) (by kernel_rfl) (fun _ _ _ h => h) (Lr.yieldsIf_load_row (by kernel_rfl) 99 (.tmp 11) rfl (w.heap.size + 1 + 1 + 1) rfl 99 #[.int .i64 z0, .int .i64 z1, .int .i64 z2, .int .i64 z3, .int .i64 z4, .int .i64 z5, .int .i64 z6, .int .i64 z7] _ (fun yy hh => hh.2.2.2.1) Try.underlying99 rfl (by kernel_rfl)) hS24c ?_
    go_simp
    refine wpAnyH_ready (rs := [43]) (by kernel_rfl) (by simp) ?_
    refine AllReadyH.cons rfl (fun K hK => ?_) AllReadyH.nil
    go_simp
    go_wp2_with (go_at_call 38; refine (before_any _ _ _ _ _ _ _ _ _ _ _ _ _ _ _ _ _ ).mono ?_; rintro e y25 ⟨rfl, hb25⟩)
    have hr25_0 := (hb25.block _ (lt_heap hr24_0)).trans hr24_0
    have hr25_1 := (hb25.block _ (lt_heap hr24_1)).trans hr24_1
    have hr25_2 := (hb25.block _ (lt_heap hr24_2)).trans hr24_2
    have hr25_3 := (hb25.block _ (lt_heap hr24_3)).trans hr24_3
    have hr25_4 := (hb25.block _ (lt_heap hr24_4)).trans hr24_4
    have hr25_5 := (hb25.block _ (lt_heap hr24_5)).trans hr24_5
    have hr25_6 := (hb25.block _ (lt_heap hr24_6)).trans hr24_6
    have hr25_7 := (hb25.block _ (lt_heap hr24_7)).trans hr24_7
    have HU25 := Lib.hid (HU24.out.trans (hb25.mono HU24.out.size))
    refine hK.out _ _ (⟨(hb25.block _ (lt_heap hS24c.1)).trans hS24c.1, (hb25.block _ (lt_heap hS24c.2.1)).trans hS24c.2.1, (hb25.block _ (lt_heap hS24c.2.2.1)).trans hS24c.2.2.1, (hb25.block _ (lt_heap hS24c.2.2.2.1)).trans hS24c.2.2.2.1, (hb25.block _ (lt_heap hS24c.2.2.2.2.1)).trans hS24c.2.2.2.2.1, (hb25.block _ (lt_heap hS24c.2.2.2.2.2.1)).trans hS24c.2.2.2.2.2.1, (hb25.block _ (lt_heap hS24c.2.2.2.2.2.2)).trans hS24c.2.2.2.2.2.2⟩) (fun hS25c => ?_)
    clear hK K
    refine wpAnyH_ready (rs := [46]) (by kernel_rfl) (by simp) ?_
    refine AllReadyH.cons rfl (fun K hK => ?_) AllReadyH.nil
    go_simp
    go_wp2_with (go_at_call 39; refine (rbefore_any _ _ _ _ _ _ _ _ _ _ _ _ _ _ _ _ _ ).mono ?_; rintro e y26 ⟨rfl, hb26⟩)
    have hr26_0 := (hb26.block _ (lt_heap hr25_0)).trans hr25_0
    have hr26_1 := (hb26.block _ (lt_heap hr25_1)).trans hr25_1
    have hr26_2 := (hb26.block _ (lt_heap hr25_2)).trans hr25_2
    have hr26_3 := (hb26.block _ (lt_heap hr25_3)).trans hr25_3
    have hr26_4 := (hb26.block _ (lt_heap hr25_4)).trans hr25_4
    have hr26_5 := (hb26.block _ (lt_heap hr25_5)).trans hr25_5
    have hr26_6 := (hb26.block _ (lt_heap hr25_6)).trans hr25_6
    have hr26_7 := (hb26.block _ (lt_heap hr25_7)).trans hr25_7
    have HU26 := Lib.hid (HU25.out.trans (hb26.mono HU25.out.size))
    refine hK.out _ _ (⟨(hb26.block _ (lt_heap hS25c.1)).trans hS25c.1, (hb26.block _ (lt_heap hS25c.2.1)).trans hS25c.2.1, (hb26.block _ (lt_heap hS25c.2.2.1)).trans hS25c.2.2.1, (hb26.block _ (lt_heap hS25c.2.2.2.1)).trans hS25c.2.2.2.1, (hb26.block _ (lt_heap hS25c.2.2.2.2.1)).trans hS25c.2.2.2.2.1, (hb26.block _ (lt_heap hS25c.2.2.2.2.2.1)).trans hS25c.2.2.2.2.2.1, (hb26.block _ (lt_heap hS25c.2.2.2.2.2.2)).trans hS25c.2.2.2.2.2.2⟩) (fun hS26c => ?_)
    clear hK K
    refine wpAnyH_take (i := 47) (v := ?_) rfl (by kernel_rfl) (by kernel_rfl) (by kernel_rfl) (fun _ _ _ h => h) (Or.inl ⟨by kernel_rfl, by (intro wz hSz; go_simp; try with_reducible rfl)⟩) hS26c ?_
    go_simp
    refine wpAnyH_take (i := 48) (v := ?_) rfl (by kernel_rfl) (by kernel_rfl) (by kernel_rfl) (fun _ _ _ h => h) (Or.inl ⟨by kernel_rfl, by (intro wz hSz; go_simp; try with_reducible rfl)⟩) hS26c ?_
    go_simp
    refine wpAnyH_take (i := 49) (v := ?_) rfl (by kernel_rfl) (by kernel_rfl) (by kernel_rfl) (fun _ _ _ h => h) (Or.inl ⟨by kernel_rfl, by (intro wz hSz; go_simp; try with_reducible rfl)⟩) hS26c ?_
    go_simp
    refine wpAnyH_done (by kernel_rfl) ?_ _
    go_wp2
    go_ret
    exact ⟨by simp, HU26.out⟩

end Go.Proofs.Ythlcfhnlkpobhaa.rayPointsW
