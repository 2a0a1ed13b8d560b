/- Rays: from the document's side to the program's, a point, the box of two, a moving shape at a part of its time. -/
import Derived.Test.YthlcfhnlkpobhaaBd
import Derived.Test.YthlcfhnlkpobhaaVo
import Derived.Test.YthlcfhnlkpobhaaVu
import Derived.Test.YthlcfhnlkpobhaaVx
import Derived.Test.YthlcfhnlkpobhaaYa
namespace Go.Proofs.Ythlcfhnlkpobhaa.Yr
open Go.RowKit Go.Proofs.Ythlcfhnlkpobhaa Go.Proofs.Ythlcfhnlkpobhaa.Wa Go.Proofs.Ythlcfhnlkpobhaa.Ve Go.Proofs.Ythlcfhnlkpobhaa.Au Go.Proofs.Ythlcfhnlkpobhaa.Bx
set_option linter.unusedVariables false
set_option linter.unusedSimpArgs false

set_option maxHeartbeats 2000000 in
set_option maxRecDepth 100000 in
theorem rto_any (fx fy fz dx dy dz pt : Int) (w : World)  : Calls Try.prog 28 #[.agg #[.int .i64 fx, .int .i64 fy, .int .i64 fz, .int .i64 dx, .int .i64 dy, .int .i64 dz, .int .i64 pt]] w fun e' w' => e' = .returned (.agg #[.int .i64 fx, .int .i64 fy, .int .i64 fz, .int .i64 dx, .int .i64 dy, .int .i64 dz, .int .i64 pt]) ∧ Below w.heap.size w w' := by
  go_enter Try.func28, Try.ntmps28
  go_upto_region 1 with fail
  have hR := Au.rows2 w (.cells #[.int .i64 fx, .int .i64 fy, .int .i64 fz, .int .i64 dx, .int .i64 dy, .int .i64 dz, .int .i64 pt] 97) (.cells #[.int .i64 0, .int .i64 0, .int .i64 0, .int .i64 0, .int .i64 0, .int .i64 0, .int .i64 0] 101)
  have HUx := below_n2 w (.cells #[.int .i64 fx, .int .i64 fy, .int .i64 fz, .int .i64 dx, .int .i64 dy, .int .i64 dz, .int .i64 pt] 97) (.cells #[.int .i64 0, .int .i64 0, .int .i64 0, .int .i64 0, .int .i64 0, .int .i64 0, .int .i64 0] 101)
  obtain ⟨y0, hy0⟩ : ∃ y0, (w.alloc (.cells #[.int .i64 fx, .int .i64 fy, .int .i64 fz, .int .i64 dx, .int .i64 dy, .int .i64 dz, .int .i64 pt] 97)).alloc (.cells #[.int .i64 0, .int .i64 0, .int .i64 0, .int .i64 0, .int .i64 0, .int .i64 0, .int .i64 0] 101) = y0 := ⟨_, rfl⟩
  rw [hy0] at hR HUx ⊢
  clear hy0
  have HU0 := Lib.hid HUx
  clear HUx
  obtain ⟨hr0_0, hr0_1⟩ := hR
  refine wp_region_held_drew (S := fun y => y.heap[w.heap.size]? = some (.cells #[.int .i64 fx, .int .i64 fy, .int .i64 fz, .int .i64 dx, .int .i64 dy, .int .i64 dz, .int .i64 pt] 97 (0, 0))) (by kernel_rfl) (hr0_0) (fun hS0 => ?_)
  obtain ⟨y1, hy1⟩ : ∃ y, y0.drew = y := ⟨_, rfl⟩
  have HU1 := Lib.hid (show Below w.heap.size w y1 by rw [← hy1]; exact HU0.out.drew)
  have hr1_0 : y1.heap[w.heap.size]? = some (.cells #[.int .i64 fx, .int .i64 fy, .int .i64 fz, .int .i64 dx, .int .i64 dy, .int .i64 dz, .int .i64 pt] 97 (0, 0)) := by rw [← hy1]; exact hr0_0
  have hr1_1 : y1.heap[w.heap.size + 1]? = some (.cells #[.int .i64 0, .int .i64 0, .int .i64 0, .int .i64 0, .int .i64 0, .int .i64 0, .int .i64 0] 101 (0, 0)) := by rw [← hy1]; exact hr0_1
  rw [hy1] at hS0 ⊢
  clear hy1
  refine wpAnyH_take (i := 0) (v := ?_) rfl (by kernel_rfl) (by kernel_rfl) (by kernel_rfl) (fun _ _ _ h => h) (Or.inl ⟨by kernel_rfl, by (intro wz hSz; go_simp; try with_reducible rfl)⟩) hS0 ?_
  go_simp
  refine wpAnyH_take (i := 1) (v := ?_) rfl (by kernel_rfl) (by kernel_rfl) (by kernel_rfl) (fun _ _ _ h => h) (Or.inl ⟨by kernel_rfl, by (intro wz hSz; have c0_0 := cell_of_row _ _ 0 _ _ _ hSz; have c0_1 := cell_of_row _ _ 1 _ _ _ hSz; have c0_2 := cell_of_row _ _ 2 _ _ _ hSz; have c0_3 := cell_of_row _ _ 3 _ _ _ hSz; have c0_4 := cell_of_row _ _ 4 _ _ _ hSz; have c0_5 := cell_of_row _ _ 5 _ _ _ hSz; have c0_6 := cell_of_row _ _ 6 _ _ _ hSz; simp at c0_0 c0_1 c0_2 c0_3 c0_4 c0_5 c0_6; go_simp; try with_reducible rfl)⟩) hS0 ?_
  go_simp
  refine wpAnyH_take (i := 3) (v := ?_) rfl (by kernel_rfl) (by kernel_rfl) (by kernel_rfl) (fun _ _ _ h => h) (Or.inl ⟨by kernel_rfl, by (intro wz hSz; go_simp; try with_reducible rfl)⟩) hS0 ?_
  go_simp
  refine wpAnyH_take (i := 4) (v := ?_) rfl (by kernel_rfl) (by kernel_rfl) (by kernel_rfl) (fun _ _ _ h => h) (Or.inl ⟨by kernel_rfl, by (intro wz hSz; have c0_0 := cell_of_row _ _ 0 _ _ _ hSz; have c0_1 := cell_of_row _ _ 1 _ _ _ hSz; have c0_2 := cell_of_row _ _ 2 _ _ _ hSz; have c0_3 := cell_of_row _ _ 3 _ _ _ hSz; have c0_4 := cell_of_row _ _ 4 _ _ _ hSz; have c0_5 := cell_of_row _ _ 5 _ _ _ hSz; have c0_6 := cell_of_row _ _ 6 _ _ _ hSz; simp at c0_0 c0_1 c0_2 c0_3 c0_4 c0_5 c0_6; go_simp; try with_reducible rfl)⟩) hS0 ?_
  go_simp
  refine wpAnyH_take (i := 6) (v := ?_) rfl (by kernel_rfl) (by kernel_rfl) (by kernel_rfl) (fun _ _ _ h => h) (Or.inl ⟨by kernel_rfl, by (intro wz hSz; go_simp; try with_reducible rfl)⟩) hS0 ?_
  go_simp
  refine wpAnyH_take (i := 7) (v := ?_) rfl (by kernel_rfl) (by kernel_rfl) (by kernel_rfl) (fun _ _ _ h => h) (Or.inl ⟨by kernel_rfl, by (intro wz hSz; have c0_0 := cell_of_row _ _ 0 _ _ _ hSz; have c0_1 := cell_of_row _ _ 1 _ _ _ hSz; have c0_2 := cell_of_row _ _ 2 _ _ _ hSz; have c0_3 := cell_of_row _ _ 3 _ _ _ hSz; have c0_4 := cell_of_row _ _ 4 _ _ _ hSz; have c0_5 := cell_of_row _ _ 5 _ _ _ hSz; have c0_6 := cell_of_row _ _ 6 _ _ _ hSz; simp at c0_0 c0_1 c0_2 c0_3 c0_4 c0_5 c0_6; go_simp; try with_reducible rfl)⟩) hS0 ?_
  go_simp
  refine wpAnyH_ready (rs := [2]) (by kernel_rfl) (by simp) ?_
  refine AllReadyH.cons rfl (fun K hK => ?_) AllReadyH.nil
  go_simp
  go_wp2_with (go_at_call 36; refine (to_any _ _ _ _).mono ?_; rintro e y2 ⟨rfl, hb2⟩)
  have hr2_0 := (hb2.block _ (lt_heap hr1_0)).trans hr1_0
  have hr2_1 := (hb2.block _ (lt_heap hr1_1)).trans hr1_1
  have HU2 := Lib.hid (HU1.out.trans (hb2.mono HU1.out.size))
  refine hK.out _ _ ((hb2.block _ (lt_heap hS0)).trans hS0) (fun hS2c => ?_)
  clear hK K
  refine wpAnyH_ready (rs := [5]) (by kernel_rfl) (by simp) ?_
  refine AllReadyH.cons rfl (fun K hK => ?_) AllReadyH.nil
  go_simp
  go_wp2_with (go_at_call 36; refine (to_any _ _ _ _).mono ?_; rintro e y3 ⟨rfl, hb3⟩)
  have hr3_0 := (hb3.block _ (lt_heap hr2_0)).trans hr2_0
  have hr3_1 := (hb3.block _ (lt_heap hr2_1)).trans hr2_1
  have HU3 := Lib.hid (HU2.out.trans (hb3.mono HU2.out.size))
  refine hK.out _ _ ((hb3.block _ (lt_heap hS2c)).trans hS2c) (fun hS3c => ?_)
  clear hK K
  refine wpAnyH_take (i := 8) (v := ?_) rfl (by kernel_rfl) (by kernel_rfl) (by kernel_rfl) (fun _ _ _ h => h) (Or.inl ⟨by kernel_rfl, by (intro wz hSz; go_simp; try with_reducible rfl)⟩) hS3c ?_
  go_simp
  refine wpAnyH_ready (rs := [9]) (by kernel_rfl) (by simp) ?_
  refine AllReadyH.cons rfl (fun K hK => ?_) AllReadyH.nil
  refine step_store_row rfl 101 (.tmp 2) (.tmp 11) rfl #[.int .i64 0, .int .i64 0, .int .i64 0, .int .i64 0, .int .i64 0, .int .i64 0, .int .i64 0] #[.int .i64 fx, .int .i64 fy, .int .i64 fz, .int .i64 dx, .int .i64 dy, .int .i64 dz, .int .i64 pt] _ 101 hr3_1 rfl (by first | rfl | (go_simp; done) | (go_simp; rfl)) (by kernel_rfl) rfl (by simp [Value.oneCell']) ?_
  have hN := setRow_heap _ (w.heap.size + 1) _ #[.int .i64 fx, .int .i64 fy, .int .i64 fz, .int .i64 dx, .int .i64 dy, .int .i64 dz, .int .i64 pt] _ _ hr3_1
  have hsz := HU3.out.size
  have HUx := below_setRow (g := w.heap.size + 1) HU3.out (by first | omega | (simp at *; omega)) #[.int .i64 fx, .int .i64 fy, .int .i64 fz, .int .i64 dx, .int .i64 dy, .int .i64 dz, .int .i64 pt]
  obtain ⟨y4, hy4⟩ : ∃ y, y3.setRow (w.heap.size + 1) #[.int .i64 fx, .int .i64 fy, .int .i64 fz, .int .i64 dx, .int .i64 dy, .int .i64 dz, .int .i64 pt] = y := ⟨_, rfl⟩
  have hO : ∀ k, k ≠ w.heap.size + 1 → y4.heap[k]? = y3.heap[k]? := fun k hk => by rw [← hy4]; exact setRow_other _ _ _ _ hk
  rw [hy4] at hN HUx ⊢
  clear hy4
  have HU4 := Lib.hid HUx
  clear HUx
  have hr4_0 := (hO _ (by omega)).trans hr3_0
  have hr4_1 := hN
  clear hN
  refine hK.out _ _ ((hO _ (by omega)).trans hS3c) (fun hS4s => ?_)
  clear hK K
  refine wpAnyH_done (by kernel_rfl) ?_ _
  have c1_0 := cell_of_row _ _ 0 _ _ _ hr4_1
  have c1_1 := cell_of_row _ _ 1 _ _ _ hr4_1
  have c1_2 := cell_of_row _ _ 2 _ _ _ hr4_1
  have c1_3 := cell_of_row _ _ 3 _ _ _ hr4_1
  have c1_4 := cell_of_row _ _ 4 _ _ _ hr4_1
  have c1_5 := cell_of_row _ _ 5 _ _ _ hr4_1
  have c1_6 := cell_of_row _ _ 6 _ _ _ hr4_1
  simp at c1_0 c1_1 c1_2 c1_3 c1_4 c1_5 c1_6
  go_wp2
  exact bodyPost_ret (v := .agg #[.int .i64 fx, .int .i64 fy, .int .i64 fz, .int .i64 dx, .int .i64 dy, .int .i64 dz, .int .i64 pt]) (by simp [results, Try.results28, go_sem, c1_0, c1_1, c1_2, c1_3, c1_4, c1_5, c1_6]) rfl ⟨rfl, HU4.out⟩

set_option maxHeartbeats 2000000 in
set_option maxRecDepth 100000 in
theorem ray_at (fx fy fz dx dy dz pt t : Int) (w : World)  : Calls Try.prog 31 #[.agg #[.int .i64 fx, .int .i64 fy, .int .i64 fz, .int .i64 dx, .int .i64 dy, .int .i64 dz, .int .i64 pt], .int .i64 t] w fun e' w' => e' = .returned (.agg #[.int .i64 (Pl.add fx (Pl.mul dx t)), .int .i64 (Pl.add fy (Pl.mul dy t)), .int .i64 (Pl.add fz (Pl.mul dz t))]) ∧ Below w.heap.size w w' := by
  go_enter Try.func31, Try.ntmps31
  go_upto_region 1 with fail
  have hR := Au.rows2 w (.cells #[.int .i64 fx, .int .i64 fy, .int .i64 fz, .int .i64 dx, .int .i64 dy, .int .i64 dz, .int .i64 pt] 101) (.cells #[.int .i64 0, .int .i64 0, .int .i64 0] 71)
  have HUx := below_n2 w (.cells #[.int .i64 fx, .int .i64 fy, .int .i64 fz, .int .i64 dx, .int .i64 dy, .int .i64 dz, .int .i64 pt] 101) (.cells #[.int .i64 0, .int .i64 0, .int .i64 0] 71)
  obtain ⟨y0, hy0⟩ : ∃ y0, (w.alloc (.cells #[.int .i64 fx, .int .i64 fy, .int .i64 fz, .int .i64 dx, .int .i64 dy, .int .i64 dz, .int .i64 pt] 101)).alloc (.cells #[.int .i64 0, .int .i64 0, .int .i64 0] 71) = y0 := ⟨_, rfl⟩
  rw [hy0] at hR HUx ⊢
  clear hy0
  have HU0 := Lib.hid HUx
  clear HUx
  obtain ⟨hr0_0, hr0_1⟩ := hR
  refine wp_region_held_drew (S := fun y => y.heap[w.heap.size]? = some (.cells #[.int .i64 fx, .int .i64 fy, .int .i64 fz, .int .i64 dx, .int .i64 dy, .int .i64 dz, .int .i64 pt] 101 (0, 0))) (by kernel_rfl) (hr0_0) (fun hS0 => ?_)
  obtain ⟨y1, hy1⟩ : ∃ y, y0.drew = y := ⟨_, rfl⟩
  have HU1 := Lib.hid (show Below w.heap.size w y1 by rw [← hy1]; exact HU0.out.drew)
  have hr1_0 : y1.heap[w.heap.size]? = some (.cells #[.int .i64 fx, .int .i64 fy, .int .i64 fz, .int .i64 dx, .int .i64 dy, .int .i64 dz, .int .i64 pt] 101 (0, 0)) := by rw [← hy1]; exact hr0_0
  have hr1_1 : y1.heap[w.heap.size + 1]? = some (.cells #[.int .i64 0, .int .i64 0, .int .i64 0] 71 (0, 0)) := by rw [← hy1]; exact hr0_1
  rw [hy1] at hS0 ⊢
  clear hy1
  refine wpAnyH_take (i := 0) (v := ?_) rfl (by kernel_rfl) (by kernel_rfl) (by kernel_rfl) (fun _ _ _ h => h) (Or.inl ⟨by kernel_rfl, by (intro wz hSz; go_simp; try with_reducible rfl)⟩) hS0 ?_
  go_simp
  refine wpAnyH_take (i := 1) (v := ?_) rfl (by kernel_rfl) (by kernel_rfl) (by kernel_rfl) (fun _ _ _ h => h) (Or.inl ⟨by kernel_rfl, by (intro wz hSz; have c0_0 := cell_of_row _ _ 0 _ _ _ hSz; have c0_1 := cell_of_row _ _ 1 _ _ _ hSz; have c0_2 := cell_of_row _ _ 2 _ _ _ hSz; have c0_3 := cell_of_row _ _ 3 _ _ _ hSz; have c0_4 := cell_of_row _ _ 4 _ _ _ hSz; have c0_5 := cell_of_row _ _ 5 _ _ _ hSz; have c0_6 := cell_of_row _ _ 6 _ _ _ hSz; simp at c0_0 c0_1 c0_2 c0_3 c0_4 c0_5 c0_6; go_simp; try with_reducible rfl)⟩) hS0 ?_
  go_simp
  refine wpAnyH_take (i := 2) (v := ?_) rfl (by kernel_rfl) (by kernel_rfl) (by kernel_rfl) (fun _ _ _ h => h) (Or.inl ⟨by kernel_rfl, by (intro wz hSz; go_simp; try with_reducible rfl)⟩) hS0 ?_
  go_simp
  refine wpAnyH_take (i := 3) (v := ?_) rfl (by kernel_rfl) (by kernel_rfl) (by kernel_rfl) (fun _ _ _ h => h) (Or.inl ⟨by kernel_rfl, by (intro wz hSz; have c0_0 := cell_of_row _ _ 0 _ _ _ hSz; have c0_1 := cell_of_row _ _ 1 _ _ _ hSz; have c0_2 := cell_of_row _ _ 2 _ _ _ hSz; have c0_3 := cell_of_row _ _ 3 _ _ _ hSz; have c0_4 := cell_of_row _ _ 4 _ _ _ hSz; have c0_5 := cell_of_row _ _ 5 _ _ _ hSz; have c0_6 := cell_of_row _ _ 6 _ _ _ hSz; simp at c0_0 c0_1 c0_2 c0_3 c0_4 c0_5 c0_6; go_simp; try with_reducible rfl)⟩) hS0 ?_
  go_simp
  refine wpAnyH_take (i := 4) (v := ?_) rfl (by kernel_rfl) (by kernel_rfl) (by kernel_rfl) (fun _ _ _ h => h) (Or.inl ⟨by kernel_rfl, by (intro wz hSz; go_simp; try with_reducible rfl)⟩) hS0 ?_
  go_simp
  refine wpAnyH_ready (rs := [5]) (by kernel_rfl) (by simp) ?_
  refine AllReadyH.cons rfl (fun K hK => ?_) AllReadyH.nil
  go_simp
  go_wp2_with (go_at_call 81; refine (scale_any _ _ _ _ _).mono ?_; rintro e y2 ⟨rfl, hb2⟩)
  have hr2_0 := (hb2.block _ (lt_heap hr1_0)).trans hr1_0
  have hr2_1 := (hb2.block _ (lt_heap hr1_1)).trans hr1_1
  have HU2 := Lib.hid (HU1.out.trans (hb2.mono HU1.out.size))
  refine hK.out _ _ ((hb2.block _ (lt_heap hS0)).trans hS0) (fun hS2c => ?_)
  clear hK K
  refine wpAnyH_ready (rs := [6]) (by kernel_rfl) (by simp) ?_
  refine AllReadyH.cons rfl (fun K hK => ?_) AllReadyH.nil
  go_simp
  go_wp2_with (go_at_call 80; refine (vadd_any _ _ _ _ _ _ _).mono ?_; rintro e y3 ⟨rfl, hb3⟩)
  have hr3_0 := (hb3.block _ (lt_heap hr2_0)).trans hr2_0
  have hr3_1 := (hb3.block _ (lt_heap hr2_1)).trans hr2_1
  have HU3 := Lib.hid (HU2.out.trans (hb3.mono HU2.out.size))
  refine hK.out _ _ ((hb3.block _ (lt_heap hS2c)).trans hS2c) (fun hS3c => ?_)
  clear hK K
  refine wpAnyH_ready (rs := [7]) (by kernel_rfl) (by simp) ?_
  refine AllReadyH.cons rfl (fun K hK => ?_) AllReadyH.nil
  refine step_store_row rfl 71 (.tmp 4) (.tmp 11) rfl #[.int .i64 0, .int .i64 0, .int .i64 0] #[.int .i64 (Pl.add fx (Pl.mul dx t)), .int .i64 (Pl.add fy (Pl.mul dy t)), .int .i64 (Pl.add fz (Pl.mul dz t))] _ 71 hr3_1 rfl (by first | rfl | (go_simp; done) | (go_simp; rfl)) (by kernel_rfl) rfl (by simp [Value.oneCell']) ?_
  have hN := setRow_heap _ (w.heap.size + 1) _ #[.int .i64 (Pl.add fx (Pl.mul dx t)), .int .i64 (Pl.add fy (Pl.mul dy t)), .int .i64 (Pl.add fz (Pl.mul dz t))] _ _ hr3_1
  have hsz := HU3.out.size
  have HUx := below_setRow (g := w.heap.size + 1) HU3.out (by first | omega | (simp at *; omega)) #[.int .i64 (Pl.add fx (Pl.mul dx t)), .int .i64 (Pl.add fy (Pl.mul dy t)), .int .i64 (Pl.add fz (Pl.mul dz t))]
  obtain ⟨y4, hy4⟩ : ∃ y, y3.setRow (w.heap.size + 1) #[.int .i64 (Pl.add fx (Pl.mul dx t)), .int .i64 (Pl.add fy (Pl.mul dy t)), .int .i64 (Pl.add fz (Pl.mul dz t))] = y := ⟨_, rfl⟩
  have hO : ∀ k, k ≠ w.heap.size + 1 → y4.heap[k]? = y3.heap[k]? := fun k hk => by rw [← hy4]; exact setRow_other _ _ _ _ hk
  rw [hy4] at hN HUx ⊢
  clear hy4
  have HU4 := Lib.hid HUx
  clear HUx
  have hr4_0 := (hO _ (by omega)).trans hr3_0
  have hr4_1 := hN
  clear hN
  refine hK.out _ _ ((hO _ (by omega)).trans hS3c) (fun hS4s => ?_)
  clear hK K
  refine wpAnyH_done (by kernel_rfl) ?_ _
  have c1_0 := cell_of_row _ _ 0 _ _ _ hr4_1
  have c1_1 := cell_of_row _ _ 1 _ _ _ hr4_1
  have c1_2 := cell_of_row _ _ 2 _ _ _ hr4_1
  simp at c1_0 c1_1 c1_2
  go_wp2
  exact bodyPost_ret (v := .agg #[.int .i64 (Pl.add fx (Pl.mul dx t)), .int .i64 (Pl.add fy (Pl.mul dy t)), .int .i64 (Pl.add fz (Pl.mul dz t))]) (by simp [results, Try.results31, go_sem, c1_0, c1_1, c1_2]) rfl ⟨rfl, HU4.out⟩

set_option maxHeartbeats 2000000 in
set_option maxRecDepth 100000 in
theorem rray_at (fx fy fz dx dy dz pt t : Int) (w : World)  : Calls Try.prog 32 #[.agg #[.int .i64 fx, .int .i64 fy, .int .i64 fz, .int .i64 dx, .int .i64 dy, .int .i64 dz, .int .i64 pt], .int .i64 t] w fun e' w' => e' = .returned (.agg #[.int .i64 (Pl.add fx (Pl.mul dx t)), .int .i64 (Pl.add fy (Pl.mul dy t)), .int .i64 (Pl.add fz (Pl.mul dz t))]) ∧ Below w.heap.size w w' := by
  go_enter Try.func32, Try.ntmps32
  go_upto_region 1 with fail
  have hR := Au.rows2 w (.cells #[.int .i64 fx, .int .i64 fy, .int .i64 fz, .int .i64 dx, .int .i64 dy, .int .i64 dz, .int .i64 pt] 97) (.cells #[.int .i64 0, .int .i64 0, .int .i64 0] 59)
  have HUx := below_n2 w (.cells #[.int .i64 fx, .int .i64 fy, .int .i64 fz, .int .i64 dx, .int .i64 dy, .int .i64 dz, .int .i64 pt] 97) (.cells #[.int .i64 0, .int .i64 0, .int .i64 0] 59)
  obtain ⟨y0, hy0⟩ : ∃ y0, (w.alloc (.cells #[.int .i64 fx, .int .i64 fy, .int .i64 fz, .int .i64 dx, .int .i64 dy, .int .i64 dz, .int .i64 pt] 97)).alloc (.cells #[.int .i64 0, .int .i64 0, .int .i64 0] 59) = y0 := ⟨_, rfl⟩
  rw [hy0] at hR HUx ⊢
  clear hy0
  have HU0 := Lib.hid HUx
  clear HUx
  obtain ⟨hr0_0, hr0_1⟩ := hR
  refine wp_region_held_drew (S := fun y => y.heap[w.heap.size]? = some (.cells #[.int .i64 fx, .int .i64 fy, .int .i64 fz, .int .i64 dx, .int .i64 dy, .int .i64 dz, .int .i64 pt] 97 (0, 0))) (by kernel_rfl) (hr0_0) (fun hS0 => ?_)
  obtain ⟨y1, hy1⟩ : ∃ y, y0.drew = y := ⟨_, rfl⟩
  have HU1 := Lib.hid (show Below w.heap.size w y1 by rw [← hy1]; exact HU0.out.drew)
  have hr1_0 : y1.heap[w.heap.size]? = some (.cells #[.int .i64 fx, .int .i64 fy, .int .i64 fz, .int .i64 dx, .int .i64 dy, .int .i64 dz, .int .i64 pt] 97 (0, 0)) := by rw [← hy1]; exact hr0_0
  have hr1_1 : y1.heap[w.heap.size + 1]? = some (.cells #[.int .i64 0, .int .i64 0, .int .i64 0] 59 (0, 0)) := by rw [← hy1]; exact hr0_1
  rw [hy1] at hS0 ⊢
  clear hy1
  refine wpAnyH_take (i := 0) (v := ?_) rfl (by kernel_rfl) (by kernel_rfl) (by kernel_rfl) (fun _ _ _ h => h) (Or.inl ⟨by kernel_rfl, by (intro wz hSz; go_simp; try with_reducible rfl)⟩) hS0 ?_
  go_simp
  refine wpAnyH_take (i := 1) (v := ?_) rfl (by kernel_rfl) (by kernel_rfl) (by kernel_rfl) (fun _ _ _ h => h) (Or.inl ⟨by kernel_rfl, by (intro wz hSz; have c0_0 := cell_of_row _ _ 0 _ _ _ hSz; have c0_1 := cell_of_row _ _ 1 _ _ _ hSz; have c0_2 := cell_of_row _ _ 2 _ _ _ hSz; have c0_3 := cell_of_row _ _ 3 _ _ _ hSz; have c0_4 := cell_of_row _ _ 4 _ _ _ hSz; have c0_5 := cell_of_row _ _ 5 _ _ _ hSz; have c0_6 := cell_of_row _ _ 6 _ _ _ hSz; simp at c0_0 c0_1 c0_2 c0_3 c0_4 c0_5 c0_6; go_simp; try with_reducible rfl)⟩) hS0 ?_
  go_simp
  refine wpAnyH_take (i := 2) (v := ?_) rfl (by kernel_rfl) (by kernel_rfl) (by kernel_rfl) (fun _ _ _ h => h) (Or.inl ⟨by kernel_rfl, by (intro wz hSz; go_simp; try with_reducible rfl)⟩) hS0 ?_
  go_simp
  refine wpAnyH_take (i := 3) (v := ?_) rfl (by kernel_rfl) (by kernel_rfl) (by kernel_rfl) (fun _ _ _ h => h) (Or.inl ⟨by kernel_rfl, by (intro wz hSz; have c0_0 := cell_of_row _ _ 0 _ _ _ hSz; have c0_1 := cell_of_row _ _ 1 _ _ _ hSz; have c0_2 := cell_of_row _ _ 2 _ _ _ hSz; have c0_3 := cell_of_row _ _ 3 _ _ _ hSz; have c0_4 := cell_of_row _ _ 4 _ _ _ hSz; have c0_5 := cell_of_row _ _ 5 _ _ _ hSz; have c0_6 := cell_of_row _ _ 6 _ _ _ hSz; simp at c0_0 c0_1 c0_2 c0_3 c0_4 c0_5 c0_6; go_simp; try with_reducible rfl)⟩) hS0 ?_
  go_simp
  refine wpAnyH_take (i := 4) (v := ?_) rfl (by kernel_rfl) (by kernel_rfl) (by kernel_rfl) (fun _ _ _ h => h) (Or.inl ⟨by kernel_rfl, by (intro wz hSz; go_simp; try with_reducible rfl)⟩) hS0 ?_
  go_simp
  refine wpAnyH_ready (rs := [5]) (by kernel_rfl) (by simp) ?_
  refine AllReadyH.cons rfl (fun K hK => ?_) AllReadyH.nil
  go_simp
  go_wp2_with (go_at_call 83; refine (rscale_any _ _ _ _ _).mono ?_; rintro e y2 ⟨rfl, hb2⟩)
  have hr2_0 := (hb2.block _ (lt_heap hr1_0)).trans hr1_0
  have hr2_1 := (hb2.block _ (lt_heap hr1_1)).trans hr1_1
  have HU2 := Lib.hid (HU1.out.trans (hb2.mono HU1.out.size))
  refine hK.out _ _ ((hb2.block _ (lt_heap hS0)).trans hS0) (fun hS2c => ?_)
  clear hK K
  refine wpAnyH_ready (rs := [6]) (by kernel_rfl) (by simp) ?_
  refine AllReadyH.cons rfl (fun K hK => ?_) AllReadyH.nil
  go_simp
  go_wp2_with (go_at_call 82; refine (radd_any _ _ _ _ _ _ _).mono ?_; rintro e y3 ⟨rfl, hb3⟩)
  have hr3_0 := (hb3.block _ (lt_heap hr2_0)).trans hr2_0
  have hr3_1 := (hb3.block _ (lt_heap hr2_1)).trans hr2_1
  have HU3 := Lib.hid (HU2.out.trans (hb3.mono HU2.out.size))
  refine hK.out _ _ ((hb3.block _ (lt_heap hS2c)).trans hS2c) (fun hS3c => ?_)
  clear hK K
  refine wpAnyH_ready (rs := [7]) (by kernel_rfl) (by simp) ?_
  refine AllReadyH.cons rfl (fun K hK => ?_) AllReadyH.nil
  refine step_store_row rfl 59 (.tmp 4) (.tmp 11) rfl #[.int .i64 0, .int .i64 0, .int .i64 0] #[.int .i64 (Pl.add fx (Pl.mul dx t)), .int .i64 (Pl.add fy (Pl.mul dy t)), .int .i64 (Pl.add fz (Pl.mul dz t))] _ 59 hr3_1 rfl (by first | rfl | (go_simp; done) | (go_simp; rfl)) (by kernel_rfl) rfl (by simp [Value.oneCell']) ?_
  have hN := setRow_heap _ (w.heap.size + 1) _ #[.int .i64 (Pl.add fx (Pl.mul dx t)), .int .i64 (Pl.add fy (Pl.mul dy t)), .int .i64 (Pl.add fz (Pl.mul dz t))] _ _ hr3_1
  have hsz := HU3.out.size
  have HUx := below_setRow (g := w.heap.size + 1) HU3.out (by first | omega | (simp at *; omega)) #[.int .i64 (Pl.add fx (Pl.mul dx t)), .int .i64 (Pl.add fy (Pl.mul dy t)), .int .i64 (Pl.add fz (Pl.mul dz t))]
  obtain ⟨y4, hy4⟩ : ∃ y, y3.setRow (w.heap.size + 1) #[.int .i64 (Pl.add fx (Pl.mul dx t)), .int .i64 (Pl.add fy (Pl.mul dy t)), .int .i64 (Pl.add fz (Pl.mul dz t))] = y := ⟨_, rfl⟩
  have hO : ∀ k, k ≠ w.heap.size + 1 → y4.heap[k]? = y3.heap[k]? := fun k hk => by rw [← hy4]; exact setRow_other _ _ _ _ hk
  rw [hy4] at hN HUx ⊢
  clear hy4
  have HU4 := Lib.hid HUx
  clear HUx
  have hr4_0 := (hO _ (by omega)).trans hr3_0
  have hr4_1 := hN
  clear hN
  refine hK.out _ _ ((hO _ (by omega)).trans hS3c) (fun hS4s => ?_)
  clear hK K
  refine wpAnyH_done (by kernel_rfl) ?_ _
  have c1_0 := cell_of_row _ _ 0 _ _ _ hr4_1
  have c1_1 := cell_of_row _ _ 1 _ _ _ hr4_1
  have c1_2 := cell_of_row _ _ 2 _ _ _ hr4_1
  simp at c1_0 c1_1 c1_2
  go_wp2
  exact bodyPost_ret (v := .agg #[.int .i64 (Pl.add fx (Pl.mul dx t)), .int .i64 (Pl.add fy (Pl.mul dy t)), .int .i64 (Pl.add fz (Pl.mul dz t))]) (by simp [results, Try.results32, go_sem, c1_0, c1_1, c1_2]) rfl ⟨rfl, HU4.out⟩

set_option maxHeartbeats 2000000 in
set_option maxRecDepth 100000 in
theorem span_any (fx fy fz dx dy dz pt a b : Int) (w : World)  : Calls Try.prog 33 #[.agg #[.int .i64 fx, .int .i64 fy, .int .i64 fz, .int .i64 dx, .int .i64 dy, .int .i64 dz, .int .i64 pt], .int .i64 a, .int .i64 b] w fun e' w' => e' = .returned (.agg #[.int .i64 (min (Pl.add fx (Pl.mul dx a)) (Pl.add fx (Pl.mul dx b))), .int .i64 (min (Pl.add fy (Pl.mul dy a)) (Pl.add fy (Pl.mul dy b))), .int .i64 (min (Pl.add fz (Pl.mul dz a)) (Pl.add fz (Pl.mul dz b))), .int .i64 (max (Pl.add fx (Pl.mul dx a)) (Pl.add fx (Pl.mul dx b))), .int .i64 (max (Pl.add fy (Pl.mul dy a)) (Pl.add fy (Pl.mul dy b))), .int .i64 (max (Pl.add fz (Pl.mul dz a)) (Pl.add fz (Pl.mul dz b)))]) ∧ Below w.heap.size w w' := by
  go_enter Try.func33, Try.ntmps33
  go_upto_region 1 with fail
  have hR := Au.rows2 w (.cells #[.int .i64 fx, .int .i64 fy, .int .i64 fz, .int .i64 dx, .int .i64 dy, .int .i64 dz, .int .i64 pt] 101) (.cells #[.int .i64 0, .int .i64 0, .int .i64 0, .int .i64 0, .int .i64 0, .int .i64 0] 73)
  have HUx := below_n2 w (.cells #[.int .i64 fx, .int .i64 fy, .int .i64 fz, .int .i64 dx, .int .i64 dy, .int .i64 dz, .int .i64 pt] 101) (.cells #[.int .i64 0, .int .i64 0, .int .i64 0, .int .i64 0, .int .i64 0, .int .i64 0] 73)
  obtain ⟨y0, hy0⟩ : ∃ y0, (w.alloc (.cells #[.int .i64 fx, .int .i64 fy, .int .i64 fz, .int .i64 dx, .int .i64 dy, .int .i64 dz, .int .i64 pt] 101)).alloc (.cells #[.int .i64 0, .int .i64 0, .int .i64 0, .int .i64 0, .int .i64 0, .int .i64 0] 73) = y0 := ⟨_, rfl⟩
  rw [hy0] at hR HUx ⊢
  clear hy0
  have HU0 := Lib.hid HUx
  clear HUx
  obtain ⟨hr0_0, hr0_1⟩ := hR
  refine wp_region_held_drew (S := fun y => y.heap[w.heap.size]? = some (.cells #[.int .i64 fx, .int .i64 fy, .int .i64 fz, .int .i64 dx, .int .i64 dy, .int .i64 dz, .int .i64 pt] 101 (0, 0))) (by kernel_rfl) (hr0_0) (fun hS0 => ?_)
  obtain ⟨y1, hy1⟩ : ∃ y, y0.drew = y := ⟨_, rfl⟩
  have HU1 := Lib.hid (show Below w.heap.size w y1 by rw [← hy1]; exact HU0.out.drew)
  have hr1_0 : y1.heap[w.heap.size]? = some (.cells #[.int .i64 fx, .int .i64 fy, .int .i64 fz, .int .i64 dx, .int .i64 dy, .int .i64 dz, .int .i64 pt] 101 (0, 0)) := by rw [← hy1]; exact hr0_0
  have hr1_1 : y1.heap[w.heap.size + 1]? = some (.cells #[.int .i64 0, .int .i64 0, .int .i64 0, .int .i64 0, .int .i64 0, .int .i64 0] 73 (0, 0)) := by rw [← hy1]; exact hr0_1
  rw [hy1] at hS0 ⊢
  clear hy1
  refine wpAnyH_take (i := 0) (v := ?_) rfl (by kernel_rfl) (by kernel_rfl) (by kernel_rfl) (fun _ _ _ h => h) (Or.inl ⟨by kernel_rfl, by (intro wz hSz; have c0_0 := cell_of_row _ _ 0 _ _ _ hSz; have c0_1 := cell_of_row _ _ 1 _ _ _ hSz; have c0_2 := cell_of_row _ _ 2 _ _ _ hSz; have c0_3 := cell_of_row _ _ 3 _ _ _ hSz; have c0_4 := cell_of_row _ _ 4 _ _ _ hSz; have c0_5 := cell_of_row _ _ 5 _ _ _ hSz; have c0_6 := cell_of_row _ _ 6 _ _ _ hSz; simp at c0_0 c0_1 c0_2 c0_3 c0_4 c0_5 c0_6; go_simp; try with_reducible rfl)⟩) hS0 ?_
  go_simp
  refine wpAnyH_take (i := 1) (v := ?_) rfl (by kernel_rfl) (by kernel_rfl) (by kernel_rfl) (fun _ _ _ h => h) (Or.inl ⟨by kernel_rfl, by (intro wz hSz; go_simp; try with_reducible rfl)⟩) hS0 ?_
  go_simp
  refine wpAnyH_take (i := 3) (v := ?_) rfl (by kernel_rfl) (by kernel_rfl) (by kernel_rfl) (fun _ _ _ h => h) (Or.inl ⟨by kernel_rfl, by (intro wz hSz; have c0_0 := cell_of_row _ _ 0 _ _ _ hSz; have c0_1 := cell_of_row _ _ 1 _ _ _ hSz; have c0_2 := cell_of_row _ _ 2 _ _ _ hSz; have c0_3 := cell_of_row _ _ 3 _ _ _ hSz; have c0_4 := cell_of_row _ _ 4 _ _ _ hSz; have c0_5 := cell_of_row _ _ 5 _ _ _ hSz; have c0_6 := cell_of_row _ _ 6 _ _ _ hSz; simp at c0_0 c0_1 c0_2 c0_3 c0_4 c0_5 c0_6; go_simp; try with_reducible rfl)⟩) hS0 ?_
  go_simp
  refine wpAnyH_take (i := 4) (v := ?_) rfl (by kernel_rfl) (by kernel_rfl) (by kernel_rfl) (fun _ _ _ h => h) (Or.inl ⟨by kernel_rfl, by (intro wz hSz; go_simp; try with_reducible rfl)⟩) hS0 ?_
  go_simp
  refine wpAnyH_ready (rs := [2]) (by kernel_rfl) (by simp) ?_
  refine AllReadyH.cons rfl (fun K hK => ?_) AllReadyH.nil
  go_simp
  go_wp2_with (go_at_call 31; refine (ray_at _ _ _ _ _ _ _ _ _).mono ?_; rintro e y2 ⟨rfl, hb2⟩)
  have hr2_0 := (hb2.block _ (lt_heap hr1_0)).trans hr1_0
  have hr2_1 := (hb2.block _ (lt_heap hr1_1)).trans hr1_1
  have HU2 := Lib.hid (HU1.out.trans (hb2.mono HU1.out.size))
  refine hK.out _ _ ((hb2.block _ (lt_heap hS0)).trans hS0) (fun hS2c => ?_)
  clear hK K
  refine wpAnyH_ready (rs := [5]) (by kernel_rfl) (by simp) ?_
  refine AllReadyH.cons rfl (fun K hK => ?_) AllReadyH.nil
  go_simp
  go_wp2_with (go_at_call 31; refine (ray_at _ _ _ _ _ _ _ _ _).mono ?_; rintro e y3 ⟨rfl, hb3⟩)
  have hr3_0 := (hb3.block _ (lt_heap hr2_0)).trans hr2_0
  have hr3_1 := (hb3.block _ (lt_heap hr2_1)).trans hr2_1
  have HU3 := Lib.hid (HU2.out.trans (hb3.mono HU2.out.size))
  refine hK.out _ _ ((hb3.block _ (lt_heap hS2c)).trans hS2c) (fun hS3c => ?_)
  clear hK K
  refine wpAnyH_ready (rs := [6]) (by kernel_rfl) (by simp) ?_
  refine AllReadyH.cons rfl (fun K hK => ?_) AllReadyH.nil
  go_simp
  have hb4 := below_n1 y3 (.cells #[.int .i64 (Pl.add fx (Pl.mul dx b)), .int .i64 (Pl.add fy (Pl.mul dy b)), .int .i64 (Pl.add fz (Pl.mul dz b))] 71)
  have hN := heap_alloc_last y3 (.cells #[.int .i64 (Pl.add fx (Pl.mul dx b)), .int .i64 (Pl.add fy (Pl.mul dy b)), .int .i64 (Pl.add fz (Pl.mul dz b))] 71)
  obtain ⟨y4, hy4⟩ : ∃ y, y3.alloc (.cells #[.int .i64 (Pl.add fx (Pl.mul dx b)), .int .i64 (Pl.add fy (Pl.mul dy b)), .int .i64 (Pl.add fz (Pl.mul dz b))] 71) = y := ⟨_, rfl⟩
  rw [hy4] at hb4 hN ⊢
  clear hy4
  have hl4_0 := lt_heap hr3_0
  have hr4_0 := (hb4.block _ (lt_heap hr3_0)).trans hr3_0
  have hl4_1 := lt_heap hr3_1
  have hr4_1 := (hb4.block _ (lt_heap hr3_1)).trans hr3_1
  have hr4_2 := hN
  clear hN
  have HU4 := Lib.hid (HU3.out.trans (hb4.mono HU3.out.size))
  refine hK.out _ _ ((hb4.block _ (lt_heap hS3c)).trans hS3c) (fun hS4a => ?_)
  clear hK K
  refine wpAnyH_ready (rs := [7]) (by kernel_rfl) (by simp) ?_
  refine AllReadyH.cons rfl (fun K hK => ?_) AllReadyH.nil
  go_simp
  go_wp2_with (go_at_call 84; refine (of_any _ _ _ (.slice (some ⟨y3.heap.size, 0, none⟩) 1 1) 1 (fun _ => Pl.add fx (Pl.mul dx b)) (fun _ => Pl.add fy (Pl.mul dy b)) (fun _ => Pl.add fz (Pl.mul dz b)) (by omega) _ (.inr ⟨y3.heap.size, 0, 1, rfl, lt_heap hr4_2, fun j hj => by obtain rfl : j = 0 := (by omega); exact ⟨cell_of_row _ _ 0 _ _ _ hr4_2, cell_of_row _ _ 1 _ _ _ hr4_2, cell_of_row _ _ 2 _ _ _ hr4_2⟩⟩)).mono ?_; rintro e y5 ⟨rfl, hb5⟩)
  have hr5_0 := (hb5.block _ (lt_heap hr4_0)).trans hr4_0
  have hr5_1 := (hb5.block _ (lt_heap hr4_1)).trans hr4_1
  have hr5_2 := (hb5.block _ (lt_heap hr4_2)).trans hr4_2
  have HU5 := Lib.hid (HU4.out.trans (hb5.mono HU4.out.size))
  refine hK.out _ _ ((hb5.block _ (lt_heap hS4a)).trans hS4a) (fun hS5c => ?_)
  clear hK K
  refine wpAnyH_ready (rs := [8]) (by kernel_rfl) (by simp) ?_
  refine AllReadyH.cons rfl (fun K hK => ?_) AllReadyH.nil
  refine step_store_row rfl 73 (.tmp 6) (.tmp 14) rfl #[.int .i64 0, .int .i64 0, .int .i64 0, .int .i64 0, .int .i64 0, .int .i64 0] #[.int .i64 (min (Pl.add fx (Pl.mul dx a)) (Pl.add fx (Pl.mul dx b))), .int .i64 (min (Pl.add fy (Pl.mul dy a)) (Pl.add fy (Pl.mul dy b))), .int .i64 (min (Pl.add fz (Pl.mul dz a)) (Pl.add fz (Pl.mul dz b))), .int .i64 (max (Pl.add fx (Pl.mul dx a)) (Pl.add fx (Pl.mul dx b))), .int .i64 (max (Pl.add fy (Pl.mul dy a)) (Pl.add fy (Pl.mul dy b))), .int .i64 (max (Pl.add fz (Pl.mul dz a)) (Pl.add fz (Pl.mul dz b)))] _ 73 hr5_1 rfl (by first | rfl | (go_simp; done) | (go_simp; rfl)) (by kernel_rfl) rfl (by simp [Value.oneCell']) ?_
  have hN := setRow_heap _ (w.heap.size + 1) _ #[.int .i64 (min (Pl.add fx (Pl.mul dx a)) (Pl.add fx (Pl.mul dx b))), .int .i64 (min (Pl.add fy (Pl.mul dy a)) (Pl.add fy (Pl.mul dy b))), .int .i64 (min (Pl.add fz (Pl.mul dz a)) (Pl.add fz (Pl.mul dz b))), .int .i64 (max (Pl.add fx (Pl.mul dx a)) (Pl.add fx (Pl.mul dx b))), .int .i64 (max (Pl.add fy (Pl.mul dy a)) (Pl.add fy (Pl.mul dy b))), .int .i64 (max (Pl.add fz (Pl.mul dz a)) (Pl.add fz (Pl.mul dz b)))] _ _ hr5_1
  have hsz := HU5.out.size
  have HUx := below_setRow (g := w.heap.size + 1) HU5.out (by first | omega | (simp at *; omega)) #[.int .i64 (min (Pl.add fx (Pl.mul dx a)) (Pl.add fx (Pl.mul dx b))), .int .i64 (min (Pl.add fy (Pl.mul dy a)) (Pl.add fy (Pl.mul dy b))), .int .i64 (min (Pl.add fz (Pl.mul dz a)) (Pl.add fz (Pl.mul dz b))), .int .i64 (max (Pl.add fx (Pl.mul dx a)) (Pl.add fx (Pl.mul dx b))), .int .i64 (max (Pl.add fy (Pl.mul dy a)) (Pl.add fy (Pl.mul dy b))), .int .i64 (max (Pl.add fz (Pl.mul dz a)) (Pl.add fz (Pl.mul dz b)))]
  obtain ⟨y6, hy6⟩ : ∃ y, y5.setRow (w.heap.size + 1) #[.int .i64 (min (Pl.add fx (Pl.mul dx a)) (Pl.add fx (Pl.mul dx b))), .int .i64 (min (Pl.add fy (Pl.mul dy a)) (Pl.add fy (Pl.mul dy b))), .int .i64 (min (Pl.add fz (Pl.mul dz a)) (Pl.add fz (Pl.mul dz b))), .int .i64 (max (Pl.add fx (Pl.mul dx a)) (Pl.add fx (Pl.mul dx b))), .int .i64 (max (Pl.add fy (Pl.mul dy a)) (Pl.add fy (Pl.mul dy b))), .int .i64 (max (Pl.add fz (Pl.mul dz a)) (Pl.add fz (Pl.mul dz b)))] = y := ⟨_, rfl⟩
  have hO : ∀ k, k ≠ w.heap.size + 1 → y6.heap[k]? = y5.heap[k]? := fun k hk => by rw [← hy6]; exact setRow_other _ _ _ _ hk
  rw [hy6] at hN HUx ⊢
  clear hy6
  have HU6 := Lib.hid HUx
  clear HUx
  have hr6_0 := (hO _ (by omega)).trans hr5_0
  have hr6_1 := hN
  have hr6_2 := (hO _ (by omega)).trans hr5_2
  clear hN
  refine hK.out _ _ ((hO _ (by omega)).trans hS5c) (fun hS6s => ?_)
  clear hK K
  refine wpAnyH_done (by kernel_rfl) ?_ _
  have c1_0 := cell_of_row _ _ 0 _ _ _ hr6_1
  have c1_1 := cell_of_row _ _ 1 _ _ _ hr6_1
  have c1_2 := cell_of_row _ _ 2 _ _ _ hr6_1
  have c1_3 := cell_of_row _ _ 3 _ _ _ hr6_1
  have c1_4 := cell_of_row _ _ 4 _ _ _ hr6_1
  have c1_5 := cell_of_row _ _ 5 _ _ _ hr6_1
  simp at c1_0 c1_1 c1_2 c1_3 c1_4 c1_5
  go_wp2
  exact bodyPost_ret (v := .agg #[.int .i64 (min (Pl.add fx (Pl.mul dx a)) (Pl.add fx (Pl.mul dx b))), .int .i64 (min (Pl.add fy (Pl.mul dy a)) (Pl.add fy (Pl.mul dy b))), .int .i64 (min (Pl.add fz (Pl.mul dz a)) (Pl.add fz (Pl.mul dz b))), .int .i64 (max (Pl.add fx (Pl.mul dx a)) (Pl.add fx (Pl.mul dx b))), .int .i64 (max (Pl.add fy (Pl.mul dy a)) (Pl.add fy (Pl.mul dy b))), .int .i64 (max (Pl.add fz (Pl.mul dz a)) (Pl.add fz (Pl.mul dz b)))]) (by simp [results, Try.results33, go_sem, c1_0, c1_1, c1_2, c1_3, c1_4, c1_5]) rfl ⟨rfl, HU6.out⟩

set_option maxHeartbeats 8000000 in
set_option maxRecDepth 100000 in
theorem moving_at (a0 a1 a2 a3 a4 a5 a6 a7 a8 a9 a10 a11 a12 a13 a14 a15 a16 a17 a18 a19 a20 a21 a22 a23 t : Int) (w : World)  : Calls Try.prog 43 #[.agg #[.int .i64 a0, .int .i64 a1, .int .i64 a2, .int .i64 a3, .int .i64 a4, .int .i64 a5, .int .i64 a6, .int .i64 a7, .int .i64 a8, .int .i64 a9, .int .i64 a10, .int .i64 a11, .int .i64 a12, .int .i64 a13, .int .i64 a14, .int .i64 a15, .int .i64 a16, .int .i64 a17, .int .i64 a18, .int .i64 a19, .int .i64 a20, .int .i64 a21, .int .i64 a22, .int .i64 a23], .int .i64 t] w fun e' w' => e' = .returned (.agg #[.int .i64 a0, .int .i64 a1, .int .i64 (Pl.lerp a2 a14 t), .int .i64 (Pl.lerp a3 a15 t), .int .i64 (Pl.lerp a4 a16 t), .int .i64 (Pl.lerp a5 a17 t), .int .i64 (Pl.lerp a6 a18 t), .int .i64 (Pl.lerp a7 a19 t), .int .i64 (Pl.lerp a8 a20 t), .int .i64 (Pl.lerp a9 a21 t), .int .i64 (Pl.lerp a10 a22 t), .int .i64 (Pl.lerp a11 a23 t)]) ∧ Below w.heap.size w w' := by
  go_enter Try.func43, Try.ntmps43
  go_upto_region 1 with fail
  have hR := Au.rows2 w (.cells #[.int .i64 a0, .int .i64 a1, .int .i64 a2, .int .i64 a3, .int .i64 a4, .int .i64 a5, .int .i64 a6, .int .i64 a7, .int .i64 a8, .int .i64 a9, .int .i64 a10, .int .i64 a11, .int .i64 a12, .int .i64 a13, .int .i64 a14, .int .i64 a15, .int .i64 a16, .int .i64 a17, .int .i64 a18, .int .i64 a19, .int .i64 a20, .int .i64 a21, .int .i64 a22, .int .i64 a23] 91) (.cells #[.int .i64 0, .int .i64 0, .int .i64 0, .int .i64 0, .int .i64 0, .int .i64 0, .int .i64 0, .int .i64 0, .int .i64 0, .int .i64 0, .int .i64 0, .int .i64 0] 89)
  have HUx := below_n2 w (.cells #[.int .i64 a0, .int .i64 a1, .int .i64 a2, .int .i64 a3, .int .i64 a4, .int .i64 a5, .int .i64 a6, .int .i64 a7, .int .i64 a8, .int .i64 a9, .int .i64 a10, .int .i64 a11, .int .i64 a12, .int .i64 a13, .int .i64 a14, .int .i64 a15, .int .i64 a16, .int .i64 a17, .int .i64 a18, .int .i64 a19, .int .i64 a20, .int .i64 a21, .int .i64 a22, .int .i64 a23] 91) (.cells #[.int .i64 0, .int .i64 0, .int .i64 0, .int .i64 0, .int .i64 0, .int .i64 0, .int .i64 0, .int .i64 0, .int .i64 0, .int .i64 0, .int .i64 0, .int .i64 0] 89)
  obtain ⟨y0, hy0⟩ : ∃ y0, (w.alloc (.cells #[.int .i64 a0, .int .i64 a1, .int .i64 a2, .int .i64 a3, .int .i64 a4, .int .i64 a5, .int .i64 a6, .int .i64 a7, .int .i64 a8, .int .i64 a9, .int .i64 a10, .int .i64 a11, .int .i64 a12, .int .i64 a13, .int .i64 a14, .int .i64 a15, .int .i64 a16, .int .i64 a17, .int .i64 a18, .int .i64 a19, .int .i64 a20, .int .i64 a21, .int .i64 a22, .int .i64 a23] 91)).alloc (.cells #[.int .i64 0, .int .i64 0, .int .i64 0, .int .i64 0, .int .i64 0, .int .i64 0, .int .i64 0, .int .i64 0, .int .i64 0, .int .i64 0, .int .i64 0, .int .i64 0] 89) = y0 := ⟨_, rfl⟩
  rw [hy0] at hR HUx ⊢
  clear hy0
  have HU0 := Lib.hid HUx
  clear HUx
  obtain ⟨hr0_0, hr0_1⟩ := hR
  have hbz := HU0.out.size
  have hw0 : IntKind.i64.wrap 0 = 0 := rfl
  have hw1 : IntKind.i64.wrap 1 = 1 := rfl
  have hw2 : IntKind.i64.wrap 2 = 2 := rfl
  have c0_0 := cell_of_row _ _ 0 _ _ _ hr0_0
  have c0_1 := cell_of_row _ _ 1 _ _ _ hr0_0
  have c0_2 := cell_of_row _ _ 2 _ _ _ hr0_0
  have c0_3 := cell_of_row _ _ 3 _ _ _ hr0_0
  have c0_4 := cell_of_row _ _ 4 _ _ _ hr0_0
  have c0_5 := cell_of_row _ _ 5 _ _ _ hr0_0
  have c0_6 := cell_of_row _ _ 6 _ _ _ hr0_0
  have c0_7 := cell_of_row _ _ 7 _ _ _ hr0_0
  have c0_8 := cell_of_row _ _ 8 _ _ _ hr0_0
  have c0_9 := cell_of_row _ _ 9 _ _ _ hr0_0
  have c0_10 := cell_of_row _ _ 10 _ _ _ hr0_0
  have c0_11 := cell_of_row _ _ 11 _ _ _ hr0_0
  have c0_12 := cell_of_row _ _ 12 _ _ _ hr0_0
  have c0_13 := cell_of_row _ _ 13 _ _ _ hr0_0
  have c0_14 := cell_of_row _ _ 14 _ _ _ hr0_0
  have c0_15 := cell_of_row _ _ 15 _ _ _ hr0_0
  have c0_16 := cell_of_row _ _ 16 _ _ _ hr0_0
  have c0_17 := cell_of_row _ _ 17 _ _ _ hr0_0
  have c0_18 := cell_of_row _ _ 18 _ _ _ hr0_0
  have c0_19 := cell_of_row _ _ 19 _ _ _ hr0_0
  have c0_20 := cell_of_row _ _ 20 _ _ _ hr0_0
  have c0_21 := cell_of_row _ _ 21 _ _ _ hr0_0
  have c0_22 := cell_of_row _ _ 22 _ _ _ hr0_0
  have c0_23 := cell_of_row _ _ 23 _ _ _ hr0_0
  have c1_0 := cell_of_row _ _ 0 _ _ _ hr0_1
  have c1_1 := cell_of_row _ _ 1 _ _ _ hr0_1
  have c1_2 := cell_of_row _ _ 2 _ _ _ hr0_1
  have c1_3 := cell_of_row _ _ 3 _ _ _ hr0_1
  have c1_4 := cell_of_row _ _ 4 _ _ _ hr0_1
  have c1_5 := cell_of_row _ _ 5 _ _ _ hr0_1
  have c1_6 := cell_of_row _ _ 6 _ _ _ hr0_1
  have c1_7 := cell_of_row _ _ 7 _ _ _ hr0_1
  have c1_8 := cell_of_row _ _ 8 _ _ _ hr0_1
  have c1_9 := cell_of_row _ _ 9 _ _ _ hr0_1
  have c1_10 := cell_of_row _ _ 10 _ _ _ hr0_1
  have c1_11 := cell_of_row _ _ 11 _ _ _ hr0_1
  simp at c0_0 c0_1 c0_2 c0_3 c0_4 c0_5 c0_6 c0_7 c0_8 c0_9 c0_10 c0_11 c0_12 c0_13 c0_14 c0_15 c0_16 c0_17 c0_18 c0_19 c0_20 c0_21 c0_22 c0_23 c1_0 c1_1 c1_2 c1_3 c1_4 c1_5 c1_6 c1_7 c1_8 c1_9 c1_10 c1_11
  go_wp2_with fail
  clear c0_0 c0_1 c0_2 c0_3 c0_4 c0_5 c0_6 c0_7 c0_8 c0_9 c0_10 c0_11 c0_12 c0_13 c0_14 c0_15 c0_16 c0_17 c0_18 c0_19 c0_20 c0_21 c0_22 c0_23 c1_0 c1_1 c1_2 c1_3 c1_4 c1_5 c1_6 c1_7 c1_8 c1_9 c1_10 c1_11
  have hb1 := below_n1 y0 (.cells #[.int .i64 a0, .int .i64 a1, .int .i64 a2, .int .i64 a3, .int .i64 a4, .int .i64 a5, .int .i64 a6, .int .i64 a7, .int .i64 a8, .int .i64 a9, .int .i64 a10, .int .i64 a11] 89)
  have hN := heap_alloc_last y0 (.cells #[.int .i64 a0, .int .i64 a1, .int .i64 a2, .int .i64 a3, .int .i64 a4, .int .i64 a5, .int .i64 a6, .int .i64 a7, .int .i64 a8, .int .i64 a9, .int .i64 a10, .int .i64 a11] 89)
  obtain ⟨y1, hy1⟩ : ∃ y, y0.alloc (.cells #[.int .i64 a0, .int .i64 a1, .int .i64 a2, .int .i64 a3, .int .i64 a4, .int .i64 a5, .int .i64 a6, .int .i64 a7, .int .i64 a8, .int .i64 a9, .int .i64 a10, .int .i64 a11] 89) = y := ⟨_, rfl⟩
  have hs1 : y1.heap.size = y0.heap.size + 1 := by rw [← hy1]; simp
  rw [hy1] at hb1 hN ⊢
  clear hy1
  have hl1_0 := lt_heap hr0_0
  have hl1_1 := lt_heap hr0_1
  have hr1_0 := (hb1.block _ (lt_heap hr0_0)).trans hr0_0
  have hr1_1 := (hb1.block _ (lt_heap hr0_1)).trans hr0_1
  have HU1 := Lib.hid (HU0.out.trans (hb1.mono HU0.out.size))
  clear hr0_0 hr0_1 HU0
  have hr1_2 := hN
  clear hN
  refine wp_loop_rounds 4 ?_
  rw [rounds_succ]
  go_wp2_with fail
  refine wp_region_held_drew (S := fun y => y.heap[w.heap.size]? = some (.cells #[.int .i64 a0, .int .i64 a1, .int .i64 a2, .int .i64 a3, .int .i64 a4, .int .i64 a5, .int .i64 a6, .int .i64 a7, .int .i64 a8, .int .i64 a9, .int .i64 a10, .int .i64 a11, .int .i64 a12, .int .i64 a13, .int .i64 a14, .int .i64 a15, .int .i64 a16, .int .i64 a17, .int .i64 a18, .int .i64 a19, .int .i64 a20, .int .i64 a21, .int .i64 a22, .int .i64 a23] 91 (0, 0))) (by kernel_rfl) (hr1_0) (fun hS0 => ?_)
  obtain ⟨y2, hy2⟩ : ∃ y, y1.drew = y := ⟨_, rfl⟩
  have HU2 := Lib.hid (show Below w.heap.size w y2 by rw [← hy2]; exact HU1.out.drew)
  have hr2_0 : y2.heap[w.heap.size]? = some (.cells #[.int .i64 a0, .int .i64 a1, .int .i64 a2, .int .i64 a3, .int .i64 a4, .int .i64 a5, .int .i64 a6, .int .i64 a7, .int .i64 a8, .int .i64 a9, .int .i64 a10, .int .i64 a11, .int .i64 a12, .int .i64 a13, .int .i64 a14, .int .i64 a15, .int .i64 a16, .int .i64 a17, .int .i64 a18, .int .i64 a19, .int .i64 a20, .int .i64 a21, .int .i64 a22, .int .i64 a23] 91 (0, 0)) := by rw [← hy2]; exact hr1_0
  have hr2_1 : y2.heap[w.heap.size + 1]? = some (.cells #[.int .i64 0, .int .i64 0, .int .i64 0, .int .i64 0, .int .i64 0, .int .i64 0, .int .i64 0, .int .i64 0, .int .i64 0, .int .i64 0, .int .i64 0, .int .i64 0] 89 (0, 0)) := by rw [← hy2]; exact hr1_1
  have hr2_2 : y2.heap[y0.heap.size]? = some (.cells #[.int .i64 a0, .int .i64 a1, .int .i64 a2, .int .i64 a3, .int .i64 a4, .int .i64 a5, .int .i64 a6, .int .i64 a7, .int .i64 a8, .int .i64 a9, .int .i64 a10, .int .i64 a11] 89 (0, 0)) := by rw [← hy2]; exact hr1_2
  rw [hy2] at hS0 ⊢
  clear hy2
  refine wpAnyH_take (i := 0) (v := ?_) rfl (by kernel_rfl) (by kernel_rfl) (by kernel_rfl) (fun _ _ _ h => h) (Or.inl ⟨by kernel_rfl, by (intro wz hSz; go_simp; try with_reducible rfl)⟩) hS0 ?_
  go_simp
  refine wpAnyH_take (i := 1) (v := ?_) rfl (by kernel_rfl) (by kernel_rfl) (by kernel_rfl) (fun _ _ _ h => h) (Or.inl ⟨by kernel_rfl, by (intro wz hSz; go_simp; try with_reducible rfl)⟩) hS0 ?_
  go_simp
  refine wpAnyH_take (i := 2) (v := ?_) rfl (by kernel_rfl) (by kernel_rfl) (by kernel_rfl) (fun _ _ _ h => h) (Or.inl ⟨by kernel_rfl, by (intro wz hSz; go_simp; try with_reducible rfl)⟩) hS0 ?_
  go_simp
  refine wpAnyH_take (i := 3) (v := ?_) rfl (by kernel_rfl) (by kernel_rfl) (by kernel_rfl) (fun _ _ _ h => h) (Or.inl ⟨by kernel_rfl, by (intro wz hSz; go_simp; try with_reducible rfl)⟩) hS0 ?_
  go_simp
  refine wpAnyH_take (i := 4) (v := ?_) rfl (by kernel_rfl) (by kernel_rfl) (by kernel_rfl) (fun _ _ _ h => h) (Or.inl ⟨by kernel_rfl, by (intro wz hSz; go_simp; try with_reducible rfl)⟩) hS0 ?_
  go_simp
  refine wpAnyH_take (i := 5) (v := ?_) rfl (by kernel_rfl) (by kernel_rfl) (by kernel_rfl) (fun _ _ _ h => h) (Or.inl ⟨by kernel_rfl, by (intro wz hSz; have c0_0 := cell_of_row _ _ 0 _ _ _ hSz; have c0_1 := cell_of_row _ _ 1 _ _ _ hSz; have c0_2 := cell_of_row _ _ 2 _ _ _ hSz; have c0_3 := cell_of_row _ _ 3 _ _ _ hSz; have c0_4 := cell_of_row _ _ 4 _ _ _ hSz; have c0_5 := cell_of_row _ _ 5 _ _ _ hSz; have c0_6 := cell_of_row _ _ 6 _ _ _ hSz; have c0_7 := cell_of_row _ _ 7 _ _ _ hSz; have c0_8 := cell_of_row _ _ 8 _ _ _ hSz; have c0_9 := cell_of_row _ _ 9 _ _ _ hSz; have c0_10 := cell_of_row _ _ 10 _ _ _ hSz; have c0_11 := cell_of_row _ _ 11 _ _ _ hSz; have c0_12 := cell_of_row _ _ 12 _ _ _ hSz; have c0_13 := cell_of_row _ _ 13 _ _ _ hSz; have c0_14 := cell_of_row _ _ 14 _ _ _ hSz; have c0_15 := cell_of_row _ _ 15 _ _ _ hSz; have c0_16 := cell_of_row _ _ 16 _ _ _ hSz; have c0_17 := cell_of_row _ _ 17 _ _ _ hSz; have c0_18 := cell_of_row _ _ 18 _ _ _ hSz; have c0_19 := cell_of_row _ _ 19 _ _ _ hSz; have c0_20 := cell_of_row _ _ 20 _ _ _ hSz; have c0_21 := cell_of_row _ _ 21 _ _ _ hSz; have c0_22 := cell_of_row _ _ 22 _ _ _ hSz; have c0_23 := cell_of_row _ _ 23 _ _ _ hSz; simp at c0_0 c0_1 c0_2 c0_3 c0_4 c0_5 c0_6 c0_7 c0_8 c0_9 c0_10 c0_11 c0_12 c0_13 c0_14 c0_15 c0_16 c0_17 c0_18 c0_19 c0_20 c0_21 c0_22 c0_23; go_simp; try with_reducible rfl)⟩) hS0 ?_
  go_simp
  refine wpAnyH_take (i := 6) (v := ?_) rfl (by kernel_rfl) (by kernel_rfl) (by kernel_rfl) (fun _ _ _ h => h) (Or.inl ⟨by kernel_rfl, by (intro wz hSz; go_simp; try with_reducible rfl)⟩) hS0 ?_
  go_simp
  refine wpAnyH_take (i := 7) (v := ?_) rfl (by kernel_rfl) (by kernel_rfl) (by kernel_rfl) (fun _ _ _ h => h) (Or.inl ⟨by kernel_rfl, by (intro wz hSz; go_simp; try with_reducible rfl)⟩) hS0 ?_
  go_simp
  refine wpAnyH_take (i := 8) (v := ?_) rfl (by kernel_rfl) (by kernel_rfl) (by kernel_rfl) (fun _ _ _ h => h) (Or.inl ⟨by kernel_rfl, by (intro wz hSz; go_simp; try with_reducible rfl)⟩) hS0 ?_
  go_simp
  refine wpAnyH_take (i := 9) (v := ?_) rfl (by kernel_rfl) (by kernel_rfl) (by kernel_rfl) (fun _ _ _ h => h) (Or.inl ⟨by kernel_rfl, by (intro wz hSz; go_simp; try with_reducible rfl)⟩) hS0 ?_
  go_simp
  refine wpAnyH_take (i := 10) (v := ?_) rfl (by kernel_rfl) (by kernel_rfl) (by kernel_rfl) (fun _ _ _ h => h) (Or.inl ⟨by kernel_rfl, by (intro wz hSz; have c0_0 := cell_of_row _ _ 0 _ _ _ hSz; have c0_1 := cell_of_row _ _ 1 _ _ _ hSz; have c0_2 := cell_of_row _ _ 2 _ _ _ hSz; have c0_3 := cell_of_row _ _ 3 _ _ _ hSz; have c0_4 := cell_of_row _ _ 4 _ _ _ hSz; have c0_5 := cell_of_row _ _ 5 _ _ _ hSz; have c0_6 := cell_of_row _ _ 6 _ _ _ hSz; have c0_7 := cell_of_row _ _ 7 _ _ _ hSz; have c0_8 := cell_of_row _ _ 8 _ _ _ hSz; have c0_9 := cell_of_row _ _ 9 _ _ _ hSz; have c0_10 := cell_of_row _ _ 10 _ _ _ hSz; have c0_11 := cell_of_row _ _ 11 _ _ _ hSz; have c0_12 := cell_of_row _ _ 12 _ _ _ hSz; have c0_13 := cell_of_row _ _ 13 _ _ _ hSz; have c0_14 := cell_of_row _ _ 14 _ _ _ hSz; have c0_15 := cell_of_row _ _ 15 _ _ _ hSz; have c0_16 := cell_of_row _ _ 16 _ _ _ hSz; have c0_17 := cell_of_row _ _ 17 _ _ _ hSz; have c0_18 := cell_of_row _ _ 18 _ _ _ hSz; have c0_19 := cell_of_row _ _ 19 _ _ _ hSz; have c0_20 := cell_of_row _ _ 20 _ _ _ hSz; have c0_21 := cell_of_row _ _ 21 _ _ _ hSz; have c0_22 := cell_of_row _ _ 22 _ _ _ hSz; have c0_23 := cell_of_row _ _ 23 _ _ _ hSz; simp at c0_0 c0_1 c0_2 c0_3 c0_4 c0_5 c0_6 c0_7 c0_8 c0_9 c0_10 c0_11 c0_12 c0_13 c0_14 c0_15 c0_16 c0_17 c0_18 c0_19 c0_20 c0_21 c0_22 c0_23; go_simp; try with_reducible rfl)⟩) hS0 ?_
  go_simp
  refine wpAnyH_take (i := 11) (v := ?_) rfl (by kernel_rfl) (by kernel_rfl) (by kernel_rfl) (fun _ _ _ h => h) (Or.inl ⟨by kernel_rfl, by (intro wz hSz; go_simp; try with_reducible rfl)⟩) hS0 ?_
  go_simp
  refine wpAnyH_take (i := 13) (v := ?_) rfl (by kernel_rfl) (by kernel_rfl) (by kernel_rfl) (fun _ _ _ h => h) (Or.inl ⟨by kernel_rfl, by (intro wz hSz; go_simp; try with_reducible rfl)⟩) hS0 ?_
  go_simp
  refine wpAnyH_ready (rs := [12]) (by kernel_rfl) (by simp) ?_
  refine AllReadyH.cons rfl (fun K hK => ?_) AllReadyH.nil
  go_simp
  go_wp2_with (go_at_call 65; refine (mix_any _ _ _ _ _ _ _ _).mono ?_; rintro e y3 ⟨rfl, hb3⟩)
  have hr3_0 := (hb3.block _ (lt_heap hr2_0)).trans hr2_0
  have hr3_1 := (hb3.block _ (lt_heap hr2_1)).trans hr2_1
  have hr3_2 := (hb3.block _ (lt_heap hr2_2)).trans hr2_2
  have HU3 := Lib.hid (HU2.out.trans (hb3.mono HU2.out.size))
  refine hK.out _ _ ((hb3.block _ (lt_heap hS0)).trans hS0) (fun hS3c => ?_)
  clear hK K
  refine wpAnyH_take (i := 14) (v := ?_) rfl (by kernel_rfl) (by kernel_rfl) (by kernel_rfl) (fun _ _ _ h => h) (Or.inl ⟨by kernel_rfl, by (intro wz hSz; go_simp; try with_reducible rfl)⟩) hS3c ?_
  go_simp
  refine wpAnyH_ready (rs := [15]) (by kernel_rfl) (by simp) ?_
  refine AllReadyH.cons rfl (fun K hK => ?_) AllReadyH.nil
  have p0 := cell_of_row _ _ 0 _ _ _ hr3_2
  have p1 := cell_of_row _ _ 1 _ _ _ hr3_2
  have p2 := cell_of_row _ _ 2 _ _ _ hr3_2
  have p3 := cell_of_row _ _ 3 _ _ _ hr3_2
  have p4 := cell_of_row _ _ 4 _ _ _ hr3_2
  have p5 := cell_of_row _ _ 5 _ _ _ hr3_2
  have p6 := cell_of_row _ _ 6 _ _ _ hr3_2
  have p7 := cell_of_row _ _ 7 _ _ _ hr3_2
  have p8 := cell_of_row _ _ 8 _ _ _ hr3_2
  have p9 := cell_of_row _ _ 9 _ _ _ hr3_2
  have p10 := cell_of_row _ _ 10 _ _ _ hr3_2
  have p11 := cell_of_row _ _ 11 _ _ _ hr3_2
  simp at p0 p1 p2 p3 p4 p5 p6 p7 p8 p9 p10 p11
  have fz : ∀ j, y3.frozen? ⟨y0.heap.size, j, none⟩ = false := fun j => by simp [World.frozen?, hr3_2]
  go_simp
  clear fz p0 p1 p2 p3 p4 p5 p6 p7 p8 p9 p10 p11
  have hN : (((y3.setCell ⟨y0.heap.size, 2, none⟩ (.int .i64 (Pl.lerp a2 a14 t))).setCell ⟨y0.heap.size, 3, none⟩ (.int .i64 (Pl.lerp a3 a15 t))).setCell ⟨y0.heap.size, 4, none⟩ (.int .i64 (Pl.lerp a4 a16 t))).heap[y0.heap.size]? = some (.cells #[.int .i64 a0, .int .i64 a1, .int .i64 (Pl.lerp a2 a14 t), .int .i64 (Pl.lerp a3 a15 t), .int .i64 (Pl.lerp a4 a16 t), .int .i64 a5, .int .i64 a6, .int .i64 a7, .int .i64 a8, .int .i64 a9, .int .i64 a10, .int .i64 a11] 89 (0, 0)) := part3 hr3_2 _ _ _ rfl
  have hsz := HU3.out.size
  have HUx := below_put3o (k := y0.heap.size) (o := 2) HU3.out (by first | omega | (simp at *; omega)) (.int .i64 (Pl.lerp a2 a14 t)) (.int .i64 (Pl.lerp a3 a15 t)) (.int .i64 (Pl.lerp a4 a16 t))
  have hO : ∀ kk, kk ≠ y0.heap.size → (((y3.setCell ⟨y0.heap.size, 2, none⟩ (.int .i64 (Pl.lerp a2 a14 t))).setCell ⟨y0.heap.size, 3, none⟩ (.int .i64 (Pl.lerp a3 a15 t))).setCell ⟨y0.heap.size, 4, none⟩ (.int .i64 (Pl.lerp a4 a16 t))).heap[kk]? = y3.heap[kk]? := fun kk hk => put3_other _ _ _ _ _ hk
  obtain ⟨y4, hy4⟩ : ∃ y, ((y3.setCell ⟨y0.heap.size, 2, none⟩ (.int .i64 (Pl.lerp a2 a14 t))).setCell ⟨y0.heap.size, 3, none⟩ (.int .i64 (Pl.lerp a3 a15 t))).setCell ⟨y0.heap.size, 4, none⟩ (.int .i64 (Pl.lerp a4 a16 t)) = y := ⟨_, rfl⟩
  rw [hy4] at hN HUx hO ⊢
  clear hy4
  have HU4 := Lib.hid HUx
  clear HUx
  have hr4_0 := (hO _ (by omega)).trans hr3_0
  have hr4_1 := (hO _ (by omega)).trans hr3_1
  have hr4_2 := hN
  clear hN
  refine hK.out _ _ ((hO _ (by omega)).trans hS3c) (fun hS4p => ?_)
  clear hK K
  refine wpAnyH_done (by kernel_rfl) ?_ _
  go_wp2_with fail
  rw [rounds_succ]
  go_wp2_with fail
  refine wp_region_held_drew (S := fun y => y.heap[w.heap.size]? = some (.cells #[.int .i64 a0, .int .i64 a1, .int .i64 a2, .int .i64 a3, .int .i64 a4, .int .i64 a5, .int .i64 a6, .int .i64 a7, .int .i64 a8, .int .i64 a9, .int .i64 a10, .int .i64 a11, .int .i64 a12, .int .i64 a13, .int .i64 a14, .int .i64 a15, .int .i64 a16, .int .i64 a17, .int .i64 a18, .int .i64 a19, .int .i64 a20, .int .i64 a21, .int .i64 a22, .int .i64 a23] 91 (0, 0))) (by kernel_rfl) (hr4_0) (fun hS0 => ?_)
  obtain ⟨y5, hy5⟩ : ∃ y, y4.drew = y := ⟨_, rfl⟩
  have HU5 := Lib.hid (show Below w.heap.size w y5 by rw [← hy5]; exact HU4.out.drew)
  have hr5_0 : y5.heap[w.heap.size]? = some (.cells #[.int .i64 a0, .int .i64 a1, .int .i64 a2, .int .i64 a3, .int .i64 a4, .int .i64 a5, .int .i64 a6, .int .i64 a7, .int .i64 a8, .int .i64 a9, .int .i64 a10, .int .i64 a11, .int .i64 a12, .int .i64 a13, .int .i64 a14, .int .i64 a15, .int .i64 a16, .int .i64 a17, .int .i64 a18, .int .i64 a19, .int .i64 a20, .int .i64 a21, .int .i64 a22, .int .i64 a23] 91 (0, 0)) := by rw [← hy5]; exact hr4_0
  have hr5_1 : y5.heap[w.heap.size + 1]? = some (.cells #[.int .i64 0, .int .i64 0, .int .i64 0, .int .i64 0, .int .i64 0, .int .i64 0, .int .i64 0, .int .i64 0, .int .i64 0, .int .i64 0, .int .i64 0, .int .i64 0] 89 (0, 0)) := by rw [← hy5]; exact hr4_1
  have hr5_2 : y5.heap[y0.heap.size]? = some (.cells #[.int .i64 a0, .int .i64 a1, .int .i64 (Pl.lerp a2 a14 t), .int .i64 (Pl.lerp a3 a15 t), .int .i64 (Pl.lerp a4 a16 t), .int .i64 a5, .int .i64 a6, .int .i64 a7, .int .i64 a8, .int .i64 a9, .int .i64 a10, .int .i64 a11] 89 (0, 0)) := by rw [← hy5]; exact hr4_2
  rw [hy5] at hS0 ⊢
  clear hy5
  refine wpAnyH_take (i := 0) (v := ?_) rfl (by kernel_rfl) (by kernel_rfl) (by kernel_rfl) (fun _ _ _ h => h) (Or.inl ⟨by kernel_rfl, by (intro wz hSz; go_simp; try with_reducible rfl)⟩) hS0 ?_
  go_simp
  refine wpAnyH_take (i := 1) (v := ?_) rfl (by kernel_rfl) (by kernel_rfl) (by kernel_rfl) (fun _ _ _ h => h) (Or.inl ⟨by kernel_rfl, by (intro wz hSz; go_simp; try with_reducible rfl)⟩) hS0 ?_
  go_simp
  refine wpAnyH_take (i := 2) (v := ?_) rfl (by kernel_rfl) (by kernel_rfl) (by kernel_rfl) (fun _ _ _ h => h) (Or.inl ⟨by kernel_rfl, by (intro wz hSz; go_simp; try with_reducible rfl)⟩) hS0 ?_
  go_simp
  refine wpAnyH_take (i := 3) (v := ?_) rfl (by kernel_rfl) (by kernel_rfl) (by kernel_rfl) (fun _ _ _ h => h) (Or.inl ⟨by kernel_rfl, by (intro wz hSz; go_simp; try with_reducible rfl)⟩) hS0 ?_
  go_simp
  refine wpAnyH_take (i := 4) (v := ?_) rfl (by kernel_rfl) (by kernel_rfl) (by kernel_rfl) (fun _ _ _ h => h) (Or.inl ⟨by kernel_rfl, by (intro wz hSz; go_simp; try with_reducible rfl)⟩) hS0 ?_
  go_simp
  refine wpAnyH_take (i := 5) (v := ?_) rfl (by kernel_rfl) (by kernel_rfl) (by kernel_rfl) (fun _ _ _ h => h) (Or.inl ⟨by kernel_rfl, by (intro wz hSz; have c0_0 := cell_of_row _ _ 0 _ _ _ hSz; have c0_1 := cell_of_row _ _ 1 _ _ _ hSz; have c0_2 := cell_of_row _ _ 2 _ _ _ hSz; have c0_3 := cell_of_row _ _ 3 _ _ _ hSz; have c0_4 := cell_of_row _ _ 4 _ _ _ hSz; have c0_5 := cell_of_row _ _ 5 _ _ _ hSz; have c0_6 := cell_of_row _ _ 6 _ _ _ hSz; have c0_7 := cell_of_row _ _ 7 _ _ _ hSz; have c0_8 := cell_of_row _ _ 8 _ _ _ hSz; have c0_9 := cell_of_row _ _ 9 _ _ _ hSz; have c0_10 := cell_of_row _ _ 10 _ _ _ hSz; have c0_11 := cell_of_row _ _ 11 _ _ _ hSz; have c0_12 := cell_of_row _ _ 12 _ _ _ hSz; have c0_13 := cell_of_row _ _ 13 _ _ _ hSz; have c0_14 := cell_of_row _ _ 14 _ _ _ hSz; have c0_15 := cell_of_row _ _ 15 _ _ _ hSz; have c0_16 := cell_of_row _ _ 16 _ _ _ hSz; have c0_17 := cell_of_row _ _ 17 _ _ _ hSz; have c0_18 := cell_of_row _ _ 18 _ _ _ hSz; have c0_19 := cell_of_row _ _ 19 _ _ _ hSz; have c0_20 := cell_of_row _ _ 20 _ _ _ hSz; have c0_21 := cell_of_row _ _ 21 _ _ _ hSz; have c0_22 := cell_of_row _ _ 22 _ _ _ hSz; have c0_23 := cell_of_row _ _ 23 _ _ _ hSz; simp at c0_0 c0_1 c0_2 c0_3 c0_4 c0_5 c0_6 c0_7 c0_8 c0_9 c0_10 c0_11 c0_12 c0_13 c0_14 c0_15 c0_16 c0_17 c0_18 c0_19 c0_20 c0_21 c0_22 c0_23; go_simp; try with_reducible rfl)⟩) hS0 ?_
  go_simp
  refine wpAnyH_take (i := 6) (v := ?_) rfl (by kernel_rfl) (by kernel_rfl) (by kernel_rfl) (fun _ _ _ h => h) (Or.inl ⟨by kernel_rfl, by (intro wz hSz; go_simp; try with_reducible rfl)⟩) hS0 ?_
  go_simp
  refine wpAnyH_take (i := 7) (v := ?_) rfl (by kernel_rfl) (by kernel_rfl) (by kernel_rfl) (fun _ _ _ h => h) (Or.inl ⟨by kernel_rfl, by (intro wz hSz; go_simp; try with_reducible rfl)⟩) hS0 ?_
  go_simp
  refine wpAnyH_take (i := 8) (v := ?_) rfl (by kernel_rfl) (by kernel_rfl) (by kernel_rfl) (fun _ _ _ h => h) (Or.inl ⟨by kernel_rfl, by (intro wz hSz; go_simp; try with_reducible rfl)⟩) hS0 ?_
  go_simp
  refine wpAnyH_take (i := 9) (v := ?_) rfl (by kernel_rfl) (by kernel_rfl) (by kernel_rfl) (fun _ _ _ h => h) (Or.inl ⟨by kernel_rfl, by (intro wz hSz; go_simp; try with_reducible rfl)⟩) hS0 ?_
  go_simp
  refine wpAnyH_take (i := 10) (v := ?_) rfl (by kernel_rfl) (by kernel_rfl) (by kernel_rfl) (fun _ _ _ h => h) (Or.inl ⟨by kernel_rfl, by (intro wz hSz; have c0_0 := cell_of_row _ _ 0 _ _ _ hSz; have c0_1 := cell_of_row _ _ 1 _ _ _ hSz; have c0_2 := cell_of_row _ _ 2 _ _ _ hSz; have c0_3 := cell_of_row _ _ 3 _ _ _ hSz; have c0_4 := cell_of_row _ _ 4 _ _ _ hSz; have c0_5 := cell_of_row _ _ 5 _ _ _ hSz; have c0_6 := cell_of_row _ _ 6 _ _ _ hSz; have c0_7 := cell_of_row _ _ 7 _ _ _ hSz; have c0_8 := cell_of_row _ _ 8 _ _ _ hSz; have c0_9 := cell_of_row _ _ 9 _ _ _ hSz; have c0_10 := cell_of_row _ _ 10 _ _ _ hSz; have c0_11 := cell_of_row _ _ 11 _ _ _ hSz; have c0_12 := cell_of_row _ _ 12 _ _ _ hSz; have c0_13 := cell_of_row _ _ 13 _ _ _ hSz; have c0_14 := cell_of_row _ _ 14 _ _ _ hSz; have c0_15 := cell_of_row _ _ 15 _ _ _ hSz; have c0_16 := cell_of_row _ _ 16 _ _ _ hSz; have c0_17 := cell_of_row _ _ 17 _ _ _ hSz; have c0_18 := cell_of_row _ _ 18 _ _ _ hSz; have c0_19 := cell_of_row _ _ 19 _ _ _ hSz; have c0_20 := cell_of_row _ _ 20 _ _ _ hSz; have c0_21 := cell_of_row _ _ 21 _ _ _ hSz; have c0_22 := cell_of_row _ _ 22 _ _ _ hSz; have c0_23 := cell_of_row _ _ 23 _ _ _ hSz; simp at c0_0 c0_1 c0_2 c0_3 c0_4 c0_5 c0_6 c0_7 c0_8 c0_9 c0_10 c0_11 c0_12 c0_13 c0_14 c0_15 c0_16 c0_17 c0_18 c0_19 c0_20 c0_21 c0_22 c0_23; go_simp; try with_reducible rfl)⟩) hS0 ?_
  go_simp
  refine wpAnyH_take (i := 11) (v := ?_) rfl (by kernel_rfl) (by kernel_rfl) (by kernel_rfl) (fun _ _ _ h => h) (Or.inl ⟨by kernel_rfl, by (intro wz hSz; go_simp; try with_reducible rfl)⟩) hS0 ?_
  go_simp
  refine wpAnyH_take (i := 13) (v := ?_) rfl (by kernel_rfl) (by kernel_rfl) (by kernel_rfl) (fun _ _ _ h => h) (Or.inl ⟨by kernel_rfl, by (intro wz hSz; go_simp; try with_reducible rfl)⟩) hS0 ?_
  go_simp
  refine wpAnyH_ready (rs := [12]) (by kernel_rfl) (by simp) ?_
  refine AllReadyH.cons rfl (fun K hK => ?_) AllReadyH.nil
  go_simp
  go_wp2_with (go_at_call 65; refine (mix_any _ _ _ _ _ _ _ _).mono ?_; rintro e y6 ⟨rfl, hb6⟩)
  have hr6_0 := (hb6.block _ (lt_heap hr5_0)).trans hr5_0
  have hr6_1 := (hb6.block _ (lt_heap hr5_1)).trans hr5_1
  have hr6_2 := (hb6.block _ (lt_heap hr5_2)).trans hr5_2
  have HU6 := Lib.hid (HU5.out.trans (hb6.mono HU5.out.size))
  refine hK.out _ _ ((hb6.block _ (lt_heap hS0)).trans hS0) (fun hS6c => ?_)
  clear hK K
  refine wpAnyH_take (i := 14) (v := ?_) rfl (by kernel_rfl) (by kernel_rfl) (by kernel_rfl) (fun _ _ _ h => h) (Or.inl ⟨by kernel_rfl, by (intro wz hSz; go_simp; try with_reducible rfl)⟩) hS6c ?_
  go_simp
  refine wpAnyH_ready (rs := [15]) (by kernel_rfl) (by simp) ?_
  refine AllReadyH.cons rfl (fun K hK => ?_) AllReadyH.nil
  have p0 := cell_of_row _ _ 0 _ _ _ hr6_2
  have p1 := cell_of_row _ _ 1 _ _ _ hr6_2
  have p2 := cell_of_row _ _ 2 _ _ _ hr6_2
  have p3 := cell_of_row _ _ 3 _ _ _ hr6_2
  have p4 := cell_of_row _ _ 4 _ _ _ hr6_2
  have p5 := cell_of_row _ _ 5 _ _ _ hr6_2
  have p6 := cell_of_row _ _ 6 _ _ _ hr6_2
  have p7 := cell_of_row _ _ 7 _ _ _ hr6_2
  have p8 := cell_of_row _ _ 8 _ _ _ hr6_2
  have p9 := cell_of_row _ _ 9 _ _ _ hr6_2
  have p10 := cell_of_row _ _ 10 _ _ _ hr6_2
  have p11 := cell_of_row _ _ 11 _ _ _ hr6_2
  simp at p0 p1 p2 p3 p4 p5 p6 p7 p8 p9 p10 p11
  have fz : ∀ j, y6.frozen? ⟨y0.heap.size, j, none⟩ = false := fun j => by simp [World.frozen?, hr6_2]
  go_simp
  clear fz p0 p1 p2 p3 p4 p5 p6 p7 p8 p9 p10 p11
  have hN : (((y6.setCell ⟨y0.heap.size, 5, none⟩ (.int .i64 (Pl.lerp a5 a17 t))).setCell ⟨y0.heap.size, 6, none⟩ (.int .i64 (Pl.lerp a6 a18 t))).setCell ⟨y0.heap.size, 7, none⟩ (.int .i64 (Pl.lerp a7 a19 t))).heap[y0.heap.size]? = some (.cells #[.int .i64 a0, .int .i64 a1, .int .i64 (Pl.lerp a2 a14 t), .int .i64 (Pl.lerp a3 a15 t), .int .i64 (Pl.lerp a4 a16 t), .int .i64 (Pl.lerp a5 a17 t), .int .i64 (Pl.lerp a6 a18 t), .int .i64 (Pl.lerp a7 a19 t), .int .i64 a8, .int .i64 a9, .int .i64 a10, .int .i64 a11] 89 (0, 0)) := part3 hr6_2 _ _ _ rfl
  have hsz := HU6.out.size
  have HUx := below_put3o (k := y0.heap.size) (o := 5) HU6.out (by first | omega | (simp at *; omega)) (.int .i64 (Pl.lerp a5 a17 t)) (.int .i64 (Pl.lerp a6 a18 t)) (.int .i64 (Pl.lerp a7 a19 t))
  have hO : ∀ kk, kk ≠ y0.heap.size → (((y6.setCell ⟨y0.heap.size, 5, none⟩ (.int .i64 (Pl.lerp a5 a17 t))).setCell ⟨y0.heap.size, 6, none⟩ (.int .i64 (Pl.lerp a6 a18 t))).setCell ⟨y0.heap.size, 7, none⟩ (.int .i64 (Pl.lerp a7 a19 t))).heap[kk]? = y6.heap[kk]? := fun kk hk => put3_other _ _ _ _ _ hk
  obtain ⟨y7, hy7⟩ : ∃ y, ((y6.setCell ⟨y0.heap.size, 5, none⟩ (.int .i64 (Pl.lerp a5 a17 t))).setCell ⟨y0.heap.size, 6, none⟩ (.int .i64 (Pl.lerp a6 a18 t))).setCell ⟨y0.heap.size, 7, none⟩ (.int .i64 (Pl.lerp a7 a19 t)) = y := ⟨_, rfl⟩
  rw [hy7] at hN HUx hO ⊢
  clear hy7
  have HU7 := Lib.hid HUx
  clear HUx
  have hr7_0 := (hO _ (by omega)).trans hr6_0
  have hr7_1 := (hO _ (by omega)).trans hr6_1
  have hr7_2 := hN
  clear hN
  refine hK.out _ _ ((hO _ (by omega)).trans hS6c) (fun hS7p => ?_)
  clear hK K
  refine wpAnyH_done (by kernel_rfl) ?_ _
  go_wp2_with fail
  rw [rounds_succ]
  go_wp2_with fail
  refine wp_region_held_drew (S := fun y => y.heap[w.heap.size]? = some (.cells #[.int .i64 a0, .int .i64 a1, .int .i64 a2, .int .i64 a3, .int .i64 a4, .int .i64 a5, .int .i64 a6, .int .i64 a7, .int .i64 a8, .int .i64 a9, .int .i64 a10, .int .i64 a11, .int .i64 a12, .int .i64 a13, .int .i64 a14, .int .i64 a15, .int .i64 a16, .int .i64 a17, .int .i64 a18, .int .i64 a19, .int .i64 a20, .int .i64 a21, .int .i64 a22, .int .i64 a23] 91 (0, 0))) (by kernel_rfl) (hr7_0) (fun hS0 => ?_)
  obtain ⟨y8, hy8⟩ : ∃ y, y7.drew = y := ⟨_, rfl⟩
  have HU8 := Lib.hid (show Below w.heap.size w y8 by rw [← hy8]; exact HU7.out.drew)
  have hr8_0 : y8.heap[w.heap.size]? = some (.cells #[.int .i64 a0, .int .i64 a1, .int .i64 a2, .int .i64 a3, .int .i64 a4, .int .i64 a5, .int .i64 a6, .int .i64 a7, .int .i64 a8, .int .i64 a9, .int .i64 a10, .int .i64 a11, .int .i64 a12, .int .i64 a13, .int .i64 a14, .int .i64 a15, .int .i64 a16, .int .i64 a17, .int .i64 a18, .int .i64 a19, .int .i64 a20, .int .i64 a21, .int .i64 a22, .int .i64 a23] 91 (0, 0)) := by rw [← hy8]; exact hr7_0
  have hr8_1 : y8.heap[w.heap.size + 1]? = some (.cells #[.int .i64 0, .int .i64 0, .int .i64 0, .int .i64 0, .int .i64 0, .int .i64 0, .int .i64 0, .int .i64 0, .int .i64 0, .int .i64 0, .int .i64 0, .int .i64 0] 89 (0, 0)) := by rw [← hy8]; exact hr7_1
  have hr8_2 : y8.heap[y0.heap.size]? = some (.cells #[.int .i64 a0, .int .i64 a1, .int .i64 (Pl.lerp a2 a14 t), .int .i64 (Pl.lerp a3 a15 t), .int .i64 (Pl.lerp a4 a16 t), .int .i64 (Pl.lerp a5 a17 t), .int .i64 (Pl.lerp a6 a18 t), .int .i64 (Pl.lerp a7 a19 t), .int .i64 a8, .int .i64 a9, .int .i64 a10, .int .i64 a11] 89 (0, 0)) := by rw [← hy8]; exact hr7_2
  rw [hy8] at hS0 ⊢
  clear hy8
  refine wpAnyH_take (i := 0) (v := ?_) rfl (by kernel_rfl) (by kernel_rfl) (by kernel_rfl) (fun _ _ _ h => h) (Or.inl ⟨by kernel_rfl, by (intro wz hSz; go_simp; try with_reducible rfl)⟩) hS0 ?_
  go_simp
  refine wpAnyH_take (i := 1) (v := ?_) rfl (by kernel_rfl) (by kernel_rfl) (by kernel_rfl) (fun _ _ _ h => h) (Or.inl ⟨by kernel_rfl, by (intro wz hSz; go_simp; try with_reducible rfl)⟩) hS0 ?_
  go_simp
  refine wpAnyH_take (i := 2) (v := ?_) rfl (by kernel_rfl) (by kernel_rfl) (by kernel_rfl) (fun _ _ _ h => h) (Or.inl ⟨by kernel_rfl, by (intro wz hSz; go_simp; try with_reducible rfl)⟩) hS0 ?_
  go_simp
  refine wpAnyH_take (i := 3) (v := ?_) rfl (by kernel_rfl) (by kernel_rfl) (by kernel_rfl) (fun _ _ _ h => h) (Or.inl ⟨by kernel_rfl, by (intro wz hSz; go_simp; try with_reducible rfl)⟩) hS0 ?_
  go_simp
  refine wpAnyH_take (i := 4) (v := ?_) rfl (by kernel_rfl) (by kernel_rfl) (by kernel_rfl) (fun _ _ _ h => h) (Or.inl ⟨by kernel_rfl, by (intro wz hSz; go_simp; try with_reducible rfl)⟩) hS0 ?_
  go_simp
  refine wpAnyH_take (i := 5) (v := ?_) rfl (by kernel_rfl) (by kernel_rfl) (by kernel_rfl) (fun _ _ _ h => h) (Or.inl ⟨by kernel_rfl, by (intro wz hSz; have c0_0 := cell_of_row _ _ 0 _ _ _ hSz; have c0_1 := cell_of_row _ _ 1 _ _ _ hSz; have c0_2 := cell_of_row _ _ 2 _ _ _ hSz; have c0_3 := cell_of_row _ _ 3 _ _ _ hSz; have c0_4 := cell_of_row _ _ 4 _ _ _ hSz; have c0_5 := cell_of_row _ _ 5 _ _ _ hSz; have c0_6 := cell_of_row _ _ 6 _ _ _ hSz; have c0_7 := cell_of_row _ _ 7 _ _ _ hSz; have c0_8 := cell_of_row _ _ 8 _ _ _ hSz; have c0_9 := cell_of_row _ _ 9 _ _ _ hSz; have c0_10 := cell_of_row _ _ 10 _ _ _ hSz; have c0_11 := cell_of_row _ _ 11 _ _ _ hSz; have c0_12 := cell_of_row _ _ 12 _ _ _ hSz; have c0_13 := cell_of_row _ _ 13 _ _ _ hSz; have c0_14 := cell_of_row _ _ 14 _ _ _ hSz; have c0_15 := cell_of_row _ _ 15 _ _ _ hSz; have c0_16 := cell_of_row _ _ 16 _ _ _ hSz; have c0_17 := cell_of_row _ _ 17 _ _ _ hSz; have c0_18 := cell_of_row _ _ 18 _ _ _ hSz; have c0_19 := cell_of_row _ _ 19 _ _ _ hSz; have c0_20 := cell_of_row _ _ 20 _ _ _ hSz; have c0_21 := cell_of_row _ _ 21 _ _ _ hSz; have c0_22 := cell_of_row _ _ 22 _ _ _ hSz; have c0_23 := cell_of_row _ _ 23 _ _ _ hSz; simp at c0_0 c0_1 c0_2 c0_3 c0_4 c0_5 c0_6 c0_7 c0_8 c0_9 c0_10 c0_11 c0_12 c0_13 c0_14 c0_15 c0_16 c0_17 c0_18 c0_19 c0_20 c0_21 c0_22 c0_23; go_simp; try with_reducible rfl)⟩) hS0 ?_
  go_simp
  refine wpAnyH_take (i := 6) (v := ?_) rfl (by kernel_rfl) (by kernel_rfl) (by kernel_rfl) (fun _ _ _ h => h) (Or.inl ⟨by kernel_rfl, by (intro wz hSz; go_simp; try with_reducible rfl)⟩) hS0 ?_
  go_simp
  refine wpAnyH_take (i := 7) (v := ?_) rfl (by kernel_rfl) (by kernel_rfl) (by kernel_rfl) (fun _ _ _ h => h) (Or.inl ⟨by kernel_rfl, by (intro wz hSz; go_simp; try with_reducible rfl)⟩) hS0 ?_
  go_simp
  refine wpAnyH_take (i := 8) (v := ?_) rfl (by kernel_rfl) (by kernel_rfl) (by kernel_rfl) (fun _ _ _ h => h) (Or.inl ⟨by kernel_rfl, by (intro wz hSz; go_simp; try with_reducible rfl)⟩) hS0 ?_
  go_simp
  refine wpAnyH_take (i := 9) (v := ?_) rfl (by kernel_rfl) (by kernel_rfl) (by kernel_rfl) (fun _ _ _ h => h) (Or.inl ⟨by kernel_rfl, by (intro wz hSz; go_simp; try with_reducible rfl)⟩) hS0 ?_
  go_simp
  refine wpAnyH_take (i := 10) (v := ?_) rfl (by kernel_rfl) (by kernel_rfl) (by kernel_rfl) (fun _ _ _ h => h) (Or.inl ⟨by kernel_rfl, by (intro wz hSz; have c0_0 := cell_of_row _ _ 0 _ _ _ hSz; have c0_1 := cell_of_row _ _ 1 _ _ _ hSz; have c0_2 := cell_of_row _ _ 2 _ _ _ hSz; have c0_3 := cell_of_row _ _ 3 _ _ _ hSz; have c0_4 := cell_of_row _ _ 4 _ _ _ hSz; have c0_5 := cell_of_row _ _ 5 _ _ _ hSz; have c0_6 := cell_of_row _ _ 6 _ _ _ hSz; have c0_7 := cell_of_row _ _ 7 _ _ _ hSz; have c0_8 := cell_of_row _ _ 8 _ _ _ hSz; have c0_9 := cell_of_row _ _ 9 _ _ _ hSz; have c0_10 := cell_of_row _ _ 10 _ _ _ hSz; have c0_11 := cell_of_row _ _ 11 _ _ _ hSz; have c0_12 := cell_of_row _ _ 12 _ _ _ hSz; have c0_13 := cell_of_row _ _ 13 _ _ _ hSz; have c0_14 := cell_of_row _ _ 14 _ _ _ hSz; have c0_15 := cell_of_row _ _ 15 _ _ _ hSz; have c0_16 := cell_of_row _ _ 16 _ _ _ hSz; have c0_17 := cell_of_row _ _ 17 _ _ _ hSz; have c0_18 := cell_of_row _ _ 18 _ _ _ hSz; have c0_19 := cell_of_row _ _ 19 _ _ _ hSz; have c0_20 := cell_of_row _ _ 20 _ _ _ hSz; have c0_21 := cell_of_row _ _ 21 _ _ _ hSz; have c0_22 := cell_of_row _ _ 22 _ _ _ hSz; have c0_23 := cell_of_row _ _ 23 _ _ _ hSz; simp at c0_0 c0_1 c0_2 c0_3 c0_4 c0_5 c0_6 c0_7 c0_8 c0_9 c0_10 c0_11 c0_12 c0_13 c0_14 c0_15 c0_16 c0_17 c0_18 c0_19 c0_20 c0_21 c0_22 c0_23; go_simp; try with_reducible rfl)⟩) hS0 ?_
  go_simp
  refine wpAnyH_take (i := 11) (v := ?_) rfl (by kernel_rfl) (by kernel_rfl) (by kernel_rfl) (fun _ _ _ h => h) (Or.inl ⟨by kernel_rfl, by (intro wz hSz; go_simp; try with_reducible rfl)⟩) hS0 ?_
  go_simp
  refine wpAnyH_take (i := 13) (v := ?_) rfl (by kernel_rfl) (by kernel_rfl) (by kernel_rfl) (fun _ _ _ h => h) (Or.inl ⟨by kernel_rfl, by (intro wz hSz; go_simp; try with_reducible rfl)⟩) hS0 ?_
  go_simp
  refine wpAnyH_ready (rs := [12]) (by kernel_rfl) (by simp) ?_
  refine AllReadyH.cons rfl (fun K hK => ?_) AllReadyH.nil
  go_simp
  go_wp2_with (go_at_call 65; refine (mix_any _ _ _ _ _ _ _ _).mono ?_; rintro e y9 ⟨rfl, hb9⟩)
  have hr9_0 := (hb9.block _ (lt_heap hr8_0)).trans hr8_0
  have hr9_1 := (hb9.block _ (lt_heap hr8_1)).trans hr8_1
  have hr9_2 := (hb9.block _ (lt_heap hr8_2)).trans hr8_2
  have HU9 := Lib.hid (HU8.out.trans (hb9.mono HU8.out.size))
  refine hK.out _ _ ((hb9.block _ (lt_heap hS0)).trans hS0) (fun hS9c => ?_)
  clear hK K
  refine wpAnyH_take (i := 14) (v := ?_) rfl (by kernel_rfl) (by kernel_rfl) (by kernel_rfl) (fun _ _ _ h => h) (Or.inl ⟨by kernel_rfl, by (intro wz hSz; go_simp; try with_reducible rfl)⟩) hS9c ?_
  go_simp
  refine wpAnyH_ready (rs := [15]) (by kernel_rfl) (by simp) ?_
  refine AllReadyH.cons rfl (fun K hK => ?_) AllReadyH.nil
  have p0 := cell_of_row _ _ 0 _ _ _ hr9_2
  have p1 := cell_of_row _ _ 1 _ _ _ hr9_2
  have p2 := cell_of_row _ _ 2 _ _ _ hr9_2
  have p3 := cell_of_row _ _ 3 _ _ _ hr9_2
  have p4 := cell_of_row _ _ 4 _ _ _ hr9_2
  have p5 := cell_of_row _ _ 5 _ _ _ hr9_2
  have p6 := cell_of_row _ _ 6 _ _ _ hr9_2
  have p7 := cell_of_row _ _ 7 _ _ _ hr9_2
  have p8 := cell_of_row _ _ 8 _ _ _ hr9_2
  have p9 := cell_of_row _ _ 9 _ _ _ hr9_2
  have p10 := cell_of_row _ _ 10 _ _ _ hr9_2
  have p11 := cell_of_row _ _ 11 _ _ _ hr9_2
  simp at p0 p1 p2 p3 p4 p5 p6 p7 p8 p9 p10 p11
  have fz : ∀ j, y9.frozen? ⟨y0.heap.size, j, none⟩ = false := fun j => by simp [World.frozen?, hr9_2]
  go_simp
  clear fz p0 p1 p2 p3 p4 p5 p6 p7 p8 p9 p10 p11
  have hN : (((y9.setCell ⟨y0.heap.size, 8, none⟩ (.int .i64 (Pl.lerp a8 a20 t))).setCell ⟨y0.heap.size, 9, none⟩ (.int .i64 (Pl.lerp a9 a21 t))).setCell ⟨y0.heap.size, 10, none⟩ (.int .i64 (Pl.lerp a10 a22 t))).heap[y0.heap.size]? = some (.cells #[.int .i64 a0, .int .i64 a1, .int .i64 (Pl.lerp a2 a14 t), .int .i64 (Pl.lerp a3 a15 t), .int .i64 (Pl.lerp a4 a16 t), .int .i64 (Pl.lerp a5 a17 t), .int .i64 (Pl.lerp a6 a18 t), .int .i64 (Pl.lerp a7 a19 t), .int .i64 (Pl.lerp a8 a20 t), .int .i64 (Pl.lerp a9 a21 t), .int .i64 (Pl.lerp a10 a22 t), .int .i64 a11] 89 (0, 0)) := part3 hr9_2 _ _ _ rfl
  have hsz := HU9.out.size
  have HUx := below_put3o (k := y0.heap.size) (o := 8) HU9.out (by first | omega | (simp at *; omega)) (.int .i64 (Pl.lerp a8 a20 t)) (.int .i64 (Pl.lerp a9 a21 t)) (.int .i64 (Pl.lerp a10 a22 t))
  have hO : ∀ kk, kk ≠ y0.heap.size → (((y9.setCell ⟨y0.heap.size, 8, none⟩ (.int .i64 (Pl.lerp a8 a20 t))).setCell ⟨y0.heap.size, 9, none⟩ (.int .i64 (Pl.lerp a9 a21 t))).setCell ⟨y0.heap.size, 10, none⟩ (.int .i64 (Pl.lerp a10 a22 t))).heap[kk]? = y9.heap[kk]? := fun kk hk => put3_other _ _ _ _ _ hk
  obtain ⟨y10, hy10⟩ : ∃ y, ((y9.setCell ⟨y0.heap.size, 8, none⟩ (.int .i64 (Pl.lerp a8 a20 t))).setCell ⟨y0.heap.size, 9, none⟩ (.int .i64 (Pl.lerp a9 a21 t))).setCell ⟨y0.heap.size, 10, none⟩ (.int .i64 (Pl.lerp a10 a22 t)) = y := ⟨_, rfl⟩
  rw [hy10] at hN HUx hO ⊢
  clear hy10
  have HU10 := Lib.hid HUx
  clear HUx
  have hr10_0 := (hO _ (by omega)).trans hr9_0
  have hr10_1 := (hO _ (by omega)).trans hr9_1
  have hr10_2 := hN
  clear hN
  refine hK.out _ _ ((hO _ (by omega)).trans hS9c) (fun hS10p => ?_)
  clear hK K
  refine wpAnyH_done (by kernel_rfl) ?_ _
  go_wp2_with fail
  rw [rounds_succ]
  have c0_0 := cell_of_row _ _ 0 _ _ _ hr10_0
  have c0_1 := cell_of_row _ _ 1 _ _ _ hr10_0
  have c0_2 := cell_of_row _ _ 2 _ _ _ hr10_0
  have c0_3 := cell_of_row _ _ 3 _ _ _ hr10_0
  have c0_4 := cell_of_row _ _ 4 _ _ _ hr10_0
  have c0_5 := cell_of_row _ _ 5 _ _ _ hr10_0
  have c0_6 := cell_of_row _ _ 6 _ _ _ hr10_0
  have c0_7 := cell_of_row _ _ 7 _ _ _ hr10_0
  have c0_8 := cell_of_row _ _ 8 _ _ _ hr10_0
  have c0_9 := cell_of_row _ _ 9 _ _ _ hr10_0
  have c0_10 := cell_of_row _ _ 10 _ _ _ hr10_0
  have c0_11 := cell_of_row _ _ 11 _ _ _ hr10_0
  have c0_12 := cell_of_row _ _ 12 _ _ _ hr10_0
  have c0_13 := cell_of_row _ _ 13 _ _ _ hr10_0
  have c0_14 := cell_of_row _ _ 14 _ _ _ hr10_0
  have c0_15 := cell_of_row _ _ 15 _ _ _ hr10_0
  have c0_16 := cell_of_row _ _ 16 _ _ _ hr10_0
  have c0_17 := cell_of_row _ _ 17 _ _ _ hr10_0
  have c0_18 := cell_of_row _ _ 18 _ _ _ hr10_0
  have c0_19 := cell_of_row _ _ 19 _ _ _ hr10_0
  have c0_20 := cell_of_row _ _ 20 _ _ _ hr10_0
  have c0_21 := cell_of_row _ _ 21 _ _ _ hr10_0
  have c0_22 := cell_of_row _ _ 22 _ _ _ hr10_0
  have c0_23 := cell_of_row _ _ 23 _ _ _ hr10_0
  have c1_0 := cell_of_row _ _ 0 _ _ _ hr10_1
  have c1_1 := cell_of_row _ _ 1 _ _ _ hr10_1
  have c1_2 := cell_of_row _ _ 2 _ _ _ hr10_1
  have c1_3 := cell_of_row _ _ 3 _ _ _ hr10_1
  have c1_4 := cell_of_row _ _ 4 _ _ _ hr10_1
  have c1_5 := cell_of_row _ _ 5 _ _ _ hr10_1
  have c1_6 := cell_of_row _ _ 6 _ _ _ hr10_1
  have c1_7 := cell_of_row _ _ 7 _ _ _ hr10_1
  have c1_8 := cell_of_row _ _ 8 _ _ _ hr10_1
  have c1_9 := cell_of_row _ _ 9 _ _ _ hr10_1
  have c1_10 := cell_of_row _ _ 10 _ _ _ hr10_1
  have c1_11 := cell_of_row _ _ 11 _ _ _ hr10_1
  have c2_0 := cell_of_row _ _ 0 _ _ _ hr10_2
  have c2_1 := cell_of_row _ _ 1 _ _ _ hr10_2
  have c2_2 := cell_of_row _ _ 2 _ _ _ hr10_2
  have c2_3 := cell_of_row _ _ 3 _ _ _ hr10_2
  have c2_4 := cell_of_row _ _ 4 _ _ _ hr10_2
  have c2_5 := cell_of_row _ _ 5 _ _ _ hr10_2
  have c2_6 := cell_of_row _ _ 6 _ _ _ hr10_2
  have c2_7 := cell_of_row _ _ 7 _ _ _ hr10_2
  have c2_8 := cell_of_row _ _ 8 _ _ _ hr10_2
  have c2_9 := cell_of_row _ _ 9 _ _ _ hr10_2
  have c2_10 := cell_of_row _ _ 10 _ _ _ hr10_2
  have c2_11 := cell_of_row _ _ 11 _ _ _ hr10_2
  simp at c0_0 c0_1 c0_2 c0_3 c0_4 c0_5 c0_6 c0_7 c0_8 c0_9 c0_10 c0_11 c0_12 c0_13 c0_14 c0_15 c0_16 c0_17 c0_18 c0_19 c0_20 c0_21 c0_22 c0_23 c1_0 c1_1 c1_2 c1_3 c1_4 c1_5 c1_6 c1_7 c1_8 c1_9 c1_10 c1_11 c2_0 c2_1 c2_2 c2_3 c2_4 c2_5 c2_6 c2_7 c2_8 c2_9 c2_10 c2_11
  have fz : ∀ j, y10.frozen? ⟨y0.heap.size, j, none⟩ = false := fun j => by simp [World.frozen?, hr10_2]
  go_upto_region 8 with (go_at_call 95; refine (lerp_any _ _ _ _).mono ?_; rintro e ww ⟨rfl, rfl⟩)
  clear fz
  clear c0_0 c0_1 c0_2 c0_3 c0_4 c0_5 c0_6 c0_7 c0_8 c0_9 c0_10 c0_11 c0_12 c0_13 c0_14 c0_15 c0_16 c0_17 c0_18 c0_19 c0_20 c0_21 c0_22 c0_23 c1_0 c1_1 c1_2 c1_3 c1_4 c1_5 c1_6 c1_7 c1_8 c1_9 c1_10 c1_11 c2_0 c2_1 c2_2 c2_3 c2_4 c2_5 c2_6 c2_7 c2_8 c2_9 c2_10 c2_11
  have hN : (y10.setCell ⟨y0.heap.size, 11, none⟩ (.int .i64 (Pl.lerp a11 a23 t))).heap[y0.heap.size]? = some (.cells #[.int .i64 a0, .int .i64 a1, .int .i64 (Pl.lerp a2 a14 t), .int .i64 (Pl.lerp a3 a15 t), .int .i64 (Pl.lerp a4 a16 t), .int .i64 (Pl.lerp a5 a17 t), .int .i64 (Pl.lerp a6 a18 t), .int .i64 (Pl.lerp a7 a19 t), .int .i64 (Pl.lerp a8 a20 t), .int .i64 (Pl.lerp a9 a21 t), .int .i64 (Pl.lerp a10 a22 t), .int .i64 (Pl.lerp a11 a23 t)] 89 (0, 0)) := heap_setCell_same _ _ 11 _ _ _ hr10_2
  have hO : ∀ kk, kk ≠ y0.heap.size → (y10.setCell ⟨y0.heap.size, 11, none⟩ (.int .i64 (Pl.lerp a11 a23 t))).heap[kk]? = y10.heap[kk]? := fun kk hk => Below.heap_setCell _ _ _ _ hk
  have HUx : Below w.heap.size w (y10.setCell ⟨y0.heap.size, 11, none⟩ (.int .i64 (Pl.lerp a11 a23 t))) := HU10.out.setCell (by show w.heap.size ≤ y0.heap.size; omega) _
  obtain ⟨y11, hy11⟩ : ∃ y, y10.setCell ⟨y0.heap.size, 11, none⟩ (.int .i64 (Pl.lerp a11 a23 t)) = y := ⟨_, rfl⟩
  rw [hy11] at hN hO HUx ⊢
  clear hy11
  have HU11 := Lib.hid HUx
  have hr11_0 := (hO _ (by omega)).trans hr10_0
  have hr11_1 := (hO _ (by omega)).trans hr10_1
  have hr11_2 := hN
  clear hN hO HUx
  clear hr10_0 hr10_1 hr10_2 HU10
  have c2_0 := cell_of_row _ _ 0 _ _ _ hr11_2
  have c2_1 := cell_of_row _ _ 1 _ _ _ hr11_2
  have c2_2 := cell_of_row _ _ 2 _ _ _ hr11_2
  have c2_3 := cell_of_row _ _ 3 _ _ _ hr11_2
  have c2_4 := cell_of_row _ _ 4 _ _ _ hr11_2
  have c2_5 := cell_of_row _ _ 5 _ _ _ hr11_2
  have c2_6 := cell_of_row _ _ 6 _ _ _ hr11_2
  have c2_7 := cell_of_row _ _ 7 _ _ _ hr11_2
  have c2_8 := cell_of_row _ _ 8 _ _ _ hr11_2
  have c2_9 := cell_of_row _ _ 9 _ _ _ hr11_2
  have c2_10 := cell_of_row _ _ 10 _ _ _ hr11_2
  have c2_11 := cell_of_row _ _ 11 _ _ _ hr11_2
  simp at c2_0 c2_1 c2_2 c2_3 c2_4 c2_5 c2_6 c2_7 c2_8 c2_9 c2_10 c2_11
  have hHr := Lib.hid hr11_1
  have hHi := Lib.hid (show (Try.prog.info? 89).map (·.size) = some (#[.int .i64 a0, .int .i64 a1, .int .i64 (Pl.lerp a2 a14 t), .int .i64 (Pl.lerp a3 a15 t), .int .i64 (Pl.lerp a4 a16 t), .int .i64 (Pl.lerp a5 a17 t), .int .i64 (Pl.lerp a6 a18 t), .int .i64 (Pl.lerp a7 a19 t), .int .i64 (Pl.lerp a8 a20 t), .int .i64 (Pl.lerp a9 a21 t), .int .i64 (Pl.lerp a10 a22 t), .int .i64 (Pl.lerp a11 a23 t)] : Array Value).size by kernel_rfl)
  have hHz := Lib.hid (show (#[.int .i64 0, .int .i64 0, .int .i64 0, .int .i64 0, .int .i64 0, .int .i64 0, .int .i64 0, .int .i64 0, .int .i64 0, .int .i64 0, .int .i64 0, .int .i64 0] : Array Value).size = (#[.int .i64 a0, .int .i64 a1, .int .i64 (Pl.lerp a2 a14 t), .int .i64 (Pl.lerp a3 a15 t), .int .i64 (Pl.lerp a4 a16 t), .int .i64 (Pl.lerp a5 a17 t), .int .i64 (Pl.lerp a6 a18 t), .int .i64 (Pl.lerp a7 a19 t), .int .i64 (Pl.lerp a8 a20 t), .int .i64 (Pl.lerp a9 a21 t), .int .i64 (Pl.lerp a10 a22 t), .int .i64 (Pl.lerp a11 a23 t)] : Array Value).size from rfl)
  have hHo := Lib.hid (show (#[.int .i64 a0, .int .i64 a1, .int .i64 (Pl.lerp a2 a14 t), .int .i64 (Pl.lerp a3 a15 t), .int .i64 (Pl.lerp a4 a16 t), .int .i64 (Pl.lerp a5 a17 t), .int .i64 (Pl.lerp a6 a18 t), .int .i64 (Pl.lerp a7 a19 t), .int .i64 (Pl.lerp a8 a20 t), .int .i64 (Pl.lerp a9 a21 t), .int .i64 (Pl.lerp a10 a22 t), .int .i64 (Pl.lerp a11 a23 t)] : Array Value).all (·.oneCell') = true by simp [Value.oneCell'])
  go_wp2_with (first | (refine Au.wpList_store_row rfl 89 (.tmp 4) (.tmp 37) rfl y11 #[.int .i64 0, .int .i64 0, .int .i64 0, .int .i64 0, .int .i64 0, .int .i64 0, .int .i64 0, .int .i64 0, .int .i64 0, .int .i64 0, .int .i64 0, .int .i64 0] #[.int .i64 a0, .int .i64 a1, .int .i64 (Pl.lerp a2 a14 t), .int .i64 (Pl.lerp a3 a15 t), .int .i64 (Pl.lerp a4 a16 t), .int .i64 (Pl.lerp a5 a17 t), .int .i64 (Pl.lerp a6 a18 t), .int .i64 (Pl.lerp a7 a19 t), .int .i64 (Pl.lerp a8 a20 t), .int .i64 (Pl.lerp a9 a21 t), .int .i64 (Pl.lerp a10 a22 t), .int .i64 (Pl.lerp a11 a23 t)] (w.heap.size + 1) 89 hHr.out rfl rfl hHi.out hHz.out hHo.out ?_))
  clear c2_0 c2_1 c2_2 c2_3 c2_4 c2_5 c2_6 c2_7 c2_8 c2_9 c2_10 c2_11
  clear hHr hHi hHz hHo
  have hN := setRow_heap _ (w.heap.size + 1) _ #[.int .i64 a0, .int .i64 a1, .int .i64 (Pl.lerp a2 a14 t), .int .i64 (Pl.lerp a3 a15 t), .int .i64 (Pl.lerp a4 a16 t), .int .i64 (Pl.lerp a5 a17 t), .int .i64 (Pl.lerp a6 a18 t), .int .i64 (Pl.lerp a7 a19 t), .int .i64 (Pl.lerp a8 a20 t), .int .i64 (Pl.lerp a9 a21 t), .int .i64 (Pl.lerp a10 a22 t), .int .i64 (Pl.lerp a11 a23 t)] _ _ hr11_1
  have hsz := HU11.out.size
  have HUx := below_setRow (g := w.heap.size + 1) HU11.out (by first | omega | (simp at *; omega)) #[.int .i64 a0, .int .i64 a1, .int .i64 (Pl.lerp a2 a14 t), .int .i64 (Pl.lerp a3 a15 t), .int .i64 (Pl.lerp a4 a16 t), .int .i64 (Pl.lerp a5 a17 t), .int .i64 (Pl.lerp a6 a18 t), .int .i64 (Pl.lerp a7 a19 t), .int .i64 (Pl.lerp a8 a20 t), .int .i64 (Pl.lerp a9 a21 t), .int .i64 (Pl.lerp a10 a22 t), .int .i64 (Pl.lerp a11 a23 t)]
  have hO : ∀ kk, kk ≠ w.heap.size + 1 → (y11.setRow (w.heap.size + 1) #[.int .i64 a0, .int .i64 a1, .int .i64 (Pl.lerp a2 a14 t), .int .i64 (Pl.lerp a3 a15 t), .int .i64 (Pl.lerp a4 a16 t), .int .i64 (Pl.lerp a5 a17 t), .int .i64 (Pl.lerp a6 a18 t), .int .i64 (Pl.lerp a7 a19 t), .int .i64 (Pl.lerp a8 a20 t), .int .i64 (Pl.lerp a9 a21 t), .int .i64 (Pl.lerp a10 a22 t), .int .i64 (Pl.lerp a11 a23 t)]).heap[kk]? = y11.heap[kk]? := fun kk hk => setRow_other _ _ _ _ hk
  obtain ⟨y12, hy12⟩ : ∃ y, y11.setRow (w.heap.size + 1) #[.int .i64 a0, .int .i64 a1, .int .i64 (Pl.lerp a2 a14 t), .int .i64 (Pl.lerp a3 a15 t), .int .i64 (Pl.lerp a4 a16 t), .int .i64 (Pl.lerp a5 a17 t), .int .i64 (Pl.lerp a6 a18 t), .int .i64 (Pl.lerp a7 a19 t), .int .i64 (Pl.lerp a8 a20 t), .int .i64 (Pl.lerp a9 a21 t), .int .i64 (Pl.lerp a10 a22 t), .int .i64 (Pl.lerp a11 a23 t)] = y := ⟨_, rfl⟩
  rw [hy12] at hN HUx hO ⊢
  clear hy12 hsz
  have HU12 := Lib.hid HUx
  clear HUx
  have hr12_0 := (hO _ (by omega)).trans hr11_0
  have hr12_1 := hN
  have hr12_2 := (hO _ (by omega)).trans hr11_2
  clear hN hO
  clear hr11_0 hr11_1 hr11_2 HU11
  have c1_0 := cell_of_row _ _ 0 _ _ _ hr12_1
  have c1_1 := cell_of_row _ _ 1 _ _ _ hr12_1
  have c1_2 := cell_of_row _ _ 2 _ _ _ hr12_1
  have c1_3 := cell_of_row _ _ 3 _ _ _ hr12_1
  have c1_4 := cell_of_row _ _ 4 _ _ _ hr12_1
  have c1_5 := cell_of_row _ _ 5 _ _ _ hr12_1
  have c1_6 := cell_of_row _ _ 6 _ _ _ hr12_1
  have c1_7 := cell_of_row _ _ 7 _ _ _ hr12_1
  have c1_8 := cell_of_row _ _ 8 _ _ _ hr12_1
  have c1_9 := cell_of_row _ _ 9 _ _ _ hr12_1
  have c1_10 := cell_of_row _ _ 10 _ _ _ hr12_1
  have c1_11 := cell_of_row _ _ 11 _ _ _ hr12_1
  simp at c1_0 c1_1 c1_2 c1_3 c1_4 c1_5 c1_6 c1_7 c1_8 c1_9 c1_10 c1_11
  go_wp2
  exact bodyPost_ret (v := .agg #[.int .i64 a0, .int .i64 a1, .int .i64 (Pl.lerp a2 a14 t), .int .i64 (Pl.lerp a3 a15 t), .int .i64 (Pl.lerp a4 a16 t), .int .i64 (Pl.lerp a5 a17 t), .int .i64 (Pl.lerp a6 a18 t), .int .i64 (Pl.lerp a7 a19 t), .int .i64 (Pl.lerp a8 a20 t), .int .i64 (Pl.lerp a9 a21 t), .int .i64 (Pl.lerp a10 a22 t), .int .i64 (Pl.lerp a11 a23 t)]) (by simp [results, Try.results43, go_sem, c1_0, c1_1, c1_2, c1_3, c1_4, c1_5, c1_6, c1_7, c1_8, c1_9, c1_10, c1_11]) rfl ⟨rfl, HU12.out⟩

end Go.Proofs.Ythlcfhnlkpobhaa.Yr
