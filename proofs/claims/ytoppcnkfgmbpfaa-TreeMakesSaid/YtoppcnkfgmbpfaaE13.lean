/- Boxes: contracts of the functions in a straight line. -/
import Derived.Test.YtoppcnkfgmbpfaaE10
import Derived.Test.YtoppcnkfgmbpfaaE06
import Derived.Test.YtoppcnkfgmbpfaaE07
import Derived.Test.YtoppcnkfgmbpfaaE12
namespace Go.Proofs.Ytoppcnkfgmbpfaa.Bx
open Go.RowKit Go.Proofs.Ytoppcnkfgmbpfaa Go.Proofs.Ytoppcnkfgmbpfaa.Wa Go.Proofs.Ytoppcnkfgmbpfaa.Ve Go.Proofs.Ytoppcnkfgmbpfaa.Au
set_option linter.unusedVariables false
set_option linter.unusedSimpArgs false

set_option maxHeartbeats 2000000 in
set_option maxRecDepth 100000 in
theorem bto_any (a b c d e f : Int) (w : World)  : Calls Try.prog 20 #[.agg #[.int .i64 a, .int .i64 b, .int .i64 c, .int .i64 d, .int .i64 e, .int .i64 f]] w fun e' w' => e' = .returned (.agg #[.int .i64 a, .int .i64 b, .int .i64 c, .int .i64 d, .int .i64 e, .int .i64 f]) ∧ Below w.heap.size w w' := by
  go_enter Try.func20, Try.ntmps20
  go_upto_region 1 with fail
  have hR := Au.rows2 w (.cells #[.int .i64 a, .int .i64 b, .int .i64 c, .int .i64 d, .int .i64 e, .int .i64 f] 49) (.cells #[.int .i64 0, .int .i64 0, .int .i64 0, .int .i64 0, .int .i64 0, .int .i64 0] 41)
  have HUx := below_n2 w (.cells #[.int .i64 a, .int .i64 b, .int .i64 c, .int .i64 d, .int .i64 e, .int .i64 f] 49) (.cells #[.int .i64 0, .int .i64 0, .int .i64 0, .int .i64 0, .int .i64 0, .int .i64 0] 41)
  obtain ⟨y0, hy0⟩ : ∃ y0, (w.alloc (.cells #[.int .i64 a, .int .i64 b, .int .i64 c, .int .i64 d, .int .i64 e, .int .i64 f] 49)).alloc (.cells #[.int .i64 0, .int .i64 0, .int .i64 0, .int .i64 0, .int .i64 0, .int .i64 0] 41) = y0 := ⟨_, rfl⟩
  rw [hy0] at hR HUx ⊢
  clear hy0
  have HU0 := Lib.hid HUx
  clear HUx
  obtain ⟨hr0_0, hr0_1⟩ := hR
  refine wp_region_held_drew (S := fun y => y.heap[w.heap.size]? = some (.cells #[.int .i64 a, .int .i64 b, .int .i64 c, .int .i64 d, .int .i64 e, .int .i64 f] 49 (0, 0))) (by kernel_rfl) (hr0_0) (fun hS0 => ?_)
  obtain ⟨y1, hy1⟩ : ∃ y, y0.drew = y := ⟨_, rfl⟩
  have HU1 := Lib.hid (show Below w.heap.size w y1 by rw [← hy1]; exact HU0.out.drew)
  have hr1_0 : y1.heap[w.heap.size]? = some (.cells #[.int .i64 a, .int .i64 b, .int .i64 c, .int .i64 d, .int .i64 e, .int .i64 f] 49 (0, 0)) := by rw [← hy1]; exact hr0_0
  have hr1_1 : y1.heap[w.heap.size + 1]? = some (.cells #[.int .i64 0, .int .i64 0, .int .i64 0, .int .i64 0, .int .i64 0, .int .i64 0] 41 (0, 0)) := by rw [← hy1]; exact hr0_1
  rw [hy1] at hS0 ⊢
  clear hy1
  refine wpAnyH_take (i := 0) (v := ?_) rfl (by kernel_rfl) (by kernel_rfl) (by kernel_rfl) (fun _ _ _ h => h) (Or.inl ⟨by kernel_rfl, by (intro wz hSz; go_simp; try with_reducible rfl)⟩) hS0 ?_
  go_simp
  refine wpAnyH_take (i := 1) (v := ?_) rfl (by kernel_rfl) (by kernel_rfl) (by kernel_rfl) (fun _ _ _ h => h) (Or.inl ⟨by kernel_rfl, by (intro wz hSz; have c0_0 := cell_of_row _ _ 0 _ _ _ hSz; have c0_1 := cell_of_row _ _ 1 _ _ _ hSz; have c0_2 := cell_of_row _ _ 2 _ _ _ hSz; have c0_3 := cell_of_row _ _ 3 _ _ _ hSz; have c0_4 := cell_of_row _ _ 4 _ _ _ hSz; have c0_5 := cell_of_row _ _ 5 _ _ _ hSz; simp at c0_0 c0_1 c0_2 c0_3 c0_4 c0_5; go_simp; try with_reducible rfl)⟩) hS0 ?_
  go_simp
  refine wpAnyH_take (i := 3) (v := ?_) rfl (by kernel_rfl) (by kernel_rfl) (by kernel_rfl) (fun _ _ _ h => h) (Or.inl ⟨by kernel_rfl, by (intro wz hSz; go_simp; try with_reducible rfl)⟩) hS0 ?_
  go_simp
  refine wpAnyH_take (i := 4) (v := ?_) rfl (by kernel_rfl) (by kernel_rfl) (by kernel_rfl) (fun _ _ _ h => h) (Or.inl ⟨by kernel_rfl, by (intro wz hSz; have c0_0 := cell_of_row _ _ 0 _ _ _ hSz; have c0_1 := cell_of_row _ _ 1 _ _ _ hSz; have c0_2 := cell_of_row _ _ 2 _ _ _ hSz; have c0_3 := cell_of_row _ _ 3 _ _ _ hSz; have c0_4 := cell_of_row _ _ 4 _ _ _ hSz; have c0_5 := cell_of_row _ _ 5 _ _ _ hSz; simp at c0_0 c0_1 c0_2 c0_3 c0_4 c0_5; go_simp; try with_reducible rfl)⟩) hS0 ?_
  go_simp
  refine wpAnyH_ready (rs := [2]) (by kernel_rfl) (by simp) ?_
  refine AllReadyH.cons rfl (fun K hK => ?_) AllReadyH.nil
  go_simp
  go_wp2_with (go_at_call 28; refine (to_any _ _ _ _).mono ?_; rintro e y2 ⟨rfl, hb2⟩)
  have hr2_0 := (hb2.block _ (lt_heap hr1_0)).trans hr1_0
  have hr2_1 := (hb2.block _ (lt_heap hr1_1)).trans hr1_1
  have HU2 := Lib.hid (HU1.out.trans (hb2.mono HU1.out.size))
  refine hK.out _ _ ((hb2.block _ (lt_heap hS0)).trans hS0) (fun hS2c => ?_)
  clear hK K
  refine wpAnyH_ready (rs := [5]) (by kernel_rfl) (by simp) ?_
  refine AllReadyH.cons rfl (fun K hK => ?_) AllReadyH.nil
  go_simp
  go_wp2_with (go_at_call 28; refine (to_any _ _ _ _).mono ?_; rintro e y3 ⟨rfl, hb3⟩)
  have hr3_0 := (hb3.block _ (lt_heap hr2_0)).trans hr2_0
  have hr3_1 := (hb3.block _ (lt_heap hr2_1)).trans hr2_1
  have HU3 := Lib.hid (HU2.out.trans (hb3.mono HU2.out.size))
  refine hK.out _ _ ((hb3.block _ (lt_heap hS2c)).trans hS2c) (fun hS3c => ?_)
  clear hK K
  refine wpAnyH_take (i := 6) (v := ?_) rfl (by kernel_rfl) (by kernel_rfl) (by kernel_rfl) (fun _ _ _ h => h) (Or.inl ⟨by kernel_rfl, by (intro wz hSz; go_simp; try with_reducible rfl)⟩) hS3c ?_
  go_simp
  refine wpAnyH_ready (rs := [7]) (by kernel_rfl) (by simp) ?_
  refine AllReadyH.cons rfl (fun K hK => ?_) AllReadyH.nil
  refine step_store_row rfl 41 (.tmp 2) (.tmp 9) rfl #[.int .i64 0, .int .i64 0, .int .i64 0, .int .i64 0, .int .i64 0, .int .i64 0] #[.int .i64 a, .int .i64 b, .int .i64 c, .int .i64 d, .int .i64 e, .int .i64 f] _ 41 hr3_1 rfl (by first | rfl | (go_simp; done) | (go_simp; rfl)) (by kernel_rfl) rfl (by simp [Value.oneCell']) ?_
  have hN := setRow_heap _ (w.heap.size + 1) _ #[.int .i64 a, .int .i64 b, .int .i64 c, .int .i64 d, .int .i64 e, .int .i64 f] _ _ hr3_1
  have hsz := HU3.out.size
  have HUx := below_setRow (g := w.heap.size + 1) HU3.out (by first | omega | (simp at *; omega)) #[.int .i64 a, .int .i64 b, .int .i64 c, .int .i64 d, .int .i64 e, .int .i64 f]
  obtain ⟨y4, hy4⟩ : ∃ y, y3.setRow (w.heap.size + 1) #[.int .i64 a, .int .i64 b, .int .i64 c, .int .i64 d, .int .i64 e, .int .i64 f] = y := ⟨_, rfl⟩
  have hO : ∀ k, k ≠ w.heap.size + 1 → y4.heap[k]? = y3.heap[k]? := fun k hk => by rw [← hy4]; exact setRow_other _ _ _ _ hk
  rw [hy4] at hN HUx ⊢
  clear hy4
  have HU4 := Lib.hid HUx
  clear HUx
  have hr4_0 := (hO _ (by omega)).trans hr3_0
  have hr4_1 := hN
  clear hN
  refine hK.out _ _ ((hO _ (by omega)).trans hS3c) (fun hS4s => ?_)
  clear hK K
  refine wpAnyH_done (by kernel_rfl) ?_ _
  have c1_0 := cell_of_row _ _ 0 _ _ _ hr4_1
  have c1_1 := cell_of_row _ _ 1 _ _ _ hr4_1
  have c1_2 := cell_of_row _ _ 2 _ _ _ hr4_1
  have c1_3 := cell_of_row _ _ 3 _ _ _ hr4_1
  have c1_4 := cell_of_row _ _ 4 _ _ _ hr4_1
  have c1_5 := cell_of_row _ _ 5 _ _ _ hr4_1
  simp at c1_0 c1_1 c1_2 c1_3 c1_4 c1_5
  go_wp2
  exact bodyPost_ret (v := .agg #[.int .i64 a, .int .i64 b, .int .i64 c, .int .i64 d, .int .i64 e, .int .i64 f]) (by simp [results, Try.results20, go_sem, c1_0, c1_1, c1_2, c1_3, c1_4, c1_5]) rfl ⟨rfl, HU4.out⟩

set_option maxHeartbeats 2000000 in
set_option maxRecDepth 100000 in
theorem bfrom_any (a b c d e f : Int) (w : World)  : Calls Try.prog 17 #[.agg #[.int .i64 a, .int .i64 b, .int .i64 c, .int .i64 d, .int .i64 e, .int .i64 f]] w fun e' w' => e' = .returned (.agg #[.int .i64 a, .int .i64 b, .int .i64 c, .int .i64 d, .int .i64 e, .int .i64 f]) ∧ Below w.heap.size w w' := by
  go_enter Try.func17, Try.ntmps17
  go_upto_region 1 with fail
  have hR := Au.rows2 w (.cells #[.int .i64 a, .int .i64 b, .int .i64 c, .int .i64 d, .int .i64 e, .int .i64 f] 41) (.cells #[.int .i64 0, .int .i64 0, .int .i64 0, .int .i64 0, .int .i64 0, .int .i64 0] 49)
  have HUx := below_n2 w (.cells #[.int .i64 a, .int .i64 b, .int .i64 c, .int .i64 d, .int .i64 e, .int .i64 f] 41) (.cells #[.int .i64 0, .int .i64 0, .int .i64 0, .int .i64 0, .int .i64 0, .int .i64 0] 49)
  obtain ⟨y0, hy0⟩ : ∃ y0, (w.alloc (.cells #[.int .i64 a, .int .i64 b, .int .i64 c, .int .i64 d, .int .i64 e, .int .i64 f] 41)).alloc (.cells #[.int .i64 0, .int .i64 0, .int .i64 0, .int .i64 0, .int .i64 0, .int .i64 0] 49) = y0 := ⟨_, rfl⟩
  rw [hy0] at hR HUx ⊢
  clear hy0
  have HU0 := Lib.hid HUx
  clear HUx
  obtain ⟨hr0_0, hr0_1⟩ := hR
  refine wp_region_held_drew (S := fun y => y.heap[w.heap.size]? = some (.cells #[.int .i64 a, .int .i64 b, .int .i64 c, .int .i64 d, .int .i64 e, .int .i64 f] 41 (0, 0))) (by kernel_rfl) (hr0_0) (fun hS0 => ?_)
  obtain ⟨y1, hy1⟩ : ∃ y, y0.drew = y := ⟨_, rfl⟩
  have HU1 := Lib.hid (show Below w.heap.size w y1 by rw [← hy1]; exact HU0.out.drew)
  have hr1_0 : y1.heap[w.heap.size]? = some (.cells #[.int .i64 a, .int .i64 b, .int .i64 c, .int .i64 d, .int .i64 e, .int .i64 f] 41 (0, 0)) := by rw [← hy1]; exact hr0_0
  have hr1_1 : y1.heap[w.heap.size + 1]? = some (.cells #[.int .i64 0, .int .i64 0, .int .i64 0, .int .i64 0, .int .i64 0, .int .i64 0] 49 (0, 0)) := by rw [← hy1]; exact hr0_1
  rw [hy1] at hS0 ⊢
  clear hy1
  refine wpAnyH_take (i := 0) (v := ?_) rfl (by kernel_rfl) (by kernel_rfl) (by kernel_rfl) (fun _ _ _ h => h) (Or.inl ⟨by kernel_rfl, by (intro wz hSz; go_simp; try with_reducible rfl)⟩) hS0 ?_
  go_simp
  refine wpAnyH_take (i := 1) (v := ?_) rfl (by kernel_rfl) (by kernel_rfl) (by kernel_rfl) (fun _ _ _ h => h) (Or.inl ⟨by kernel_rfl, by (intro wz hSz; have c0_0 := cell_of_row _ _ 0 _ _ _ hSz; have c0_1 := cell_of_row _ _ 1 _ _ _ hSz; have c0_2 := cell_of_row _ _ 2 _ _ _ hSz; have c0_3 := cell_of_row _ _ 3 _ _ _ hSz; have c0_4 := cell_of_row _ _ 4 _ _ _ hSz; have c0_5 := cell_of_row _ _ 5 _ _ _ hSz; simp at c0_0 c0_1 c0_2 c0_3 c0_4 c0_5; go_simp; try with_reducible rfl)⟩) hS0 ?_
  go_simp
  refine wpAnyH_take (i := 3) (v := ?_) rfl (by kernel_rfl) (by kernel_rfl) (by kernel_rfl) (fun _ _ _ h => h) (Or.inl ⟨by kernel_rfl, by (intro wz hSz; go_simp; try with_reducible rfl)⟩) hS0 ?_
  go_simp
  refine wpAnyH_take (i := 4) (v := ?_) rfl (by kernel_rfl) (by kernel_rfl) (by kernel_rfl) (fun _ _ _ h => h) (Or.inl ⟨by kernel_rfl, by (intro wz hSz; have c0_0 := cell_of_row _ _ 0 _ _ _ hSz; have c0_1 := cell_of_row _ _ 1 _ _ _ hSz; have c0_2 := cell_of_row _ _ 2 _ _ _ hSz; have c0_3 := cell_of_row _ _ 3 _ _ _ hSz; have c0_4 := cell_of_row _ _ 4 _ _ _ hSz; have c0_5 := cell_of_row _ _ 5 _ _ _ hSz; simp at c0_0 c0_1 c0_2 c0_3 c0_4 c0_5; go_simp; try with_reducible rfl)⟩) hS0 ?_
  go_simp
  refine wpAnyH_ready (rs := [2]) (by kernel_rfl) (by simp) ?_
  refine AllReadyH.cons rfl (fun K hK => ?_) AllReadyH.nil
  go_simp
  go_wp2_with (go_at_call 23; refine (from_any _ _ _ _).mono ?_; rintro e y2 ⟨rfl, hb2⟩)
  have hr2_0 := (hb2.block _ (lt_heap hr1_0)).trans hr1_0
  have hr2_1 := (hb2.block _ (lt_heap hr1_1)).trans hr1_1
  have HU2 := Lib.hid (HU1.out.trans (hb2.mono HU1.out.size))
  refine hK.out _ _ ((hb2.block _ (lt_heap hS0)).trans hS0) (fun hS2c => ?_)
  clear hK K
  refine wpAnyH_ready (rs := [5]) (by kernel_rfl) (by simp) ?_
  refine AllReadyH.cons rfl (fun K hK => ?_) AllReadyH.nil
  go_simp
  go_wp2_with (go_at_call 23; refine (from_any _ _ _ _).mono ?_; rintro e y3 ⟨rfl, hb3⟩)
  have hr3_0 := (hb3.block _ (lt_heap hr2_0)).trans hr2_0
  have hr3_1 := (hb3.block _ (lt_heap hr2_1)).trans hr2_1
  have HU3 := Lib.hid (HU2.out.trans (hb3.mono HU2.out.size))
  refine hK.out _ _ ((hb3.block _ (lt_heap hS2c)).trans hS2c) (fun hS3c => ?_)
  clear hK K
  refine wpAnyH_take (i := 6) (v := ?_) rfl (by kernel_rfl) (by kernel_rfl) (by kernel_rfl) (fun _ _ _ h => h) (Or.inl ⟨by kernel_rfl, by (intro wz hSz; go_simp; try with_reducible rfl)⟩) hS3c ?_
  go_simp
  refine wpAnyH_ready (rs := [7]) (by kernel_rfl) (by simp) ?_
  refine AllReadyH.cons rfl (fun K hK => ?_) AllReadyH.nil
  refine step_store_row rfl 49 (.tmp 2) (.tmp 9) rfl #[.int .i64 0, .int .i64 0, .int .i64 0, .int .i64 0, .int .i64 0, .int .i64 0] #[.int .i64 a, .int .i64 b, .int .i64 c, .int .i64 d, .int .i64 e, .int .i64 f] _ 49 hr3_1 rfl (by first | rfl | (go_simp; done) | (go_simp; rfl)) (by kernel_rfl) rfl (by simp [Value.oneCell']) ?_
  have hN := setRow_heap _ (w.heap.size + 1) _ #[.int .i64 a, .int .i64 b, .int .i64 c, .int .i64 d, .int .i64 e, .int .i64 f] _ _ hr3_1
  have hsz := HU3.out.size
  have HUx := below_setRow (g := w.heap.size + 1) HU3.out (by first | omega | (simp at *; omega)) #[.int .i64 a, .int .i64 b, .int .i64 c, .int .i64 d, .int .i64 e, .int .i64 f]
  obtain ⟨y4, hy4⟩ : ∃ y, y3.setRow (w.heap.size + 1) #[.int .i64 a, .int .i64 b, .int .i64 c, .int .i64 d, .int .i64 e, .int .i64 f] = y := ⟨_, rfl⟩
  have hO : ∀ k, k ≠ w.heap.size + 1 → y4.heap[k]? = y3.heap[k]? := fun k hk => by rw [← hy4]; exact setRow_other _ _ _ _ hk
  rw [hy4] at hN HUx ⊢
  clear hy4
  have HU4 := Lib.hid HUx
  clear HUx
  have hr4_0 := (hO _ (by omega)).trans hr3_0
  have hr4_1 := hN
  clear hN
  refine hK.out _ _ ((hO _ (by omega)).trans hS3c) (fun hS4s => ?_)
  clear hK K
  refine wpAnyH_done (by kernel_rfl) ?_ _
  have c1_0 := cell_of_row _ _ 0 _ _ _ hr4_1
  have c1_1 := cell_of_row _ _ 1 _ _ _ hr4_1
  have c1_2 := cell_of_row _ _ 2 _ _ _ hr4_1
  have c1_3 := cell_of_row _ _ 3 _ _ _ hr4_1
  have c1_4 := cell_of_row _ _ 4 _ _ _ hr4_1
  have c1_5 := cell_of_row _ _ 5 _ _ _ hr4_1
  simp at c1_0 c1_1 c1_2 c1_3 c1_4 c1_5
  go_wp2
  exact bodyPost_ret (v := .agg #[.int .i64 a, .int .i64 b, .int .i64 c, .int .i64 d, .int .i64 e, .int .i64 f]) (by simp [results, Try.results17, go_sem, c1_0, c1_1, c1_2, c1_3, c1_4, c1_5]) rfl ⟨rfl, HU4.out⟩

set_option maxHeartbeats 2000000 in
set_option maxRecDepth 100000 in
theorem ptopair_any (a0 a1 a2 a3 a4 a5 a6 a7 a8 a9 a10 a11 : Int) (w : World)  : Calls Try.prog 15 #[.agg #[.int .i64 a0, .int .i64 a1, .int .i64 a2, .int .i64 a3, .int .i64 a4, .int .i64 a5, .int .i64 a6, .int .i64 a7, .int .i64 a8, .int .i64 a9, .int .i64 a10, .int .i64 a11]] w fun e' w' => e' = .returned (.agg #[.int .i64 a0, .int .i64 a1, .int .i64 a2, .int .i64 a3, .int .i64 a4, .int .i64 a5, .int .i64 a6, .int .i64 a7, .int .i64 a8, .int .i64 a9, .int .i64 a10, .int .i64 a11]) ∧ Below w.heap.size w w' := by
  go_enter Try.func15, Try.ntmps15
  go_upto_region 1 with fail
  have hR := Au.rows2 w (.cells #[.int .i64 a0, .int .i64 a1, .int .i64 a2, .int .i64 a3, .int .i64 a4, .int .i64 a5, .int .i64 a6, .int .i64 a7, .int .i64 a8, .int .i64 a9, .int .i64 a10, .int .i64 a11] 51) (.cells #[.int .i64 0, .int .i64 0, .int .i64 0, .int .i64 0, .int .i64 0, .int .i64 0, .int .i64 0, .int .i64 0, .int .i64 0, .int .i64 0, .int .i64 0, .int .i64 0] 43)
  have HUx := below_n2 w (.cells #[.int .i64 a0, .int .i64 a1, .int .i64 a2, .int .i64 a3, .int .i64 a4, .int .i64 a5, .int .i64 a6, .int .i64 a7, .int .i64 a8, .int .i64 a9, .int .i64 a10, .int .i64 a11] 51) (.cells #[.int .i64 0, .int .i64 0, .int .i64 0, .int .i64 0, .int .i64 0, .int .i64 0, .int .i64 0, .int .i64 0, .int .i64 0, .int .i64 0, .int .i64 0, .int .i64 0] 43)
  obtain ⟨y0, hy0⟩ : ∃ y0, (w.alloc (.cells #[.int .i64 a0, .int .i64 a1, .int .i64 a2, .int .i64 a3, .int .i64 a4, .int .i64 a5, .int .i64 a6, .int .i64 a7, .int .i64 a8, .int .i64 a9, .int .i64 a10, .int .i64 a11] 51)).alloc (.cells #[.int .i64 0, .int .i64 0, .int .i64 0, .int .i64 0, .int .i64 0, .int .i64 0, .int .i64 0, .int .i64 0, .int .i64 0, .int .i64 0, .int .i64 0, .int .i64 0] 43) = y0 := ⟨_, rfl⟩
  rw [hy0] at hR HUx ⊢
  clear hy0
  have HU0 := Lib.hid HUx
  clear HUx
  obtain ⟨hr0_0, hr0_1⟩ := hR
  refine wp_region_held_drew (S := fun y => y.heap[w.heap.size]? = some (.cells #[.int .i64 a0, .int .i64 a1, .int .i64 a2, .int .i64 a3, .int .i64 a4, .int .i64 a5, .int .i64 a6, .int .i64 a7, .int .i64 a8, .int .i64 a9, .int .i64 a10, .int .i64 a11] 51 (0, 0))) (by kernel_rfl) (hr0_0) (fun hS0 => ?_)
  obtain ⟨y1, hy1⟩ : ∃ y, y0.drew = y := ⟨_, rfl⟩
  have HU1 := Lib.hid (show Below w.heap.size w y1 by rw [← hy1]; exact HU0.out.drew)
  have hr1_0 : y1.heap[w.heap.size]? = some (.cells #[.int .i64 a0, .int .i64 a1, .int .i64 a2, .int .i64 a3, .int .i64 a4, .int .i64 a5, .int .i64 a6, .int .i64 a7, .int .i64 a8, .int .i64 a9, .int .i64 a10, .int .i64 a11] 51 (0, 0)) := by rw [← hy1]; exact hr0_0
  have hr1_1 : y1.heap[w.heap.size + 1]? = some (.cells #[.int .i64 0, .int .i64 0, .int .i64 0, .int .i64 0, .int .i64 0, .int .i64 0, .int .i64 0, .int .i64 0, .int .i64 0, .int .i64 0, .int .i64 0, .int .i64 0] 43 (0, 0)) := by rw [← hy1]; exact hr0_1
  rw [hy1] at hS0 ⊢
  clear hy1
  refine wpAnyH_take (i := 0) (v := ?_) rfl (by kernel_rfl) (by kernel_rfl) (by kernel_rfl) (fun _ _ _ h => h) (Or.inl ⟨by kernel_rfl, by (intro wz hSz; go_simp; try with_reducible rfl)⟩) hS0 ?_
  go_simp
  refine wpAnyH_take (i := 1) (v := ?_) rfl (by kernel_rfl) (by kernel_rfl) (by kernel_rfl) (fun _ _ _ h => h) (Or.inl ⟨by kernel_rfl, by (intro wz hSz; have c0_0 := cell_of_row _ _ 0 _ _ _ hSz; have c0_1 := cell_of_row _ _ 1 _ _ _ hSz; have c0_2 := cell_of_row _ _ 2 _ _ _ hSz; have c0_3 := cell_of_row _ _ 3 _ _ _ hSz; have c0_4 := cell_of_row _ _ 4 _ _ _ hSz; have c0_5 := cell_of_row _ _ 5 _ _ _ hSz; have c0_6 := cell_of_row _ _ 6 _ _ _ hSz; have c0_7 := cell_of_row _ _ 7 _ _ _ hSz; have c0_8 := cell_of_row _ _ 8 _ _ _ hSz; have c0_9 := cell_of_row _ _ 9 _ _ _ hSz; have c0_10 := cell_of_row _ _ 10 _ _ _ hSz; have c0_11 := cell_of_row _ _ 11 _ _ _ hSz; simp at c0_0 c0_1 c0_2 c0_3 c0_4 c0_5 c0_6 c0_7 c0_8 c0_9 c0_10 c0_11; go_simp; try with_reducible rfl)⟩) hS0 ?_
  go_simp
  refine wpAnyH_take (i := 3) (v := ?_) rfl (by kernel_rfl) (by kernel_rfl) (by kernel_rfl) (fun _ _ _ h => h) (Or.inl ⟨by kernel_rfl, by (intro wz hSz; go_simp; try with_reducible rfl)⟩) hS0 ?_
  go_simp
  refine wpAnyH_take (i := 4) (v := ?_) rfl (by kernel_rfl) (by kernel_rfl) (by kernel_rfl) (fun _ _ _ h => h) (Or.inl ⟨by kernel_rfl, by (intro wz hSz; have c0_0 := cell_of_row _ _ 0 _ _ _ hSz; have c0_1 := cell_of_row _ _ 1 _ _ _ hSz; have c0_2 := cell_of_row _ _ 2 _ _ _ hSz; have c0_3 := cell_of_row _ _ 3 _ _ _ hSz; have c0_4 := cell_of_row _ _ 4 _ _ _ hSz; have c0_5 := cell_of_row _ _ 5 _ _ _ hSz; have c0_6 := cell_of_row _ _ 6 _ _ _ hSz; have c0_7 := cell_of_row _ _ 7 _ _ _ hSz; have c0_8 := cell_of_row _ _ 8 _ _ _ hSz; have c0_9 := cell_of_row _ _ 9 _ _ _ hSz; have c0_10 := cell_of_row _ _ 10 _ _ _ hSz; have c0_11 := cell_of_row _ _ 11 _ _ _ hSz; simp at c0_0 c0_1 c0_2 c0_3 c0_4 c0_5 c0_6 c0_7 c0_8 c0_9 c0_10 c0_11; go_simp; try with_reducible rfl)⟩) hS0 ?_
  go_simp
  refine wpAnyH_ready (rs := [2]) (by kernel_rfl) (by simp) ?_
  refine AllReadyH.cons rfl (fun K hK => ?_) AllReadyH.nil
  go_simp
  go_wp2_with (go_at_call 20; refine (bto_any _ _ _ _ _ _ _).mono ?_; rintro e y2 ⟨rfl, hb2⟩)
  have hr2_0 := (hb2.block _ (lt_heap hr1_0)).trans hr1_0
  have hr2_1 := (hb2.block _ (lt_heap hr1_1)).trans hr1_1
  have HU2 := Lib.hid (HU1.out.trans (hb2.mono HU1.out.size))
  refine hK.out _ _ ((hb2.block _ (lt_heap hS0)).trans hS0) (fun hS2c => ?_)
  clear hK K
  refine wpAnyH_ready (rs := [5]) (by kernel_rfl) (by simp) ?_
  refine AllReadyH.cons rfl (fun K hK => ?_) AllReadyH.nil
  go_simp
  go_wp2_with (go_at_call 20; refine (bto_any _ _ _ _ _ _ _).mono ?_; rintro e y3 ⟨rfl, hb3⟩)
  have hr3_0 := (hb3.block _ (lt_heap hr2_0)).trans hr2_0
  have hr3_1 := (hb3.block _ (lt_heap hr2_1)).trans hr2_1
  have HU3 := Lib.hid (HU2.out.trans (hb3.mono HU2.out.size))
  refine hK.out _ _ ((hb3.block _ (lt_heap hS2c)).trans hS2c) (fun hS3c => ?_)
  clear hK K
  refine wpAnyH_take (i := 6) (v := ?_) rfl (by kernel_rfl) (by kernel_rfl) (by kernel_rfl) (fun _ _ _ h => h) (Or.inl ⟨by kernel_rfl, by (intro wz hSz; go_simp; try with_reducible rfl)⟩) hS3c ?_
  go_simp
  refine wpAnyH_ready (rs := [7]) (by kernel_rfl) (by simp) ?_
  refine AllReadyH.cons rfl (fun K hK => ?_) AllReadyH.nil
  refine step_store_row rfl 43 (.tmp 2) (.tmp 9) rfl #[.int .i64 0, .int .i64 0, .int .i64 0, .int .i64 0, .int .i64 0, .int .i64 0, .int .i64 0, .int .i64 0, .int .i64 0, .int .i64 0, .int .i64 0, .int .i64 0] #[.int .i64 a0, .int .i64 a1, .int .i64 a2, .int .i64 a3, .int .i64 a4, .int .i64 a5, .int .i64 a6, .int .i64 a7, .int .i64 a8, .int .i64 a9, .int .i64 a10, .int .i64 a11] _ 43 hr3_1 rfl (by first | rfl | (go_simp; done) | (go_simp; rfl)) (by kernel_rfl) rfl (by simp [Value.oneCell']) ?_
  have hN := setRow_heap _ (w.heap.size + 1) _ #[.int .i64 a0, .int .i64 a1, .int .i64 a2, .int .i64 a3, .int .i64 a4, .int .i64 a5, .int .i64 a6, .int .i64 a7, .int .i64 a8, .int .i64 a9, .int .i64 a10, .int .i64 a11] _ _ hr3_1
  have hsz := HU3.out.size
  have HUx := below_setRow (g := w.heap.size + 1) HU3.out (by first | omega | (simp at *; omega)) #[.int .i64 a0, .int .i64 a1, .int .i64 a2, .int .i64 a3, .int .i64 a4, .int .i64 a5, .int .i64 a6, .int .i64 a7, .int .i64 a8, .int .i64 a9, .int .i64 a10, .int .i64 a11]
  obtain ⟨y4, hy4⟩ : ∃ y, y3.setRow (w.heap.size + 1) #[.int .i64 a0, .int .i64 a1, .int .i64 a2, .int .i64 a3, .int .i64 a4, .int .i64 a5, .int .i64 a6, .int .i64 a7, .int .i64 a8, .int .i64 a9, .int .i64 a10, .int .i64 a11] = y := ⟨_, rfl⟩
  have hO : ∀ k, k ≠ w.heap.size + 1 → y4.heap[k]? = y3.heap[k]? := fun k hk => by rw [← hy4]; exact setRow_other _ _ _ _ hk
  rw [hy4] at hN HUx ⊢
  clear hy4
  have HU4 := Lib.hid HUx
  clear HUx
  have hr4_0 := (hO _ (by omega)).trans hr3_0
  have hr4_1 := hN
  clear hN
  refine hK.out _ _ ((hO _ (by omega)).trans hS3c) (fun hS4s => ?_)
  clear hK K
  refine wpAnyH_done (by kernel_rfl) ?_ _
  have c1_0 := cell_of_row _ _ 0 _ _ _ hr4_1
  have c1_1 := cell_of_row _ _ 1 _ _ _ hr4_1
  have c1_2 := cell_of_row _ _ 2 _ _ _ hr4_1
  have c1_3 := cell_of_row _ _ 3 _ _ _ hr4_1
  have c1_4 := cell_of_row _ _ 4 _ _ _ hr4_1
  have c1_5 := cell_of_row _ _ 5 _ _ _ hr4_1
  have c1_6 := cell_of_row _ _ 6 _ _ _ hr4_1
  have c1_7 := cell_of_row _ _ 7 _ _ _ hr4_1
  have c1_8 := cell_of_row _ _ 8 _ _ _ hr4_1
  have c1_9 := cell_of_row _ _ 9 _ _ _ hr4_1
  have c1_10 := cell_of_row _ _ 10 _ _ _ hr4_1
  have c1_11 := cell_of_row _ _ 11 _ _ _ hr4_1
  simp at c1_0 c1_1 c1_2 c1_3 c1_4 c1_5 c1_6 c1_7 c1_8 c1_9 c1_10 c1_11
  go_wp2
  exact bodyPost_ret (v := .agg #[.int .i64 a0, .int .i64 a1, .int .i64 a2, .int .i64 a3, .int .i64 a4, .int .i64 a5, .int .i64 a6, .int .i64 a7, .int .i64 a8, .int .i64 a9, .int .i64 a10, .int .i64 a11]) (by simp [results, Try.results15, go_sem, c1_0, c1_1, c1_2, c1_3, c1_4, c1_5, c1_6, c1_7, c1_8, c1_9, c1_10, c1_11]) rfl ⟨rfl, HU4.out⟩

set_option maxHeartbeats 2000000 in
set_option maxRecDepth 100000 in
theorem pfrompair_any (a0 a1 a2 a3 a4 a5 a6 a7 a8 a9 a10 a11 : Int) (w : World)  : Calls Try.prog 11 #[.agg #[.int .i64 a0, .int .i64 a1, .int .i64 a2, .int .i64 a3, .int .i64 a4, .int .i64 a5, .int .i64 a6, .int .i64 a7, .int .i64 a8, .int .i64 a9, .int .i64 a10, .int .i64 a11]] w fun e' w' => e' = .returned (.agg #[.int .i64 a0, .int .i64 a1, .int .i64 a2, .int .i64 a3, .int .i64 a4, .int .i64 a5, .int .i64 a6, .int .i64 a7, .int .i64 a8, .int .i64 a9, .int .i64 a10, .int .i64 a11]) ∧ Below w.heap.size w w' := by
  go_enter Try.func11, Try.ntmps11
  go_upto_region 1 with fail
  have hR := Au.rows2 w (.cells #[.int .i64 a0, .int .i64 a1, .int .i64 a2, .int .i64 a3, .int .i64 a4, .int .i64 a5, .int .i64 a6, .int .i64 a7, .int .i64 a8, .int .i64 a9, .int .i64 a10, .int .i64 a11] 43) (.cells #[.int .i64 0, .int .i64 0, .int .i64 0, .int .i64 0, .int .i64 0, .int .i64 0, .int .i64 0, .int .i64 0, .int .i64 0, .int .i64 0, .int .i64 0, .int .i64 0] 51)
  have HUx := below_n2 w (.cells #[.int .i64 a0, .int .i64 a1, .int .i64 a2, .int .i64 a3, .int .i64 a4, .int .i64 a5, .int .i64 a6, .int .i64 a7, .int .i64 a8, .int .i64 a9, .int .i64 a10, .int .i64 a11] 43) (.cells #[.int .i64 0, .int .i64 0, .int .i64 0, .int .i64 0, .int .i64 0, .int .i64 0, .int .i64 0, .int .i64 0, .int .i64 0, .int .i64 0, .int .i64 0, .int .i64 0] 51)
  obtain ⟨y0, hy0⟩ : ∃ y0, (w.alloc (.cells #[.int .i64 a0, .int .i64 a1, .int .i64 a2, .int .i64 a3, .int .i64 a4, .int .i64 a5, .int .i64 a6, .int .i64 a7, .int .i64 a8, .int .i64 a9, .int .i64 a10, .int .i64 a11] 43)).alloc (.cells #[.int .i64 0, .int .i64 0, .int .i64 0, .int .i64 0, .int .i64 0, .int .i64 0, .int .i64 0, .int .i64 0, .int .i64 0, .int .i64 0, .int .i64 0, .int .i64 0] 51) = y0 := ⟨_, rfl⟩
  rw [hy0] at hR HUx ⊢
  clear hy0
  have HU0 := Lib.hid HUx
  clear HUx
  obtain ⟨hr0_0, hr0_1⟩ := hR
  refine wp_region_held_drew (S := fun y => y.heap[w.heap.size]? = some (.cells #[.int .i64 a0, .int .i64 a1, .int .i64 a2, .int .i64 a3, .int .i64 a4, .int .i64 a5, .int .i64 a6, .int .i64 a7, .int .i64 a8, .int .i64 a9, .int .i64 a10, .int .i64 a11] 43 (0, 0))) (by kernel_rfl) (hr0_0) (fun hS0 => ?_)
  obtain ⟨y1, hy1⟩ : ∃ y, y0.drew = y := ⟨_, rfl⟩
  have HU1 := Lib.hid (show Below w.heap.size w y1 by rw [← hy1]; exact HU0.out.drew)
  have hr1_0 : y1.heap[w.heap.size]? = some (.cells #[.int .i64 a0, .int .i64 a1, .int .i64 a2, .int .i64 a3, .int .i64 a4, .int .i64 a5, .int .i64 a6, .int .i64 a7, .int .i64 a8, .int .i64 a9, .int .i64 a10, .int .i64 a11] 43 (0, 0)) := by rw [← hy1]; exact hr0_0
  have hr1_1 : y1.heap[w.heap.size + 1]? = some (.cells #[.int .i64 0, .int .i64 0, .int .i64 0, .int .i64 0, .int .i64 0, .int .i64 0, .int .i64 0, .int .i64 0, .int .i64 0, .int .i64 0, .int .i64 0, .int .i64 0] 51 (0, 0)) := by rw [← hy1]; exact hr0_1
  rw [hy1] at hS0 ⊢
  clear hy1
  refine wpAnyH_take (i := 0) (v := ?_) rfl (by kernel_rfl) (by kernel_rfl) (by kernel_rfl) (fun _ _ _ h => h) (Or.inl ⟨by kernel_rfl, by (intro wz hSz; go_simp; try with_reducible rfl)⟩) hS0 ?_
  go_simp
  refine wpAnyH_take (i := 1) (v := ?_) rfl (by kernel_rfl) (by kernel_rfl) (by kernel_rfl) (fun _ _ _ h => h) (Or.inl ⟨by kernel_rfl, by (intro wz hSz; have c0_0 := cell_of_row _ _ 0 _ _ _ hSz; have c0_1 := cell_of_row _ _ 1 _ _ _ hSz; have c0_2 := cell_of_row _ _ 2 _ _ _ hSz; have c0_3 := cell_of_row _ _ 3 _ _ _ hSz; have c0_4 := cell_of_row _ _ 4 _ _ _ hSz; have c0_5 := cell_of_row _ _ 5 _ _ _ hSz; have c0_6 := cell_of_row _ _ 6 _ _ _ hSz; have c0_7 := cell_of_row _ _ 7 _ _ _ hSz; have c0_8 := cell_of_row _ _ 8 _ _ _ hSz; have c0_9 := cell_of_row _ _ 9 _ _ _ hSz; have c0_10 := cell_of_row _ _ 10 _ _ _ hSz; have c0_11 := cell_of_row _ _ 11 _ _ _ hSz; simp at c0_0 c0_1 c0_2 c0_3 c0_4 c0_5 c0_6 c0_7 c0_8 c0_9 c0_10 c0_11; go_simp; try with_reducible rfl)⟩) hS0 ?_
  go_simp
  refine wpAnyH_take (i := 3) (v := ?_) rfl (by kernel_rfl) (by kernel_rfl) (by kernel_rfl) (fun _ _ _ h => h) (Or.inl ⟨by kernel_rfl, by (intro wz hSz; go_simp; try with_reducible rfl)⟩) hS0 ?_
  go_simp
  refine wpAnyH_take (i := 4) (v := ?_) rfl (by kernel_rfl) (by kernel_rfl) (by kernel_rfl) (fun _ _ _ h => h) (Or.inl ⟨by kernel_rfl, by (intro wz hSz; have c0_0 := cell_of_row _ _ 0 _ _ _ hSz; have c0_1 := cell_of_row _ _ 1 _ _ _ hSz; have c0_2 := cell_of_row _ _ 2 _ _ _ hSz; have c0_3 := cell_of_row _ _ 3 _ _ _ hSz; have c0_4 := cell_of_row _ _ 4 _ _ _ hSz; have c0_5 := cell_of_row _ _ 5 _ _ _ hSz; have c0_6 := cell_of_row _ _ 6 _ _ _ hSz; have c0_7 := cell_of_row _ _ 7 _ _ _ hSz; have c0_8 := cell_of_row _ _ 8 _ _ _ hSz; have c0_9 := cell_of_row _ _ 9 _ _ _ hSz; have c0_10 := cell_of_row _ _ 10 _ _ _ hSz; have c0_11 := cell_of_row _ _ 11 _ _ _ hSz; simp at c0_0 c0_1 c0_2 c0_3 c0_4 c0_5 c0_6 c0_7 c0_8 c0_9 c0_10 c0_11; go_simp; try with_reducible rfl)⟩) hS0 ?_
  go_simp
  refine wpAnyH_ready (rs := [2]) (by kernel_rfl) (by simp) ?_
  refine AllReadyH.cons rfl (fun K hK => ?_) AllReadyH.nil
  go_simp
  go_wp2_with (go_at_call 17; refine (bfrom_any _ _ _ _ _ _ _).mono ?_; rintro e y2 ⟨rfl, hb2⟩)
  have hr2_0 := (hb2.block _ (lt_heap hr1_0)).trans hr1_0
  have hr2_1 := (hb2.block _ (lt_heap hr1_1)).trans hr1_1
  have HU2 := Lib.hid (HU1.out.trans (hb2.mono HU1.out.size))
  refine hK.out _ _ ((hb2.block _ (lt_heap hS0)).trans hS0) (fun hS2c => ?_)
  clear hK K
  refine wpAnyH_ready (rs := [5]) (by kernel_rfl) (by simp) ?_
  refine AllReadyH.cons rfl (fun K hK => ?_) AllReadyH.nil
  go_simp
  go_wp2_with (go_at_call 17; refine (bfrom_any _ _ _ _ _ _ _).mono ?_; rintro e y3 ⟨rfl, hb3⟩)
  have hr3_0 := (hb3.block _ (lt_heap hr2_0)).trans hr2_0
  have hr3_1 := (hb3.block _ (lt_heap hr2_1)).trans hr2_1
  have HU3 := Lib.hid (HU2.out.trans (hb3.mono HU2.out.size))
  refine hK.out _ _ ((hb3.block _ (lt_heap hS2c)).trans hS2c) (fun hS3c => ?_)
  clear hK K
  refine wpAnyH_take (i := 6) (v := ?_) rfl (by kernel_rfl) (by kernel_rfl) (by kernel_rfl) (fun _ _ _ h => h) (Or.inl ⟨by kernel_rfl, by (intro wz hSz; go_simp; try with_reducible rfl)⟩) hS3c ?_
  go_simp
  refine wpAnyH_ready (rs := [7]) (by kernel_rfl) (by simp) ?_
  refine AllReadyH.cons rfl (fun K hK => ?_) AllReadyH.nil
  refine step_store_row rfl 51 (.tmp 2) (.tmp 9) rfl #[.int .i64 0, .int .i64 0, .int .i64 0, .int .i64 0, .int .i64 0, .int .i64 0, .int .i64 0, .int .i64 0, .int .i64 0, .int .i64 0, .int .i64 0, .int .i64 0] #[.int .i64 a0, .int .i64 a1, .int .i64 a2, .int .i64 a3, .int .i64 a4, .int .i64 a5, .int .i64 a6, .int .i64 a7, .int .i64 a8, .int .i64 a9, .int .i64 a10, .int .i64 a11] _ 51 hr3_1 rfl (by first | rfl | (go_simp; done) | (go_simp; rfl)) (by kernel_rfl) rfl (by simp [Value.oneCell']) ?_
  have hN := setRow_heap _ (w.heap.size + 1) _ #[.int .i64 a0, .int .i64 a1, .int .i64 a2, .int .i64 a3, .int .i64 a4, .int .i64 a5, .int .i64 a6, .int .i64 a7, .int .i64 a8, .int .i64 a9, .int .i64 a10, .int .i64 a11] _ _ hr3_1
  have hsz := HU3.out.size
  have HUx := below_setRow (g := w.heap.size + 1) HU3.out (by first | omega | (simp at *; omega)) #[.int .i64 a0, .int .i64 a1, .int .i64 a2, .int .i64 a3, .int .i64 a4, .int .i64 a5, .int .i64 a6, .int .i64 a7, .int .i64 a8, .int .i64 a9, .int .i64 a10, .int .i64 a11]
  obtain ⟨y4, hy4⟩ : ∃ y, y3.setRow (w.heap.size + 1) #[.int .i64 a0, .int .i64 a1, .int .i64 a2, .int .i64 a3, .int .i64 a4, .int .i64 a5, .int .i64 a6, .int .i64 a7, .int .i64 a8, .int .i64 a9, .int .i64 a10, .int .i64 a11] = y := ⟨_, rfl⟩
  have hO : ∀ k, k ≠ w.heap.size + 1 → y4.heap[k]? = y3.heap[k]? := fun k hk => by rw [← hy4]; exact setRow_other _ _ _ _ hk
  rw [hy4] at hN HUx ⊢
  clear hy4
  have HU4 := Lib.hid HUx
  clear HUx
  have hr4_0 := (hO _ (by omega)).trans hr3_0
  have hr4_1 := hN
  clear hN
  refine hK.out _ _ ((hO _ (by omega)).trans hS3c) (fun hS4s => ?_)
  clear hK K
  refine wpAnyH_done (by kernel_rfl) ?_ _
  have c1_0 := cell_of_row _ _ 0 _ _ _ hr4_1
  have c1_1 := cell_of_row _ _ 1 _ _ _ hr4_1
  have c1_2 := cell_of_row _ _ 2 _ _ _ hr4_1
  have c1_3 := cell_of_row _ _ 3 _ _ _ hr4_1
  have c1_4 := cell_of_row _ _ 4 _ _ _ hr4_1
  have c1_5 := cell_of_row _ _ 5 _ _ _ hr4_1
  have c1_6 := cell_of_row _ _ 6 _ _ _ hr4_1
  have c1_7 := cell_of_row _ _ 7 _ _ _ hr4_1
  have c1_8 := cell_of_row _ _ 8 _ _ _ hr4_1
  have c1_9 := cell_of_row _ _ 9 _ _ _ hr4_1
  have c1_10 := cell_of_row _ _ 10 _ _ _ hr4_1
  have c1_11 := cell_of_row _ _ 11 _ _ _ hr4_1
  simp at c1_0 c1_1 c1_2 c1_3 c1_4 c1_5 c1_6 c1_7 c1_8 c1_9 c1_10 c1_11
  go_wp2
  exact bodyPost_ret (v := .agg #[.int .i64 a0, .int .i64 a1, .int .i64 a2, .int .i64 a3, .int .i64 a4, .int .i64 a5, .int .i64 a6, .int .i64 a7, .int .i64 a8, .int .i64 a9, .int .i64 a10, .int .i64 a11]) (by simp [results, Try.results11, go_sem, c1_0, c1_1, c1_2, c1_3, c1_4, c1_5, c1_6, c1_7, c1_8, c1_9, c1_10, c1_11]) rfl ⟨rfl, HU4.out⟩

/-- half of a box's surface -/
def skin6 (a b c d e f : Int) : Int := Pl.add (Pl.add (Pl.mul (Pl.sub d a) (Pl.sub e b)) (Pl.mul (Pl.sub e b) (Pl.sub f c))) (Pl.mul (Pl.sub f c) (Pl.sub d a))

theorem add_zero_mul (x y : Int) : Pl.add 0 (Pl.mul x y) = Pl.mul x y := by
  have h1 : -2147483648 ≤ Pl.mul x y := Pl.held_lo _
  have h2 : Pl.mul x y ≤ 2147483648 := Pl.held_hi _
  unfold Pl.add
  rw [Pl.held_in (n := Pl.mul x y) h1 h2, Pl.held_in (n := 0) (by omega) (by omega), Int.zero_add, Pl.held_in h1 h2]

set_option maxHeartbeats 2000000 in
set_option maxRecDepth 100000 in
theorem rskin_any (a b c d e f : Int) (w : World)  : Calls Try.prog 35 #[B6 a b c d e f] w fun e' w' => e' = .returned (.int .i64 (skin6 a b c d e f)) ∧ Below w.heap.size w w' := by
  go_enter Try.func35, Try.ntmps35
  go_upto_region 1 with fail
  have hR := Au.rows1 w (.cells #[.int .i64 a, .int .i64 b, .int .i64 c, .int .i64 d, .int .i64 e, .int .i64 f] 49)
  have HUx := below_n1 w (.cells #[.int .i64 a, .int .i64 b, .int .i64 c, .int .i64 d, .int .i64 e, .int .i64 f] 49)
  obtain ⟨y0, hy0⟩ : ∃ y0, w.alloc (.cells #[.int .i64 a, .int .i64 b, .int .i64 c, .int .i64 d, .int .i64 e, .int .i64 f] 49) = y0 := ⟨_, rfl⟩
  rw [hy0] at hR HUx ⊢
  clear hy0
  have HU0 := Lib.hid HUx
  clear HUx
  have hr0_0 := hR
  clear hR
  have c0_0 := cell_of_row _ _ 0 _ _ _ hr0_0
  have c0_1 := cell_of_row _ _ 1 _ _ _ hr0_0
  have c0_2 := cell_of_row _ _ 2 _ _ _ hr0_0
  have c0_3 := cell_of_row _ _ 3 _ _ _ hr0_0
  have c0_4 := cell_of_row _ _ 4 _ _ _ hr0_0
  have c0_5 := cell_of_row _ _ 5 _ _ _ hr0_0
  simp at c0_0 c0_1 c0_2 c0_3 c0_4 c0_5
  go_wp2_with fail
  refine (rsub_any _ _ _ _ _ _ _).mono ?_
  rintro e y1 ⟨rfl, hb1⟩
  clear c0_0 c0_1 c0_2 c0_3 c0_4 c0_5
  have hr1_0 := (hb1.block _ (lt_heap hr0_0)).trans hr0_0
  have HU1 := Lib.hid (HU0.out.trans (hb1.mono HU0.out.size))
  clear hr0_0 HU0
  go_wp2_with fail
  have hb2 := below_n1 y1 (.cells #[.int .i64 (Pl.sub d a), .int .i64 (Pl.sub e b), .int .i64 (Pl.sub f c)] 47)
  have hN := heap_alloc_last y1 (.cells #[.int .i64 (Pl.sub d a), .int .i64 (Pl.sub e b), .int .i64 (Pl.sub f c)] 47)
  obtain ⟨y2, hy2⟩ : ∃ y, y1.alloc (.cells #[.int .i64 (Pl.sub d a), .int .i64 (Pl.sub e b), .int .i64 (Pl.sub f c)] 47) = y := ⟨_, rfl⟩
  have hs2 : y2.heap.size = y1.heap.size + 1 := by rw [← hy2]; simp
  rw [hy2] at hb2 hN ⊢
  clear hy2
  have hl2_0 := lt_heap hr1_0
  have hr2_0 := (hb2.block _ (lt_heap hr1_0)).trans hr1_0
  have HU2 := Lib.hid (HU1.out.trans (hb2.mono HU1.out.size))
  clear hr1_0 HU1
  have hr2_1 := hN
  clear hN
  refine wp_region_held_drew (S := fun y => y.heap[y1.heap.size]? = some (.cells #[.int .i64 (Pl.sub d a), .int .i64 (Pl.sub e b), .int .i64 (Pl.sub f c)] 47 (0, 0))) (by kernel_rfl) (hr2_1) (fun hS0 => ?_)
  obtain ⟨y3, hy3⟩ : ∃ y, y2.drew = y := ⟨_, rfl⟩
  have HU3 := Lib.hid (show Below w.heap.size w y3 by rw [← hy3]; exact HU2.out.drew)
  have hr3_0 : y3.heap[w.heap.size]? = some (.cells #[.int .i64 a, .int .i64 b, .int .i64 c, .int .i64 d, .int .i64 e, .int .i64 f] 49 (0, 0)) := by rw [← hy3]; exact hr2_0
  have hr3_1 : y3.heap[y1.heap.size]? = some (.cells #[.int .i64 (Pl.sub d a), .int .i64 (Pl.sub e b), .int .i64 (Pl.sub f c)] 47 (0, 0)) := by rw [← hy3]; exact hr2_1
  rw [hy3] at hS0 ⊢
  clear hy3
  refine wpAnyH_take (i := 0) (v := ?_) rfl (by kernel_rfl) (by kernel_rfl) (by kernel_rfl) (fun _ _ _ h => h) (Or.inl ⟨by kernel_rfl, by (intro wz hSz; go_simp; try with_reducible rfl)⟩) hS0 ?_
  go_simp
  refine wpAnyH_take (i := 1) (v := ?_) rfl (by kernel_rfl) (by kernel_rfl) (by kernel_rfl) (fun _ _ _ h => h) (Or.inl ⟨by kernel_rfl, by (intro wz hSz; have c1_0 := cell_of_row _ _ 0 _ _ _ hSz; have c1_1 := cell_of_row _ _ 1 _ _ _ hSz; have c1_2 := cell_of_row _ _ 2 _ _ _ hSz; simp at c1_0 c1_1 c1_2; go_simp; try with_reducible rfl)⟩) hS0 ?_
  go_simp
  refine wpAnyH_take (i := 2) (v := ?_) rfl (by kernel_rfl) (by kernel_rfl) (by kernel_rfl) (fun _ _ _ h => h) (Or.inl ⟨by kernel_rfl, by (intro wz hSz; go_simp; try with_reducible rfl)⟩) hS0 ?_
  go_simp
  refine wpAnyH_take (i := 3) (v := ?_) rfl (by kernel_rfl) (by kernel_rfl) (by kernel_rfl) (fun _ _ _ h => h) (Or.inl ⟨by kernel_rfl, by (intro wz hSz; have c1_0 := cell_of_row _ _ 0 _ _ _ hSz; have c1_1 := cell_of_row _ _ 1 _ _ _ hSz; have c1_2 := cell_of_row _ _ 2 _ _ _ hSz; simp at c1_0 c1_1 c1_2; go_simp; try with_reducible rfl)⟩) hS0 ?_
  go_simp
  refine wpAnyH_take (i := 5) (v := ?_) rfl (by kernel_rfl) (by kernel_rfl) (by kernel_rfl) (fun _ _ _ h => h) (Or.inl ⟨by kernel_rfl, by (intro wz hSz; go_simp; try with_reducible rfl)⟩) hS0 ?_
  go_simp
  refine wpAnyH_take (i := 6) (v := ?_) rfl (by kernel_rfl) (by kernel_rfl) (by kernel_rfl) (fun _ _ _ h => h) (Or.inl ⟨by kernel_rfl, by (intro wz hSz; have c1_0 := cell_of_row _ _ 0 _ _ _ hSz; have c1_1 := cell_of_row _ _ 1 _ _ _ hSz; have c1_2 := cell_of_row _ _ 2 _ _ _ hSz; simp at c1_0 c1_1 c1_2; go_simp; try with_reducible rfl)⟩) hS0 ?_
  go_simp
  refine wpAnyH_take (i := 7) (v := ?_) rfl (by kernel_rfl) (by kernel_rfl) (by kernel_rfl) (fun _ _ _ h => h) (Or.inl ⟨by kernel_rfl, by (intro wz hSz; go_simp; try with_reducible rfl)⟩) hS0 ?_
  go_simp
  refine wpAnyH_take (i := 8) (v := ?_) rfl (by kernel_rfl) (by kernel_rfl) (by kernel_rfl) (fun _ _ _ h => h) (Or.inl ⟨by kernel_rfl, by (intro wz hSz; have c1_0 := cell_of_row _ _ 0 _ _ _ hSz; have c1_1 := cell_of_row _ _ 1 _ _ _ hSz; have c1_2 := cell_of_row _ _ 2 _ _ _ hSz; simp at c1_0 c1_1 c1_2; go_simp; try with_reducible rfl)⟩) hS0 ?_
  go_simp
  refine wpAnyH_take (i := 11) (v := ?_) rfl (by kernel_rfl) (by kernel_rfl) (by kernel_rfl) (fun _ _ _ h => h) (Or.inl ⟨by kernel_rfl, by (intro wz hSz; go_simp; try with_reducible rfl)⟩) hS0 ?_
  go_simp
  refine wpAnyH_take (i := 12) (v := ?_) rfl (by kernel_rfl) (by kernel_rfl) (by kernel_rfl) (fun _ _ _ h => h) (Or.inl ⟨by kernel_rfl, by (intro wz hSz; have c1_0 := cell_of_row _ _ 0 _ _ _ hSz; have c1_1 := cell_of_row _ _ 1 _ _ _ hSz; have c1_2 := cell_of_row _ _ 2 _ _ _ hSz; simp at c1_0 c1_1 c1_2; go_simp; try with_reducible rfl)⟩) hS0 ?_
  go_simp
  refine wpAnyH_take (i := 13) (v := ?_) rfl (by kernel_rfl) (by kernel_rfl) (by kernel_rfl) (fun _ _ _ h => h) (Or.inl ⟨by kernel_rfl, by (intro wz hSz; go_simp; try with_reducible rfl)⟩) hS0 ?_
  go_simp
  refine wpAnyH_take (i := 14) (v := ?_) rfl (by kernel_rfl) (by kernel_rfl) (by kernel_rfl) (fun _ _ _ h => h) (Or.inl ⟨by kernel_rfl, by (intro wz hSz; have c1_0 := cell_of_row _ _ 0 _ _ _ hSz; have c1_1 := cell_of_row _ _ 1 _ _ _ hSz; have c1_2 := cell_of_row _ _ 2 _ _ _ hSz; simp at c1_0 c1_1 c1_2; go_simp; try with_reducible rfl)⟩) hS0 ?_
  go_simp
  refine wpAnyH_ready (rs := [4]) (by kernel_rfl) (by simp) ?_
  refine AllReadyH.cons rfl (fun K hK => ?_) AllReadyH.nil
  go_simp
  go_wp2_with (go_at_call 56; refine (refMul_any _ _ _).mono ?_; rintro e ww ⟨rfl, rfl⟩)
  refine hK.out _ _ (hS0) (fun hS3q4 => ?_)
  clear hK K
  refine wpAnyH_ready (rs := [9]) (by kernel_rfl) (by simp) ?_
  refine AllReadyH.cons rfl (fun K hK => ?_) AllReadyH.nil
  go_simp
  go_wp2_with (go_at_call 56; refine (refMul_any _ _ _).mono ?_; rintro e ww ⟨rfl, rfl⟩)
  refine hK.out _ _ (hS3q4) (fun hS3q9 => ?_)
  clear hK K
  refine wpAnyH_ready (rs := [10]) (by kernel_rfl) (by simp) ?_
  refine AllReadyH.cons rfl (fun K hK => ?_) AllReadyH.nil
  go_simp
  go_wp2_with (go_at_call 58; refine (refAdd_any _ _ _).mono ?_; rintro e ww ⟨rfl, rfl⟩)
  refine hK.out _ _ (hS3q9) (fun hS3q10 => ?_)
  clear hK K
  refine wpAnyH_ready (rs := [15]) (by kernel_rfl) (by simp) ?_
  refine AllReadyH.cons rfl (fun K hK => ?_) AllReadyH.nil
  go_simp
  go_wp2_with (go_at_call 56; refine (refMul_any _ _ _).mono ?_; rintro e ww ⟨rfl, rfl⟩)
  refine hK.out _ _ (hS3q10) (fun hS3q15 => ?_)
  clear hK K
  refine wpAnyH_ready (rs := [16]) (by kernel_rfl) (by simp) ?_
  refine AllReadyH.cons rfl (fun K hK => ?_) AllReadyH.nil
  go_simp
  go_wp2_with (go_at_call 58; refine (refAdd_any _ _ _).mono ?_; rintro e ww ⟨rfl, rfl⟩)
  refine hK.out _ _ (hS3q15) (fun hS3q16 => ?_)
  clear hK K
  refine wpAnyH_take (i := 17) (v := ?_) rfl (by kernel_rfl) (by kernel_rfl) (by kernel_rfl) (fun _ _ _ h => h) (Or.inl ⟨by kernel_rfl, by (intro wz hSz; go_simp; try with_reducible rfl)⟩) hS3q16 ?_
  go_simp
  refine wpAnyH_done (by kernel_rfl) ?_ _
  go_wp2
  go_ret
  exact ⟨rfl, HU3.out⟩

set_option maxHeartbeats 2000000 in
set_option maxRecDepth 100000 in
theorem bskin_any (a b c d e f : Int) (w : World)  : Calls Try.prog 49 #[B6 a b c d e f] w fun e' w' => e' = .returned (.int .i64 (skin6 a b c d e f)) ∧ Below w.heap.size w w' := by
  go_enter Try.func49, Try.ntmps49
  go_upto_region 1 with fail
  have hR := Au.rows1 w (.cells #[.int .i64 a, .int .i64 b, .int .i64 c, .int .i64 d, .int .i64 e, .int .i64 f] 41)
  have HUx := below_n1 w (.cells #[.int .i64 a, .int .i64 b, .int .i64 c, .int .i64 d, .int .i64 e, .int .i64 f] 41)
  obtain ⟨y0, hy0⟩ : ∃ y0, w.alloc (.cells #[.int .i64 a, .int .i64 b, .int .i64 c, .int .i64 d, .int .i64 e, .int .i64 f] 41) = y0 := ⟨_, rfl⟩
  rw [hy0] at hR HUx ⊢
  clear hy0
  have HU0 := Lib.hid HUx
  clear HUx
  have hr0_0 := hR
  clear hR
  have c0_0 := cell_of_row _ _ 0 _ _ _ hr0_0
  have c0_1 := cell_of_row _ _ 1 _ _ _ hr0_0
  have c0_2 := cell_of_row _ _ 2 _ _ _ hr0_0
  have c0_3 := cell_of_row _ _ 3 _ _ _ hr0_0
  have c0_4 := cell_of_row _ _ 4 _ _ _ hr0_0
  have c0_5 := cell_of_row _ _ 5 _ _ _ hr0_0
  simp at c0_0 c0_1 c0_2 c0_3 c0_4 c0_5
  go_wp2_with fail
  refine (bsize_any _ _ _ _ _ _ _).mono ?_
  rintro e y1 ⟨rfl, hb1⟩
  clear c0_0 c0_1 c0_2 c0_3 c0_4 c0_5
  have hr1_0 := (hb1.block _ (lt_heap hr0_0)).trans hr0_0
  have HU1 := Lib.hid (HU0.out.trans (hb1.mono HU0.out.size))
  clear hr0_0 HU0
  go_wp2_with fail
  have hb2 := below_n1 y1 (.cells #[.int .i64 (Pl.sub d a), .int .i64 (Pl.sub e b), .int .i64 (Pl.sub f c)] 39)
  have hN := heap_alloc_last y1 (.cells #[.int .i64 (Pl.sub d a), .int .i64 (Pl.sub e b), .int .i64 (Pl.sub f c)] 39)
  obtain ⟨y2, hy2⟩ : ∃ y, y1.alloc (.cells #[.int .i64 (Pl.sub d a), .int .i64 (Pl.sub e b), .int .i64 (Pl.sub f c)] 39) = y := ⟨_, rfl⟩
  have hs2 : y2.heap.size = y1.heap.size + 1 := by rw [← hy2]; simp
  rw [hy2] at hb2 hN ⊢
  clear hy2
  have hl2_0 := lt_heap hr1_0
  have hr2_0 := (hb2.block _ (lt_heap hr1_0)).trans hr1_0
  have HU2 := Lib.hid (HU1.out.trans (hb2.mono HU1.out.size))
  clear hr1_0 HU1
  have hr2_1 := hN
  clear hN
  refine wp_region_held_drew (S := fun y => y.heap[y1.heap.size]? = some (.cells #[.int .i64 (Pl.sub d a), .int .i64 (Pl.sub e b), .int .i64 (Pl.sub f c)] 39 (0, 0))) (by kernel_rfl) (hr2_1) (fun hS0 => ?_)
  obtain ⟨y3, hy3⟩ : ∃ y, y2.drew = y := ⟨_, rfl⟩
  have HU3 := Lib.hid (show Below w.heap.size w y3 by rw [← hy3]; exact HU2.out.drew)
  have hr3_0 : y3.heap[w.heap.size]? = some (.cells #[.int .i64 a, .int .i64 b, .int .i64 c, .int .i64 d, .int .i64 e, .int .i64 f] 41 (0, 0)) := by rw [← hy3]; exact hr2_0
  have hr3_1 : y3.heap[y1.heap.size]? = some (.cells #[.int .i64 (Pl.sub d a), .int .i64 (Pl.sub e b), .int .i64 (Pl.sub f c)] 39 (0, 0)) := by rw [← hy3]; exact hr2_1
  rw [hy3] at hS0 ⊢
  clear hy3
  refine wpAnyH_take (i := 0) (v := ?_) rfl (by kernel_rfl) (by kernel_rfl) (by kernel_rfl) (fun _ _ _ h => h) (Or.inl ⟨by kernel_rfl, by (intro wz hSz; go_simp; try with_reducible rfl)⟩) hS0 ?_
  go_simp
  refine wpAnyH_take (i := 1) (v := ?_) rfl (by kernel_rfl) (by kernel_rfl) (by kernel_rfl) (fun _ _ _ h => h) (Or.inl ⟨by kernel_rfl, by (intro wz hSz; have c1_0 := cell_of_row _ _ 0 _ _ _ hSz; have c1_1 := cell_of_row _ _ 1 _ _ _ hSz; have c1_2 := cell_of_row _ _ 2 _ _ _ hSz; simp at c1_0 c1_1 c1_2; go_simp; try with_reducible rfl)⟩) hS0 ?_
  go_simp
  refine wpAnyH_take (i := 2) (v := ?_) rfl (by kernel_rfl) (by kernel_rfl) (by kernel_rfl) (fun _ _ _ h => h) (Or.inl ⟨by kernel_rfl, by (intro wz hSz; go_simp; try with_reducible rfl)⟩) hS0 ?_
  go_simp
  refine wpAnyH_take (i := 3) (v := ?_) rfl (by kernel_rfl) (by kernel_rfl) (by kernel_rfl) (fun _ _ _ h => h) (Or.inl ⟨by kernel_rfl, by (intro wz hSz; have c1_0 := cell_of_row _ _ 0 _ _ _ hSz; have c1_1 := cell_of_row _ _ 1 _ _ _ hSz; have c1_2 := cell_of_row _ _ 2 _ _ _ hSz; simp at c1_0 c1_1 c1_2; go_simp; try with_reducible rfl)⟩) hS0 ?_
  go_simp
  refine wpAnyH_take (i := 5) (v := ?_) rfl (by kernel_rfl) (by kernel_rfl) (by kernel_rfl) (fun _ _ _ h => h) (Or.inl ⟨by kernel_rfl, by (intro wz hSz; go_simp; try with_reducible rfl)⟩) hS0 ?_
  go_simp
  refine wpAnyH_take (i := 6) (v := ?_) rfl (by kernel_rfl) (by kernel_rfl) (by kernel_rfl) (fun _ _ _ h => h) (Or.inl ⟨by kernel_rfl, by (intro wz hSz; have c1_0 := cell_of_row _ _ 0 _ _ _ hSz; have c1_1 := cell_of_row _ _ 1 _ _ _ hSz; have c1_2 := cell_of_row _ _ 2 _ _ _ hSz; simp at c1_0 c1_1 c1_2; go_simp; try with_reducible rfl)⟩) hS0 ?_
  go_simp
  refine wpAnyH_take (i := 7) (v := ?_) rfl (by kernel_rfl) (by kernel_rfl) (by kernel_rfl) (fun _ _ _ h => h) (Or.inl ⟨by kernel_rfl, by (intro wz hSz; go_simp; try with_reducible rfl)⟩) hS0 ?_
  go_simp
  refine wpAnyH_take (i := 8) (v := ?_) rfl (by kernel_rfl) (by kernel_rfl) (by kernel_rfl) (fun _ _ _ h => h) (Or.inl ⟨by kernel_rfl, by (intro wz hSz; have c1_0 := cell_of_row _ _ 0 _ _ _ hSz; have c1_1 := cell_of_row _ _ 1 _ _ _ hSz; have c1_2 := cell_of_row _ _ 2 _ _ _ hSz; simp at c1_0 c1_1 c1_2; go_simp; try with_reducible rfl)⟩) hS0 ?_
  go_simp
  refine wpAnyH_take (i := 10) (v := ?_) rfl (by kernel_rfl) (by kernel_rfl) (by kernel_rfl) (fun _ _ _ h => h) (Or.inl ⟨by kernel_rfl, by (intro wz hSz; go_simp; try with_reducible rfl)⟩) hS0 ?_
  go_simp
  refine wpAnyH_take (i := 11) (v := ?_) rfl (by kernel_rfl) (by kernel_rfl) (by kernel_rfl) (fun _ _ _ h => h) (Or.inl ⟨by kernel_rfl, by (intro wz hSz; have c1_0 := cell_of_row _ _ 0 _ _ _ hSz; have c1_1 := cell_of_row _ _ 1 _ _ _ hSz; have c1_2 := cell_of_row _ _ 2 _ _ _ hSz; simp at c1_0 c1_1 c1_2; go_simp; try with_reducible rfl)⟩) hS0 ?_
  go_simp
  refine wpAnyH_take (i := 12) (v := ?_) rfl (by kernel_rfl) (by kernel_rfl) (by kernel_rfl) (fun _ _ _ h => h) (Or.inl ⟨by kernel_rfl, by (intro wz hSz; go_simp; try with_reducible rfl)⟩) hS0 ?_
  go_simp
  refine wpAnyH_take (i := 13) (v := ?_) rfl (by kernel_rfl) (by kernel_rfl) (by kernel_rfl) (fun _ _ _ h => h) (Or.inl ⟨by kernel_rfl, by (intro wz hSz; have c1_0 := cell_of_row _ _ 0 _ _ _ hSz; have c1_1 := cell_of_row _ _ 1 _ _ _ hSz; have c1_2 := cell_of_row _ _ 2 _ _ _ hSz; simp at c1_0 c1_1 c1_2; go_simp; try with_reducible rfl)⟩) hS0 ?_
  go_simp
  refine wpAnyH_ready (rs := [4]) (by kernel_rfl) (by simp) ?_
  refine AllReadyH.cons rfl (fun K hK => ?_) AllReadyH.nil
  go_simp
  go_wp2_with (go_at_call 47; refine (mul_any _ _ _).mono ?_; rintro e ww ⟨rfl, rfl⟩)
  refine hK.out _ _ (hS0) (fun hS3q4 => ?_)
  clear hK K
  refine wpAnyH_ready (rs := [9]) (by kernel_rfl) (by simp) ?_
  refine AllReadyH.cons rfl (fun K hK => ?_) AllReadyH.nil
  go_simp
  go_wp2_with (go_at_call 47; refine (mul_any _ _ _).mono ?_; rintro e ww ⟨rfl, rfl⟩)
  refine hK.out _ _ (hS3q4) (fun hS3q9 => ?_)
  clear hK K
  refine wpAnyH_ready (rs := [14]) (by kernel_rfl) (by simp) ?_
  refine AllReadyH.cons rfl (fun K hK => ?_) AllReadyH.nil
  go_simp
  go_wp2_with (go_at_call 47; refine (mul_any _ _ _).mono ?_; rintro e ww ⟨rfl, rfl⟩)
  refine hK.out _ _ (hS3q9) (fun hS3q14 => ?_)
  clear hK K
  refine wpAnyH_ready (rs := [15]) (by kernel_rfl) (by simp) ?_
  refine AllReadyH.cons rfl (fun K hK => ?_) AllReadyH.nil
  go_simp
  have hb4 := below_n1 y3 (.cells #[.int .i64 (Pl.mul (Pl.sub d a) (Pl.sub e b)), .int .i64 (Pl.mul (Pl.sub e b) (Pl.sub f c)), .int .i64 (Pl.mul (Pl.sub f c) (Pl.sub d a))] 37)
  have hN := heap_alloc_last y3 (.cells #[.int .i64 (Pl.mul (Pl.sub d a) (Pl.sub e b)), .int .i64 (Pl.mul (Pl.sub e b) (Pl.sub f c)), .int .i64 (Pl.mul (Pl.sub f c) (Pl.sub d a))] 37)
  obtain ⟨y4, hy4⟩ : ∃ y, y3.alloc (.cells #[.int .i64 (Pl.mul (Pl.sub d a) (Pl.sub e b)), .int .i64 (Pl.mul (Pl.sub e b) (Pl.sub f c)), .int .i64 (Pl.mul (Pl.sub f c) (Pl.sub d a))] 37) = y := ⟨_, rfl⟩
  rw [hy4] at hb4 hN ⊢
  clear hy4
  have hl4_0 := lt_heap hr3_0
  have hr4_0 := (hb4.block _ (lt_heap hr3_0)).trans hr3_0
  have hl4_1 := lt_heap hr3_1
  have hr4_1 := (hb4.block _ (lt_heap hr3_1)).trans hr3_1
  have hr4_2 := hN
  clear hN
  have HU4 := Lib.hid (HU3.out.trans (hb4.mono HU3.out.size))
  refine hK.out _ _ ((hb4.block _ (lt_heap hS3q14)).trans hS3q14) (fun hS4a => ?_)
  clear hK K
  refine wpAnyH_ready (rs := [16]) (by kernel_rfl) (by simp) ?_
  refine AllReadyH.cons rfl (fun K hK => ?_) AllReadyH.nil
  go_simp
  go_wp2_with (go_at_call 67; refine (Ls.sum_row _ 3 3 [Pl.mul (Pl.sub d a) (Pl.sub e b), Pl.mul (Pl.sub e b) (Pl.sub f c), Pl.mul (Pl.sub f c) (Pl.sub d a)] rfl (by omega) _ (by intro j hj; match j, hj with | 0, _ => exact cell_of_row _ _ 0 _ _ _ hr4_2 | 1, _ => exact cell_of_row _ _ 1 _ _ _ hr4_2 | 2, _ => exact cell_of_row _ _ 2 _ _ _ hr4_2)).mono ?_; rintro e ww ⟨rfl, rfl⟩)
  refine hK.out _ _ (hS4a) (fun hS4q16 => ?_)
  clear hK K
  refine wpAnyH_take (i := 17) (v := ?_) rfl (by kernel_rfl) (by kernel_rfl) (by kernel_rfl) (fun _ _ _ h => h) (Or.inl ⟨by kernel_rfl, by (intro wz hSz; go_simp; try with_reducible rfl)⟩) hS4q16 ?_
  go_simp
  refine wpAnyH_done (by kernel_rfl) ?_ _
  go_wp2
  go_ret
  exact ⟨by simp [Ls.sumL, skin6, add_zero_mul], HU4.out⟩

end Go.Proofs.Ytoppcnkfgmbpfaa.Bx
