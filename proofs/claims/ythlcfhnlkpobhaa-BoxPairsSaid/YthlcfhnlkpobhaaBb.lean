/- Boxes: contracts of the functions in a straight line. -/
import Derived.Test.YthlcfhnlkpobhaaAu
import Derived.Test.YthlcfhnlkpobhaaBa
import Derived.Test.YthlcfhnlkpobhaaVr
import Derived.Test.YthlcfhnlkpobhaaLf
namespace Go.Proofs.Ythlcfhnlkpobhaa.Bx
open Go.RowKit Go.Proofs.Ythlcfhnlkpobhaa Go.Proofs.Ythlcfhnlkpobhaa.Wa Go.Proofs.Ythlcfhnlkpobhaa.Ve Go.Proofs.Ythlcfhnlkpobhaa.Au
set_option linter.unusedVariables false
set_option linter.unusedSimpArgs false

set_option maxHeartbeats 2000000 in
set_option maxRecDepth 100000 in
theorem bto_any (a b c d e f : Int) (w : World)  : Calls Try.prog 64 #[.agg #[.int .i64 a, .int .i64 b, .int .i64 c, .int .i64 d, .int .i64 e, .int .i64 f]] w fun e' w' => e' = .returned (.agg #[.int .i64 a, .int .i64 b, .int .i64 c, .int .i64 d, .int .i64 e, .int .i64 f]) ∧ Below w.heap.size w w' := by
  go_enter Try.func64, Try.ntmps64
  go_upto_region 1 with fail
  have hR := Au.rows2 w (.cells #[.int .i64 a, .int .i64 b, .int .i64 c, .int .i64 d, .int .i64 e, .int .i64 f] 67) (.cells #[.int .i64 0, .int .i64 0, .int .i64 0, .int .i64 0, .int .i64 0, .int .i64 0] 73)
  have HUx := below_n2 w (.cells #[.int .i64 a, .int .i64 b, .int .i64 c, .int .i64 d, .int .i64 e, .int .i64 f] 67) (.cells #[.int .i64 0, .int .i64 0, .int .i64 0, .int .i64 0, .int .i64 0, .int .i64 0] 73)
  obtain ⟨y0, hy0⟩ : ∃ y0, (w.alloc (.cells #[.int .i64 a, .int .i64 b, .int .i64 c, .int .i64 d, .int .i64 e, .int .i64 f] 67)).alloc (.cells #[.int .i64 0, .int .i64 0, .int .i64 0, .int .i64 0, .int .i64 0, .int .i64 0] 73) = y0 := ⟨_, rfl⟩
  rw [hy0] at hR HUx ⊢
  clear hy0
  have HU0 := Lib.hid HUx
  clear HUx
  obtain ⟨hr0_0, hr0_1⟩ := hR
  refine wp_region_held_drew (S := fun y => y.heap[w.heap.size]? = some (.cells #[.int .i64 a, .int .i64 b, .int .i64 c, .int .i64 d, .int .i64 e, .int .i64 f] 67 (0, 0))) (by kernel_rfl) (hr0_0) (fun hS0 => ?_)
  obtain ⟨y1, hy1⟩ : ∃ y, y0.drew = y := ⟨_, rfl⟩
  have HU1 := Lib.hid (show Below w.heap.size w y1 by rw [← hy1]; exact HU0.out.drew)
  have hr1_0 : y1.heap[w.heap.size]? = some (.cells #[.int .i64 a, .int .i64 b, .int .i64 c, .int .i64 d, .int .i64 e, .int .i64 f] 67 (0, 0)) := by rw [← hy1]; exact hr0_0
  have hr1_1 : y1.heap[w.heap.size + 1]? = some (.cells #[.int .i64 0, .int .i64 0, .int .i64 0, .int .i64 0, .int .i64 0, .int .i64 0] 73 (0, 0)) := by rw [← hy1]; exact hr0_1
  rw [hy1] at hS0 ⊢
  clear hy1
  refine wpAnyH_take (i := 0) (v := ?_) rfl (by kernel_rfl) (by kernel_rfl) (by kernel_rfl) (fun _ _ _ h => h) (Or.inl ⟨by kernel_rfl, by (intro wz hSz; go_simp; try with_reducible rfl)⟩) hS0 ?_
  go_simp
  refine wpAnyH_take (i := 1) (v := ?_) rfl (by kernel_rfl) (by kernel_rfl) (by kernel_rfl) (fun _ _ _ h => h) (Or.inl ⟨by kernel_rfl, by (intro wz hSz; have c0_0 := cell_of_row _ _ 0 _ _ _ hSz; have c0_1 := cell_of_row _ _ 1 _ _ _ hSz; have c0_2 := cell_of_row _ _ 2 _ _ _ hSz; have c0_3 := cell_of_row _ _ 3 _ _ _ hSz; have c0_4 := cell_of_row _ _ 4 _ _ _ hSz; have c0_5 := cell_of_row _ _ 5 _ _ _ hSz; simp at c0_0 c0_1 c0_2 c0_3 c0_4 c0_5; go_simp; try with_reducible rfl)⟩) hS0 ?_
  go_simp
  refine wpAnyH_take (i := 3) (v := ?_) rfl (by kernel_rfl) (by kernel_rfl) (by kernel_rfl) (fun _ _ _ h => h) (Or.inl ⟨by kernel_rfl, by (intro wz hSz; go_simp; try with_reducible rfl)⟩) hS0 ?_
  go_simp
  refine wpAnyH_take (i := 4) (v := ?_) rfl (by kernel_rfl) (by kernel_rfl) (by kernel_rfl) (fun _ _ _ h => h) (Or.inl ⟨by kernel_rfl, by (intro wz hSz; have c0_0 := cell_of_row _ _ 0 _ _ _ hSz; have c0_1 := cell_of_row _ _ 1 _ _ _ hSz; have c0_2 := cell_of_row _ _ 2 _ _ _ hSz; have c0_3 := cell_of_row _ _ 3 _ _ _ hSz; have c0_4 := cell_of_row _ _ 4 _ _ _ hSz; have c0_5 := cell_of_row _ _ 5 _ _ _ hSz; simp at c0_0 c0_1 c0_2 c0_3 c0_4 c0_5; go_simp; try with_reducible rfl)⟩) hS0 ?_
  go_simp
  refine wpAnyH_ready (rs := [2]) (by kernel_rfl) (by simp) ?_
  refine AllReadyH.cons rfl (fun K hK => ?_) AllReadyH.nil
  go_simp
  go_wp2_with (go_at_call 36; refine (to_any _ _ _ _).mono ?_; rintro e y2 ⟨rfl, hb2⟩)
  have hr2_0 := (hb2.block _ (lt_heap hr1_0)).trans hr1_0
  have hr2_1 := (hb2.block _ (lt_heap hr1_1)).trans hr1_1
  have HU2 := Lib.hid (HU1.out.trans (hb2.mono HU1.out.size))
  refine hK.out _ _ ((hb2.block _ (lt_heap hS0)).trans hS0) (fun hS2c => ?_)
  clear hK K
  refine wpAnyH_ready (rs := [5]) (by kernel_rfl) (by simp) ?_
  refine AllReadyH.cons rfl (fun K hK => ?_) AllReadyH.nil
  go_simp
  go_wp2_with (go_at_call 36; refine (to_any _ _ _ _).mono ?_; rintro e y3 ⟨rfl, hb3⟩)
  have hr3_0 := (hb3.block _ (lt_heap hr2_0)).trans hr2_0
  have hr3_1 := (hb3.block _ (lt_heap hr2_1)).trans hr2_1
  have HU3 := Lib.hid (HU2.out.trans (hb3.mono HU2.out.size))
  refine hK.out _ _ ((hb3.block _ (lt_heap hS2c)).trans hS2c) (fun hS3c => ?_)
  clear hK K
  refine wpAnyH_take (i := 6) (v := ?_) rfl (by kernel_rfl) (by kernel_rfl) (by kernel_rfl) (fun _ _ _ h => h) (Or.inl ⟨by kernel_rfl, by (intro wz hSz; go_simp; try with_reducible rfl)⟩) hS3c ?_
  go_simp
  refine wpAnyH_ready (rs := [7]) (by kernel_rfl) (by simp) ?_
  refine AllReadyH.cons rfl (fun K hK => ?_) AllReadyH.nil
  refine step_store_row rfl 73 (.tmp 2) (.tmp 9) rfl #[.int .i64 0, .int .i64 0, .int .i64 0, .int .i64 0, .int .i64 0, .int .i64 0] #[.int .i64 a, .int .i64 b, .int .i64 c, .int .i64 d, .int .i64 e, .int .i64 f] _ 73 hr3_1 rfl (by first | rfl | (go_simp; done) | (go_simp; rfl)) (by kernel_rfl) rfl (by simp [Value.oneCell']) ?_
  have hN := setRow_heap _ (w.heap.size + 1) _ #[.int .i64 a, .int .i64 b, .int .i64 c, .int .i64 d, .int .i64 e, .int .i64 f] _ _ hr3_1
  have hsz := HU3.out.size
  have HUx := below_setRow (g := w.heap.size + 1) HU3.out (by first | omega | (simp at *; omega)) #[.int .i64 a, .int .i64 b, .int .i64 c, .int .i64 d, .int .i64 e, .int .i64 f]
  obtain ⟨y4, hy4⟩ : ∃ y, y3.setRow (w.heap.size + 1) #[.int .i64 a, .int .i64 b, .int .i64 c, .int .i64 d, .int .i64 e, .int .i64 f] = y := ⟨_, rfl⟩
  have hO : ∀ k, k ≠ w.heap.size + 1 → y4.heap[k]? = y3.heap[k]? := fun k hk => by rw [← hy4]; exact setRow_other _ _ _ _ hk
  rw [hy4] at hN HUx ⊢
  clear hy4
  have HU4 := Lib.hid HUx
  clear HUx
  have hr4_0 := (hO _ (by omega)).trans hr3_0
  have hr4_1 := hN
  clear hN
  refine hK.out _ _ ((hO _ (by omega)).trans hS3c) (fun hS4s => ?_)
  clear hK K
  refine wpAnyH_done (by kernel_rfl) ?_ _
  have c1_0 := cell_of_row _ _ 0 _ _ _ hr4_1
  have c1_1 := cell_of_row _ _ 1 _ _ _ hr4_1
  have c1_2 := cell_of_row _ _ 2 _ _ _ hr4_1
  have c1_3 := cell_of_row _ _ 3 _ _ _ hr4_1
  have c1_4 := cell_of_row _ _ 4 _ _ _ hr4_1
  have c1_5 := cell_of_row _ _ 5 _ _ _ hr4_1
  simp at c1_0 c1_1 c1_2 c1_3 c1_4 c1_5
  go_wp2
  exact bodyPost_ret (v := .agg #[.int .i64 a, .int .i64 b, .int .i64 c, .int .i64 d, .int .i64 e, .int .i64 f]) (by simp [results, Try.results64, go_sem, c1_0, c1_1, c1_2, c1_3, c1_4, c1_5]) rfl ⟨rfl, HU4.out⟩

set_option maxHeartbeats 2000000 in
set_option maxRecDepth 100000 in
theorem bfrom_any (a b c d e f : Int) (w : World)  : Calls Try.prog 16 #[.agg #[.int .i64 a, .int .i64 b, .int .i64 c, .int .i64 d, .int .i64 e, .int .i64 f]] w fun e' w' => e' = .returned (.agg #[.int .i64 a, .int .i64 b, .int .i64 c, .int .i64 d, .int .i64 e, .int .i64 f]) ∧ Below w.heap.size w w' := by
  go_enter Try.func16, Try.ntmps16
  go_upto_region 1 with fail
  have hR := Au.rows2 w (.cells #[.int .i64 a, .int .i64 b, .int .i64 c, .int .i64 d, .int .i64 e, .int .i64 f] 73) (.cells #[.int .i64 0, .int .i64 0, .int .i64 0, .int .i64 0, .int .i64 0, .int .i64 0] 67)
  have HUx := below_n2 w (.cells #[.int .i64 a, .int .i64 b, .int .i64 c, .int .i64 d, .int .i64 e, .int .i64 f] 73) (.cells #[.int .i64 0, .int .i64 0, .int .i64 0, .int .i64 0, .int .i64 0, .int .i64 0] 67)
  obtain ⟨y0, hy0⟩ : ∃ y0, (w.alloc (.cells #[.int .i64 a, .int .i64 b, .int .i64 c, .int .i64 d, .int .i64 e, .int .i64 f] 73)).alloc (.cells #[.int .i64 0, .int .i64 0, .int .i64 0, .int .i64 0, .int .i64 0, .int .i64 0] 67) = y0 := ⟨_, rfl⟩
  rw [hy0] at hR HUx ⊢
  clear hy0
  have HU0 := Lib.hid HUx
  clear HUx
  obtain ⟨hr0_0, hr0_1⟩ := hR
  refine wp_region_held_drew (S := fun y => y.heap[w.heap.size]? = some (.cells #[.int .i64 a, .int .i64 b, .int .i64 c, .int .i64 d, .int .i64 e, .int .i64 f] 73 (0, 0))) (by kernel_rfl) (hr0_0) (fun hS0 => ?_)
  obtain ⟨y1, hy1⟩ : ∃ y, y0.drew = y := ⟨_, rfl⟩
  have HU1 := Lib.hid (show Below w.heap.size w y1 by rw [← hy1]; exact HU0.out.drew)
  have hr1_0 : y1.heap[w.heap.size]? = some (.cells #[.int .i64 a, .int .i64 b, .int .i64 c, .int .i64 d, .int .i64 e, .int .i64 f] 73 (0, 0)) := by rw [← hy1]; exact hr0_0
  have hr1_1 : y1.heap[w.heap.size + 1]? = some (.cells #[.int .i64 0, .int .i64 0, .int .i64 0, .int .i64 0, .int .i64 0, .int .i64 0] 67 (0, 0)) := by rw [← hy1]; exact hr0_1
  rw [hy1] at hS0 ⊢
  clear hy1
  refine wpAnyH_take (i := 0) (v := ?_) rfl (by kernel_rfl) (by kernel_rfl) (by kernel_rfl) (fun _ _ _ h => h) (Or.inl ⟨by kernel_rfl, by (intro wz hSz; go_simp; try with_reducible rfl)⟩) hS0 ?_
  go_simp
  refine wpAnyH_take (i := 1) (v := ?_) rfl (by kernel_rfl) (by kernel_rfl) (by kernel_rfl) (fun _ _ _ h => h) (Or.inl ⟨by kernel_rfl, by (intro wz hSz; have c0_0 := cell_of_row _ _ 0 _ _ _ hSz; have c0_1 := cell_of_row _ _ 1 _ _ _ hSz; have c0_2 := cell_of_row _ _ 2 _ _ _ hSz; have c0_3 := cell_of_row _ _ 3 _ _ _ hSz; have c0_4 := cell_of_row _ _ 4 _ _ _ hSz; have c0_5 := cell_of_row _ _ 5 _ _ _ hSz; simp at c0_0 c0_1 c0_2 c0_3 c0_4 c0_5; go_simp; try with_reducible rfl)⟩) hS0 ?_
  go_simp
  refine wpAnyH_take (i := 3) (v := ?_) rfl (by kernel_rfl) (by kernel_rfl) (by kernel_rfl) (fun _ _ _ h => h) (Or.inl ⟨by kernel_rfl, by (intro wz hSz; go_simp; try with_reducible rfl)⟩) hS0 ?_
  go_simp
  refine wpAnyH_take (i := 4) (v := ?_) rfl (by kernel_rfl) (by kernel_rfl) (by kernel_rfl) (fun _ _ _ h => h) (Or.inl ⟨by kernel_rfl, by (intro wz hSz; have c0_0 := cell_of_row _ _ 0 _ _ _ hSz; have c0_1 := cell_of_row _ _ 1 _ _ _ hSz; have c0_2 := cell_of_row _ _ 2 _ _ _ hSz; have c0_3 := cell_of_row _ _ 3 _ _ _ hSz; have c0_4 := cell_of_row _ _ 4 _ _ _ hSz; have c0_5 := cell_of_row _ _ 5 _ _ _ hSz; simp at c0_0 c0_1 c0_2 c0_3 c0_4 c0_5; go_simp; try with_reducible rfl)⟩) hS0 ?_
  go_simp
  refine wpAnyH_ready (rs := [2]) (by kernel_rfl) (by simp) ?_
  refine AllReadyH.cons rfl (fun K hK => ?_) AllReadyH.nil
  go_simp
  go_wp2_with (go_at_call 30; refine (from_any _ _ _ _).mono ?_; rintro e y2 ⟨rfl, hb2⟩)
  have hr2_0 := (hb2.block _ (lt_heap hr1_0)).trans hr1_0
  have hr2_1 := (hb2.block _ (lt_heap hr1_1)).trans hr1_1
  have HU2 := Lib.hid (HU1.out.trans (hb2.mono HU1.out.size))
  refine hK.out _ _ ((hb2.block _ (lt_heap hS0)).trans hS0) (fun hS2c => ?_)
  clear hK K
  refine wpAnyH_ready (rs := [5]) (by kernel_rfl) (by simp) ?_
  refine AllReadyH.cons rfl (fun K hK => ?_) AllReadyH.nil
  go_simp
  go_wp2_with (go_at_call 30; refine (from_any _ _ _ _).mono ?_; rintro e y3 ⟨rfl, hb3⟩)
  have hr3_0 := (hb3.block _ (lt_heap hr2_0)).trans hr2_0
  have hr3_1 := (hb3.block _ (lt_heap hr2_1)).trans hr2_1
  have HU3 := Lib.hid (HU2.out.trans (hb3.mono HU2.out.size))
  refine hK.out _ _ ((hb3.block _ (lt_heap hS2c)).trans hS2c) (fun hS3c => ?_)
  clear hK K
  refine wpAnyH_take (i := 6) (v := ?_) rfl (by kernel_rfl) (by kernel_rfl) (by kernel_rfl) (fun _ _ _ h => h) (Or.inl ⟨by kernel_rfl, by (intro wz hSz; go_simp; try with_reducible rfl)⟩) hS3c ?_
  go_simp
  refine wpAnyH_ready (rs := [7]) (by kernel_rfl) (by simp) ?_
  refine AllReadyH.cons rfl (fun K hK => ?_) AllReadyH.nil
  refine step_store_row rfl 67 (.tmp 2) (.tmp 9) rfl #[.int .i64 0, .int .i64 0, .int .i64 0, .int .i64 0, .int .i64 0, .int .i64 0] #[.int .i64 a, .int .i64 b, .int .i64 c, .int .i64 d, .int .i64 e, .int .i64 f] _ 67 hr3_1 rfl (by first | rfl | (go_simp; done) | (go_simp; rfl)) (by kernel_rfl) rfl (by simp [Value.oneCell']) ?_
  have hN := setRow_heap _ (w.heap.size + 1) _ #[.int .i64 a, .int .i64 b, .int .i64 c, .int .i64 d, .int .i64 e, .int .i64 f] _ _ hr3_1
  have hsz := HU3.out.size
  have HUx := below_setRow (g := w.heap.size + 1) HU3.out (by first | omega | (simp at *; omega)) #[.int .i64 a, .int .i64 b, .int .i64 c, .int .i64 d, .int .i64 e, .int .i64 f]
  obtain ⟨y4, hy4⟩ : ∃ y, y3.setRow (w.heap.size + 1) #[.int .i64 a, .int .i64 b, .int .i64 c, .int .i64 d, .int .i64 e, .int .i64 f] = y := ⟨_, rfl⟩
  have hO : ∀ k, k ≠ w.heap.size + 1 → y4.heap[k]? = y3.heap[k]? := fun k hk => by rw [← hy4]; exact setRow_other _ _ _ _ hk
  rw [hy4] at hN HUx ⊢
  clear hy4
  have HU4 := Lib.hid HUx
  clear HUx
  have hr4_0 := (hO _ (by omega)).trans hr3_0
  have hr4_1 := hN
  clear hN
  refine hK.out _ _ ((hO _ (by omega)).trans hS3c) (fun hS4s => ?_)
  clear hK K
  refine wpAnyH_done (by kernel_rfl) ?_ _
  have c1_0 := cell_of_row _ _ 0 _ _ _ hr4_1
  have c1_1 := cell_of_row _ _ 1 _ _ _ hr4_1
  have c1_2 := cell_of_row _ _ 2 _ _ _ hr4_1
  have c1_3 := cell_of_row _ _ 3 _ _ _ hr4_1
  have c1_4 := cell_of_row _ _ 4 _ _ _ hr4_1
  have c1_5 := cell_of_row _ _ 5 _ _ _ hr4_1
  simp at c1_0 c1_1 c1_2 c1_3 c1_4 c1_5
  go_wp2
  exact bodyPost_ret (v := .agg #[.int .i64 a, .int .i64 b, .int .i64 c, .int .i64 d, .int .i64 e, .int .i64 f]) (by simp [results, Try.results16, go_sem, c1_0, c1_1, c1_2, c1_3, c1_4, c1_5]) rfl ⟨rfl, HU4.out⟩

set_option maxHeartbeats 2000000 in
set_option maxRecDepth 100000 in
theorem ptopair_any (a0 a1 a2 a3 a4 a5 a6 a7 a8 a9 a10 a11 : Int) (w : World)  : Calls Try.prog 15 #[.agg #[.int .i64 a0, .int .i64 a1, .int .i64 a2, .int .i64 a3, .int .i64 a4, .int .i64 a5, .int .i64 a6, .int .i64 a7, .int .i64 a8, .int .i64 a9, .int .i64 a10, .int .i64 a11]] w fun e' w' => e' = .returned (.agg #[.int .i64 a0, .int .i64 a1, .int .i64 a2, .int .i64 a3, .int .i64 a4, .int .i64 a5, .int .i64 a6, .int .i64 a7, .int .i64 a8, .int .i64 a9, .int .i64 a10, .int .i64 a11]) ∧ Below w.heap.size w w' := by
  go_enter Try.func15, Try.ntmps15
  go_upto_region 1 with fail
  have hR := Au.rows2 w (.cells #[.int .i64 a0, .int .i64 a1, .int .i64 a2, .int .i64 a3, .int .i64 a4, .int .i64 a5, .int .i64 a6, .int .i64 a7, .int .i64 a8, .int .i64 a9, .int .i64 a10, .int .i64 a11] 69) (.cells #[.int .i64 0, .int .i64 0, .int .i64 0, .int .i64 0, .int .i64 0, .int .i64 0, .int .i64 0, .int .i64 0, .int .i64 0, .int .i64 0, .int .i64 0, .int .i64 0] 75)
  have HUx := below_n2 w (.cells #[.int .i64 a0, .int .i64 a1, .int .i64 a2, .int .i64 a3, .int .i64 a4, .int .i64 a5, .int .i64 a6, .int .i64 a7, .int .i64 a8, .int .i64 a9, .int .i64 a10, .int .i64 a11] 69) (.cells #[.int .i64 0, .int .i64 0, .int .i64 0, .int .i64 0, .int .i64 0, .int .i64 0, .int .i64 0, .int .i64 0, .int .i64 0, .int .i64 0, .int .i64 0, .int .i64 0] 75)
  obtain ⟨y0, hy0⟩ : ∃ y0, (w.alloc (.cells #[.int .i64 a0, .int .i64 a1, .int .i64 a2, .int .i64 a3, .int .i64 a4, .int .i64 a5, .int .i64 a6, .int .i64 a7, .int .i64 a8, .int .i64 a9, .int .i64 a10, .int .i64 a11] 69)).alloc (.cells #[.int .i64 0, .int .i64 0, .int .i64 0, .int .i64 0, .int .i64 0, .int .i64 0, .int .i64 0, .int .i64 0, .int .i64 0, .int .i64 0, .int .i64 0, .int .i64 0] 75) = y0 := ⟨_, rfl⟩
  rw [hy0] at hR HUx ⊢
  clear hy0
  have HU0 := Lib.hid HUx
  clear HUx
  obtain ⟨hr0_0, hr0_1⟩ := hR
  refine wp_region_held_drew (S := fun y => y.heap[w.heap.size]? = some (.cells #[.int .i64 a0, .int .i64 a1, .int .i64 a2, .int .i64 a3, .int .i64 a4, .int .i64 a5, .int .i64 a6, .int .i64 a7, .int .i64 a8, .int .i64 a9, .int .i64 a10, .int .i64 a11] 69 (0, 0))) (by kernel_rfl) (hr0_0) (fun hS0 => ?_)
  obtain ⟨y1, hy1⟩ : ∃ y, y0.drew = y := ⟨_, rfl⟩
  have HU1 := Lib.hid (show Below w.heap.size w y1 by rw [← hy1]; exact HU0.out.drew)
  have hr1_0 : y1.heap[w.heap.size]? = some (.cells #[.int .i64 a0, .int .i64 a1, .int .i64 a2, .int .i64 a3, .int .i64 a4, .int .i64 a5, .int .i64 a6, .int .i64 a7, .int .i64 a8, .int .i64 a9, .int .i64 a10, .int .i64 a11] 69 (0, 0)) := by rw [← hy1]; exact hr0_0
  have hr1_1 : y1.heap[w.heap.size + 1]? = some (.cells #[.int .i64 0, .int .i64 0, .int .i64 0, .int .i64 0, .int .i64 0, .int .i64 0, .int .i64 0, .int .i64 0, .int .i64 0, .int .i64 0, .int .i64 0, .int .i64 0] 75 (0, 0)) := by rw [← hy1]; exact hr0_1
  rw [hy1] at hS0 ⊢
  clear hy1
  refine wpAnyH_take (i := 0) (v := ?_) rfl (by kernel_rfl) (by kernel_rfl) (by kernel_rfl) (fun _ _ _ h => h) (Or.inl ⟨by kernel_rfl, by (intro wz hSz; go_simp; try with_reducible rfl)⟩) hS0 ?_
  go_simp
  refine wpAnyH_take (i := 1) (v := ?_) rfl (by kernel_rfl) (by kernel_rfl) (by kernel_rfl) (fun _ _ _ h => h) (Or.inl ⟨by kernel_rfl, by (intro wz hSz; have c0_0 := cell_of_row _ _ 0 _ _ _ hSz; have c0_1 := cell_of_row _ _ 1 _ _ _ hSz; have c0_2 := cell_of_row _ _ 2 _ _ _ hSz; have c0_3 := cell_of_row _ _ 3 _ _ _ hSz; have c0_4 := cell_of_row _ _ 4 _ _ _ hSz; have c0_5 := cell_of_row _ _ 5 _ _ _ hSz; have c0_6 := cell_of_row _ _ 6 _ _ _ hSz; have c0_7 := cell_of_row _ _ 7 _ _ _ hSz; have c0_8 := cell_of_row _ _ 8 _ _ _ hSz; have c0_9 := cell_of_row _ _ 9 _ _ _ hSz; have c0_10 := cell_of_row _ _ 10 _ _ _ hSz; have c0_11 := cell_of_row _ _ 11 _ _ _ hSz; simp at c0_0 c0_1 c0_2 c0_3 c0_4 c0_5 c0_6 c0_7 c0_8 c0_9 c0_10 c0_11; go_simp; try with_reducible rfl)⟩) hS0 ?_
  go_simp
  refine wpAnyH_take (i := 3) (v := ?_) rfl (by kernel_rfl) (by kernel_rfl) (by kernel_rfl) (fun _ _ _ h => h) (Or.inl ⟨by kernel_rfl, by (intro wz hSz; go_simp; try with_reducible rfl)⟩) hS0 ?_
  go_simp
  refine wpAnyH_take (i := 4) (v := ?_) rfl (by kernel_rfl) (by kernel_rfl) (by kernel_rfl) (fun _ _ _ h => h) (Or.inl ⟨by kernel_rfl, by (intro wz hSz; have c0_0 := cell_of_row _ _ 0 _ _ _ hSz; have c0_1 := cell_of_row _ _ 1 _ _ _ hSz; have c0_2 := cell_of_row _ _ 2 _ _ _ hSz; have c0_3 := cell_of_row _ _ 3 _ _ _ hSz; have c0_4 := cell_of_row _ _ 4 _ _ _ hSz; have c0_5 := cell_of_row _ _ 5 _ _ _ hSz; have c0_6 := cell_of_row _ _ 6 _ _ _ hSz; have c0_7 := cell_of_row _ _ 7 _ _ _ hSz; have c0_8 := cell_of_row _ _ 8 _ _ _ hSz; have c0_9 := cell_of_row _ _ 9 _ _ _ hSz; have c0_10 := cell_of_row _ _ 10 _ _ _ hSz; have c0_11 := cell_of_row _ _ 11 _ _ _ hSz; simp at c0_0 c0_1 c0_2 c0_3 c0_4 c0_5 c0_6 c0_7 c0_8 c0_9 c0_10 c0_11; go_simp; try with_reducible rfl)⟩) hS0 ?_
  go_simp
  refine wpAnyH_ready (rs := [2]) (by kernel_rfl) (by simp) ?_
  refine AllReadyH.cons rfl (fun K hK => ?_) AllReadyH.nil
  go_simp
  go_wp2_with (go_at_call 64; refine (bto_any _ _ _ _ _ _ _).mono ?_; rintro e y2 ⟨rfl, hb2⟩)
  have hr2_0 := (hb2.block _ (lt_heap hr1_0)).trans hr1_0
  have hr2_1 := (hb2.block _ (lt_heap hr1_1)).trans hr1_1
  have HU2 := Lib.hid (HU1.out.trans (hb2.mono HU1.out.size))
  refine hK.out _ _ ((hb2.block _ (lt_heap hS0)).trans hS0) (fun hS2c => ?_)
  clear hK K
  refine wpAnyH_ready (rs := [5]) (by kernel_rfl) (by simp) ?_
  refine AllReadyH.cons rfl (fun K hK => ?_) AllReadyH.nil
  go_simp
  go_wp2_with (go_at_call 64; refine (bto_any _ _ _ _ _ _ _).mono ?_; rintro e y3 ⟨rfl, hb3⟩)
  have hr3_0 := (hb3.block _ (lt_heap hr2_0)).trans hr2_0
  have hr3_1 := (hb3.block _ (lt_heap hr2_1)).trans hr2_1
  have HU3 := Lib.hid (HU2.out.trans (hb3.mono HU2.out.size))
  refine hK.out _ _ ((hb3.block _ (lt_heap hS2c)).trans hS2c) (fun hS3c => ?_)
  clear hK K
  refine wpAnyH_take (i := 6) (v := ?_) rfl (by kernel_rfl) (by kernel_rfl) (by kernel_rfl) (fun _ _ _ h => h) (Or.inl ⟨by kernel_rfl, by (intro wz hSz; go_simp; try with_reducible rfl)⟩) hS3c ?_
  go_simp
  refine wpAnyH_ready (rs := [7]) (by kernel_rfl) (by simp) ?_
  refine AllReadyH.cons rfl (fun K hK => ?_) AllReadyH.nil
  refine step_store_row rfl 75 (.tmp 2) (.tmp 9) rfl #[.int .i64 0, .int .i64 0, .int .i64 0, .int .i64 0, .int .i64 0, .int .i64 0, .int .i64 0, .int .i64 0, .int .i64 0, .int .i64 0, .int .i64 0, .int .i64 0] #[.int .i64 a0, .int .i64 a1, .int .i64 a2, .int .i64 a3, .int .i64 a4, .int .i64 a5, .int .i64 a6, .int .i64 a7, .int .i64 a8, .int .i64 a9, .int .i64 a10, .int .i64 a11] _ 75 hr3_1 rfl (by first | rfl | (go_simp; done) | (go_simp; rfl)) (by kernel_rfl) rfl (by simp [Value.oneCell']) ?_
  have hN := setRow_heap _ (w.heap.size + 1) _ #[.int .i64 a0, .int .i64 a1, .int .i64 a2, .int .i64 a3, .int .i64 a4, .int .i64 a5, .int .i64 a6, .int .i64 a7, .int .i64 a8, .int .i64 a9, .int .i64 a10, .int .i64 a11] _ _ hr3_1
  have hsz := HU3.out.size
  have HUx := below_setRow (g := w.heap.size + 1) HU3.out (by first | omega | (simp at *; omega)) #[.int .i64 a0, .int .i64 a1, .int .i64 a2, .int .i64 a3, .int .i64 a4, .int .i64 a5, .int .i64 a6, .int .i64 a7, .int .i64 a8, .int .i64 a9, .int .i64 a10, .int .i64 a11]
  obtain ⟨y4, hy4⟩ : ∃ y, y3.setRow (w.heap.size + 1) #[.int .i64 a0, .int .i64 a1, .int .i64 a2, .int .i64 a3, .int .i64 a4, .int .i64 a5, .int .i64 a6, .int .i64 a7, .int .i64 a8, .int .i64 a9, .int .i64 a10, .int .i64 a11] = y := ⟨_, rfl⟩
  have hO : ∀ k, k ≠ w.heap.size + 1 → y4.heap[k]? = y3.heap[k]? := fun k hk => by rw [← hy4]; exact setRow_other _ _ _ _ hk
  rw [hy4] at hN HUx ⊢
  clear hy4
  have HU4 := Lib.hid HUx
  clear HUx
  have hr4_0 := (hO _ (by omega)).trans hr3_0
  have hr4_1 := hN
  clear hN
  refine hK.out _ _ ((hO _ (by omega)).trans hS3c) (fun hS4s => ?_)
  clear hK K
  refine wpAnyH_done (by kernel_rfl) ?_ _
  have c1_0 := cell_of_row _ _ 0 _ _ _ hr4_1
  have c1_1 := cell_of_row _ _ 1 _ _ _ hr4_1
  have c1_2 := cell_of_row _ _ 2 _ _ _ hr4_1
  have c1_3 := cell_of_row _ _ 3 _ _ _ hr4_1
  have c1_4 := cell_of_row _ _ 4 _ _ _ hr4_1
  have c1_5 := cell_of_row _ _ 5 _ _ _ hr4_1
  have c1_6 := cell_of_row _ _ 6 _ _ _ hr4_1
  have c1_7 := cell_of_row _ _ 7 _ _ _ hr4_1
  have c1_8 := cell_of_row _ _ 8 _ _ _ hr4_1
  have c1_9 := cell_of_row _ _ 9 _ _ _ hr4_1
  have c1_10 := cell_of_row _ _ 10 _ _ _ hr4_1
  have c1_11 := cell_of_row _ _ 11 _ _ _ hr4_1
  simp at c1_0 c1_1 c1_2 c1_3 c1_4 c1_5 c1_6 c1_7 c1_8 c1_9 c1_10 c1_11
  go_wp2
  exact bodyPost_ret (v := .agg #[.int .i64 a0, .int .i64 a1, .int .i64 a2, .int .i64 a3, .int .i64 a4, .int .i64 a5, .int .i64 a6, .int .i64 a7, .int .i64 a8, .int .i64 a9, .int .i64 a10, .int .i64 a11]) (by simp [results, Try.results15, go_sem, c1_0, c1_1, c1_2, c1_3, c1_4, c1_5, c1_6, c1_7, c1_8, c1_9, c1_10, c1_11]) rfl ⟨rfl, HU4.out⟩

set_option maxHeartbeats 2000000 in
set_option maxRecDepth 100000 in
theorem pfrompair_any (a0 a1 a2 a3 a4 a5 a6 a7 a8 a9 a10 a11 : Int) (w : World)  : Calls Try.prog 21 #[.agg #[.int .i64 a0, .int .i64 a1, .int .i64 a2, .int .i64 a3, .int .i64 a4, .int .i64 a5, .int .i64 a6, .int .i64 a7, .int .i64 a8, .int .i64 a9, .int .i64 a10, .int .i64 a11]] w fun e' w' => e' = .returned (.agg #[.int .i64 a0, .int .i64 a1, .int .i64 a2, .int .i64 a3, .int .i64 a4, .int .i64 a5, .int .i64 a6, .int .i64 a7, .int .i64 a8, .int .i64 a9, .int .i64 a10, .int .i64 a11]) ∧ Below w.heap.size w w' := by
  go_enter Try.func21, Try.ntmps21
  go_upto_region 1 with fail
  have hR := Au.rows2 w (.cells #[.int .i64 a0, .int .i64 a1, .int .i64 a2, .int .i64 a3, .int .i64 a4, .int .i64 a5, .int .i64 a6, .int .i64 a7, .int .i64 a8, .int .i64 a9, .int .i64 a10, .int .i64 a11] 75) (.cells #[.int .i64 0, .int .i64 0, .int .i64 0, .int .i64 0, .int .i64 0, .int .i64 0, .int .i64 0, .int .i64 0, .int .i64 0, .int .i64 0, .int .i64 0, .int .i64 0] 69)
  have HUx := below_n2 w (.cells #[.int .i64 a0, .int .i64 a1, .int .i64 a2, .int .i64 a3, .int .i64 a4, .int .i64 a5, .int .i64 a6, .int .i64 a7, .int .i64 a8, .int .i64 a9, .int .i64 a10, .int .i64 a11] 75) (.cells #[.int .i64 0, .int .i64 0, .int .i64 0, .int .i64 0, .int .i64 0, .int .i64 0, .int .i64 0, .int .i64 0, .int .i64 0, .int .i64 0, .int .i64 0, .int .i64 0] 69)
  obtain ⟨y0, hy0⟩ : ∃ y0, (w.alloc (.cells #[.int .i64 a0, .int .i64 a1, .int .i64 a2, .int .i64 a3, .int .i64 a4, .int .i64 a5, .int .i64 a6, .int .i64 a7, .int .i64 a8, .int .i64 a9, .int .i64 a10, .int .i64 a11] 75)).alloc (.cells #[.int .i64 0, .int .i64 0, .int .i64 0, .int .i64 0, .int .i64 0, .int .i64 0, .int .i64 0, .int .i64 0, .int .i64 0, .int .i64 0, .int .i64 0, .int .i64 0] 69) = y0 := ⟨_, rfl⟩
  rw [hy0] at hR HUx ⊢
  clear hy0
  have HU0 := Lib.hid HUx
  clear HUx
  obtain ⟨hr0_0, hr0_1⟩ := hR
  refine wp_region_held_drew (S := fun y => y.heap[w.heap.size]? = some (.cells #[.int .i64 a0, .int .i64 a1, .int .i64 a2, .int .i64 a3, .int .i64 a4, .int .i64 a5, .int .i64 a6, .int .i64 a7, .int .i64 a8, .int .i64 a9, .int .i64 a10, .int .i64 a11] 75 (0, 0))) (by kernel_rfl) (hr0_0) (fun hS0 => ?_)
  obtain ⟨y1, hy1⟩ : ∃ y, y0.drew = y := ⟨_, rfl⟩
  have HU1 := Lib.hid (show Below w.heap.size w y1 by rw [← hy1]; exact HU0.out.drew)
  have hr1_0 : y1.heap[w.heap.size]? = some (.cells #[.int .i64 a0, .int .i64 a1, .int .i64 a2, .int .i64 a3, .int .i64 a4, .int .i64 a5, .int .i64 a6, .int .i64 a7, .int .i64 a8, .int .i64 a9, .int .i64 a10, .int .i64 a11] 75 (0, 0)) := by rw [← hy1]; exact hr0_0
  have hr1_1 : y1.heap[w.heap.size + 1]? = some (.cells #[.int .i64 0, .int .i64 0, .int .i64 0, .int .i64 0, .int .i64 0, .int .i64 0, .int .i64 0, .int .i64 0, .int .i64 0, .int .i64 0, .int .i64 0, .int .i64 0] 69 (0, 0)) := by rw [← hy1]; exact hr0_1
  rw [hy1] at hS0 ⊢
  clear hy1
  refine wpAnyH_take (i := 0) (v := ?_) rfl (by kernel_rfl) (by kernel_rfl) (by kernel_rfl) (fun _ _ _ h => h) (Or.inl ⟨by kernel_rfl, by (intro wz hSz; go_simp; try with_reducible rfl)⟩) hS0 ?_
  go_simp
  refine wpAnyH_take (i := 1) (v := ?_) rfl (by kernel_rfl) (by kernel_rfl) (by kernel_rfl) (fun _ _ _ h => h) (Or.inl ⟨by kernel_rfl, by (intro wz hSz; have c0_0 := cell_of_row _ _ 0 _ _ _ hSz; have c0_1 := cell_of_row _ _ 1 _ _ _ hSz; have c0_2 := cell_of_row _ _ 2 _ _ _ hSz; have c0_3 := cell_of_row _ _ 3 _ _ _ hSz; have c0_4 := cell_of_row _ _ 4 _ _ _ hSz; have c0_5 := cell_of_row _ _ 5 _ _ _ hSz; have c0_6 := cell_of_row _ _ 6 _ _ _ hSz; have c0_7 := cell_of_row _ _ 7 _ _ _ hSz; have c0_8 := cell_of_row _ _ 8 _ _ _ hSz; have c0_9 := cell_of_row _ _ 9 _ _ _ hSz; have c0_10 := cell_of_row _ _ 10 _ _ _ hSz; have c0_11 := cell_of_row _ _ 11 _ _ _ hSz; simp at c0_0 c0_1 c0_2 c0_3 c0_4 c0_5 c0_6 c0_7 c0_8 c0_9 c0_10 c0_11; go_simp; try with_reducible rfl)⟩) hS0 ?_
  go_simp
  refine wpAnyH_take (i := 3) (v := ?_) rfl (by kernel_rfl) (by kernel_rfl) (by kernel_rfl) (fun _ _ _ h => h) (Or.inl ⟨by kernel_rfl, by (intro wz hSz; go_simp; try with_reducible rfl)⟩) hS0 ?_
  go_simp
  refine wpAnyH_take (i := 4) (v := ?_) rfl (by kernel_rfl) (by kernel_rfl) (by kernel_rfl) (fun _ _ _ h => h) (Or.inl ⟨by kernel_rfl, by (intro wz hSz; have c0_0 := cell_of_row _ _ 0 _ _ _ hSz; have c0_1 := cell_of_row _ _ 1 _ _ _ hSz; have c0_2 := cell_of_row _ _ 2 _ _ _ hSz; have c0_3 := cell_of_row _ _ 3 _ _ _ hSz; have c0_4 := cell_of_row _ _ 4 _ _ _ hSz; have c0_5 := cell_of_row _ _ 5 _ _ _ hSz; have c0_6 := cell_of_row _ _ 6 _ _ _ hSz; have c0_7 := cell_of_row _ _ 7 _ _ _ hSz; have c0_8 := cell_of_row _ _ 8 _ _ _ hSz; have c0_9 := cell_of_row _ _ 9 _ _ _ hSz; have c0_10 := cell_of_row _ _ 10 _ _ _ hSz; have c0_11 := cell_of_row _ _ 11 _ _ _ hSz; simp at c0_0 c0_1 c0_2 c0_3 c0_4 c0_5 c0_6 c0_7 c0_8 c0_9 c0_10 c0_11; go_simp; try with_reducible rfl)⟩) hS0 ?_
  go_simp
  refine wpAnyH_ready (rs := [2]) (by kernel_rfl) (by simp) ?_
  refine AllReadyH.cons rfl (fun K hK => ?_) AllReadyH.nil
  go_simp
  go_wp2_with (go_at_call 16; refine (bfrom_any _ _ _ _ _ _ _).mono ?_; rintro e y2 ⟨rfl, hb2⟩)
  have hr2_0 := (hb2.block _ (lt_heap hr1_0)).trans hr1_0
  have hr2_1 := (hb2.block _ (lt_heap hr1_1)).trans hr1_1
  have HU2 := Lib.hid (HU1.out.trans (hb2.mono HU1.out.size))
  refine hK.out _ _ ((hb2.block _ (lt_heap hS0)).trans hS0) (fun hS2c => ?_)
  clear hK K
  refine wpAnyH_ready (rs := [5]) (by kernel_rfl) (by simp) ?_
  refine AllReadyH.cons rfl (fun K hK => ?_) AllReadyH.nil
  go_simp
  go_wp2_with (go_at_call 16; refine (bfrom_any _ _ _ _ _ _ _).mono ?_; rintro e y3 ⟨rfl, hb3⟩)
  have hr3_0 := (hb3.block _ (lt_heap hr2_0)).trans hr2_0
  have hr3_1 := (hb3.block _ (lt_heap hr2_1)).trans hr2_1
  have HU3 := Lib.hid (HU2.out.trans (hb3.mono HU2.out.size))
  refine hK.out _ _ ((hb3.block _ (lt_heap hS2c)).trans hS2c) (fun hS3c => ?_)
  clear hK K
  refine wpAnyH_take (i := 6) (v := ?_) rfl (by kernel_rfl) (by kernel_rfl) (by kernel_rfl) (fun _ _ _ h => h) (Or.inl ⟨by kernel_rfl, by (intro wz hSz; go_simp; try with_reducible rfl)⟩) hS3c ?_
  go_simp
  refine wpAnyH_ready (rs := [7]) (by kernel_rfl) (by simp) ?_
  refine AllReadyH.cons rfl (fun K hK => ?_) AllReadyH.nil
  refine step_store_row rfl 69 (.tmp 2) (.tmp 9) rfl #[.int .i64 0, .int .i64 0, .int .i64 0, .int .i64 0, .int .i64 0, .int .i64 0, .int .i64 0, .int .i64 0, .int .i64 0, .int .i64 0, .int .i64 0, .int .i64 0] #[.int .i64 a0, .int .i64 a1, .int .i64 a2, .int .i64 a3, .int .i64 a4, .int .i64 a5, .int .i64 a6, .int .i64 a7, .int .i64 a8, .int .i64 a9, .int .i64 a10, .int .i64 a11] _ 69 hr3_1 rfl (by first | rfl | (go_simp; done) | (go_simp; rfl)) (by kernel_rfl) rfl (by simp [Value.oneCell']) ?_
  have hN := setRow_heap _ (w.heap.size + 1) _ #[.int .i64 a0, .int .i64 a1, .int .i64 a2, .int .i64 a3, .int .i64 a4, .int .i64 a5, .int .i64 a6, .int .i64 a7, .int .i64 a8, .int .i64 a9, .int .i64 a10, .int .i64 a11] _ _ hr3_1
  have hsz := HU3.out.size
  have HUx := below_setRow (g := w.heap.size + 1) HU3.out (by first | omega | (simp at *; omega)) #[.int .i64 a0, .int .i64 a1, .int .i64 a2, .int .i64 a3, .int .i64 a4, .int .i64 a5, .int .i64 a6, .int .i64 a7, .int .i64 a8, .int .i64 a9, .int .i64 a10, .int .i64 a11]
  obtain ⟨y4, hy4⟩ : ∃ y, y3.setRow (w.heap.size + 1) #[.int .i64 a0, .int .i64 a1, .int .i64 a2, .int .i64 a3, .int .i64 a4, .int .i64 a5, .int .i64 a6, .int .i64 a7, .int .i64 a8, .int .i64 a9, .int .i64 a10, .int .i64 a11] = y := ⟨_, rfl⟩
  have hO : ∀ k, k ≠ w.heap.size + 1 → y4.heap[k]? = y3.heap[k]? := fun k hk => by rw [← hy4]; exact setRow_other _ _ _ _ hk
  rw [hy4] at hN HUx ⊢
  clear hy4
  have HU4 := Lib.hid HUx
  clear HUx
  have hr4_0 := (hO _ (by omega)).trans hr3_0
  have hr4_1 := hN
  clear hN
  refine hK.out _ _ ((hO _ (by omega)).trans hS3c) (fun hS4s => ?_)
  clear hK K
  refine wpAnyH_done (by kernel_rfl) ?_ _
  have c1_0 := cell_of_row _ _ 0 _ _ _ hr4_1
  have c1_1 := cell_of_row _ _ 1 _ _ _ hr4_1
  have c1_2 := cell_of_row _ _ 2 _ _ _ hr4_1
  have c1_3 := cell_of_row _ _ 3 _ _ _ hr4_1
  have c1_4 := cell_of_row _ _ 4 _ _ _ hr4_1
  have c1_5 := cell_of_row _ _ 5 _ _ _ hr4_1
  have c1_6 := cell_of_row _ _ 6 _ _ _ hr4_1
  have c1_7 := cell_of_row _ _ 7 _ _ _ hr4_1
  have c1_8 := cell_of_row _ _ 8 _ _ _ hr4_1
  have c1_9 := cell_of_row _ _ 9 _ _ _ hr4_1
  have c1_10 := cell_of_row _ _ 10 _ _ _ hr4_1
  have c1_11 := cell_of_row _ _ 11 _ _ _ hr4_1
  simp at c1_0 c1_1 c1_2 c1_3 c1_4 c1_5 c1_6 c1_7 c1_8 c1_9 c1_10 c1_11
  go_wp2
  exact bodyPost_ret (v := .agg #[.int .i64 a0, .int .i64 a1, .int .i64 a2, .int .i64 a3, .int .i64 a4, .int .i64 a5, .int .i64 a6, .int .i64 a7, .int .i64 a8, .int .i64 a9, .int .i64 a10, .int .i64 a11]) (by simp [results, Try.results21, go_sem, c1_0, c1_1, c1_2, c1_3, c1_4, c1_5, c1_6, c1_7, c1_8, c1_9, c1_10, c1_11]) rfl ⟨rfl, HU4.out⟩

set_option maxHeartbeats 2000000 in
set_option maxRecDepth 100000 in
theorem pat_any (a0 a1 a2 a3 a4 a5 a6 a7 a8 a9 a10 a11 t : Int) (w : World)  : Calls Try.prog 17 #[.agg #[.int .i64 a0, .int .i64 a1, .int .i64 a2, .int .i64 a3, .int .i64 a4, .int .i64 a5, .int .i64 a6, .int .i64 a7, .int .i64 a8, .int .i64 a9, .int .i64 a10, .int .i64 a11], .int .i64 t] w fun e' w' => e' = .returned (.agg #[.int .i64 (Pl.lerp a0 a6 t), .int .i64 (Pl.lerp a1 a7 t), .int .i64 (Pl.lerp a2 a8 t), .int .i64 (Pl.lerp a3 a9 t), .int .i64 (Pl.lerp a4 a10 t), .int .i64 (Pl.lerp a5 a11 t)]) ∧ Below w.heap.size w w' := by
  go_enter Try.func17, Try.ntmps17
  go_upto_region 1 with fail
  have hR := Au.rows2 w (.cells #[.int .i64 a0, .int .i64 a1, .int .i64 a2, .int .i64 a3, .int .i64 a4, .int .i64 a5, .int .i64 a6, .int .i64 a7, .int .i64 a8, .int .i64 a9, .int .i64 a10, .int .i64 a11] 75) (.cells #[.int .i64 0, .int .i64 0, .int .i64 0, .int .i64 0, .int .i64 0, .int .i64 0] 73)
  have HUx := below_n2 w (.cells #[.int .i64 a0, .int .i64 a1, .int .i64 a2, .int .i64 a3, .int .i64 a4, .int .i64 a5, .int .i64 a6, .int .i64 a7, .int .i64 a8, .int .i64 a9, .int .i64 a10, .int .i64 a11] 75) (.cells #[.int .i64 0, .int .i64 0, .int .i64 0, .int .i64 0, .int .i64 0, .int .i64 0] 73)
  obtain ⟨y0, hy0⟩ : ∃ y0, (w.alloc (.cells #[.int .i64 a0, .int .i64 a1, .int .i64 a2, .int .i64 a3, .int .i64 a4, .int .i64 a5, .int .i64 a6, .int .i64 a7, .int .i64 a8, .int .i64 a9, .int .i64 a10, .int .i64 a11] 75)).alloc (.cells #[.int .i64 0, .int .i64 0, .int .i64 0, .int .i64 0, .int .i64 0, .int .i64 0] 73) = y0 := ⟨_, rfl⟩
  rw [hy0] at hR HUx ⊢
  clear hy0
  have HU0 := Lib.hid HUx
  clear HUx
  obtain ⟨hr0_0, hr0_1⟩ := hR
  refine wp_region_held_drew (S := fun y => y.heap[w.heap.size]? = some (.cells #[.int .i64 a0, .int .i64 a1, .int .i64 a2, .int .i64 a3, .int .i64 a4, .int .i64 a5, .int .i64 a6, .int .i64 a7, .int .i64 a8, .int .i64 a9, .int .i64 a10, .int .i64 a11] 75 (0, 0))) (by kernel_rfl) (hr0_0) (fun hS0 => ?_)
  obtain ⟨y1, hy1⟩ : ∃ y, y0.drew = y := ⟨_, rfl⟩
  have HU1 := Lib.hid (show Below w.heap.size w y1 by rw [← hy1]; exact HU0.out.drew)
  have hr1_0 : y1.heap[w.heap.size]? = some (.cells #[.int .i64 a0, .int .i64 a1, .int .i64 a2, .int .i64 a3, .int .i64 a4, .int .i64 a5, .int .i64 a6, .int .i64 a7, .int .i64 a8, .int .i64 a9, .int .i64 a10, .int .i64 a11] 75 (0, 0)) := by rw [← hy1]; exact hr0_0
  have hr1_1 : y1.heap[w.heap.size + 1]? = some (.cells #[.int .i64 0, .int .i64 0, .int .i64 0, .int .i64 0, .int .i64 0, .int .i64 0] 73 (0, 0)) := by rw [← hy1]; exact hr0_1
  rw [hy1] at hS0 ⊢
  clear hy1
  refine wpAnyH_take (i := 0) (v := ?_) rfl (by kernel_rfl) (by kernel_rfl) (by kernel_rfl) (fun _ _ _ h => h) (Or.inl ⟨by kernel_rfl, by (intro wz hSz; go_simp; try with_reducible rfl)⟩) hS0 ?_
  go_simp
  refine wpAnyH_take (i := 1) (v := ?_) rfl (by kernel_rfl) (by kernel_rfl) (by kernel_rfl) (fun _ _ _ h => h) (Or.inl ⟨by kernel_rfl, by (intro wz hSz; go_simp; try with_reducible rfl)⟩) hS0 ?_
  go_simp
  refine wpAnyH_take (i := 2) (v := ?_) rfl (by kernel_rfl) (by kernel_rfl) (by kernel_rfl) (fun _ _ _ h => h) (Or.inl ⟨by kernel_rfl, by (intro wz hSz; have c0_0 := cell_of_row _ _ 0 _ _ _ hSz; have c0_1 := cell_of_row _ _ 1 _ _ _ hSz; have c0_2 := cell_of_row _ _ 2 _ _ _ hSz; have c0_3 := cell_of_row _ _ 3 _ _ _ hSz; have c0_4 := cell_of_row _ _ 4 _ _ _ hSz; have c0_5 := cell_of_row _ _ 5 _ _ _ hSz; have c0_6 := cell_of_row _ _ 6 _ _ _ hSz; have c0_7 := cell_of_row _ _ 7 _ _ _ hSz; have c0_8 := cell_of_row _ _ 8 _ _ _ hSz; have c0_9 := cell_of_row _ _ 9 _ _ _ hSz; have c0_10 := cell_of_row _ _ 10 _ _ _ hSz; have c0_11 := cell_of_row _ _ 11 _ _ _ hSz; simp at c0_0 c0_1 c0_2 c0_3 c0_4 c0_5 c0_6 c0_7 c0_8 c0_9 c0_10 c0_11; go_simp; try with_reducible rfl)⟩) hS0 ?_
  go_simp
  refine wpAnyH_take (i := 3) (v := ?_) rfl (by kernel_rfl) (by kernel_rfl) (by kernel_rfl) (fun _ _ _ h => h) (Or.inl ⟨by kernel_rfl, by (intro wz hSz; go_simp; try with_reducible rfl)⟩) hS0 ?_
  go_simp
  refine wpAnyH_take (i := 4) (v := ?_) rfl (by kernel_rfl) (by kernel_rfl) (by kernel_rfl) (fun _ _ _ h => h) (Or.inl ⟨by kernel_rfl, by (intro wz hSz; go_simp; try with_reducible rfl)⟩) hS0 ?_
  go_simp
  refine wpAnyH_take (i := 5) (v := ?_) rfl (by kernel_rfl) (by kernel_rfl) (by kernel_rfl) (fun _ _ _ h => h) (Or.inl ⟨by kernel_rfl, by (intro wz hSz; have c0_0 := cell_of_row _ _ 0 _ _ _ hSz; have c0_1 := cell_of_row _ _ 1 _ _ _ hSz; have c0_2 := cell_of_row _ _ 2 _ _ _ hSz; have c0_3 := cell_of_row _ _ 3 _ _ _ hSz; have c0_4 := cell_of_row _ _ 4 _ _ _ hSz; have c0_5 := cell_of_row _ _ 5 _ _ _ hSz; have c0_6 := cell_of_row _ _ 6 _ _ _ hSz; have c0_7 := cell_of_row _ _ 7 _ _ _ hSz; have c0_8 := cell_of_row _ _ 8 _ _ _ hSz; have c0_9 := cell_of_row _ _ 9 _ _ _ hSz; have c0_10 := cell_of_row _ _ 10 _ _ _ hSz; have c0_11 := cell_of_row _ _ 11 _ _ _ hSz; simp at c0_0 c0_1 c0_2 c0_3 c0_4 c0_5 c0_6 c0_7 c0_8 c0_9 c0_10 c0_11; go_simp; try with_reducible rfl)⟩) hS0 ?_
  go_simp
  refine wpAnyH_take (i := 6) (v := ?_) rfl (by kernel_rfl) (by kernel_rfl) (by kernel_rfl) (fun _ _ _ h => h) (Or.inl ⟨by kernel_rfl, by (intro wz hSz; go_simp; try with_reducible rfl)⟩) hS0 ?_
  go_simp
  refine wpAnyH_take (i := 8) (v := ?_) rfl (by kernel_rfl) (by kernel_rfl) (by kernel_rfl) (fun _ _ _ h => h) (Or.inl ⟨by kernel_rfl, by (intro wz hSz; go_simp; try with_reducible rfl)⟩) hS0 ?_
  go_simp
  refine wpAnyH_take (i := 9) (v := ?_) rfl (by kernel_rfl) (by kernel_rfl) (by kernel_rfl) (fun _ _ _ h => h) (Or.inl ⟨by kernel_rfl, by (intro wz hSz; go_simp; try with_reducible rfl)⟩) hS0 ?_
  go_simp
  refine wpAnyH_take (i := 10) (v := ?_) rfl (by kernel_rfl) (by kernel_rfl) (by kernel_rfl) (fun _ _ _ h => h) (Or.inl ⟨by kernel_rfl, by (intro wz hSz; have c0_0 := cell_of_row _ _ 0 _ _ _ hSz; have c0_1 := cell_of_row _ _ 1 _ _ _ hSz; have c0_2 := cell_of_row _ _ 2 _ _ _ hSz; have c0_3 := cell_of_row _ _ 3 _ _ _ hSz; have c0_4 := cell_of_row _ _ 4 _ _ _ hSz; have c0_5 := cell_of_row _ _ 5 _ _ _ hSz; have c0_6 := cell_of_row _ _ 6 _ _ _ hSz; have c0_7 := cell_of_row _ _ 7 _ _ _ hSz; have c0_8 := cell_of_row _ _ 8 _ _ _ hSz; have c0_9 := cell_of_row _ _ 9 _ _ _ hSz; have c0_10 := cell_of_row _ _ 10 _ _ _ hSz; have c0_11 := cell_of_row _ _ 11 _ _ _ hSz; simp at c0_0 c0_1 c0_2 c0_3 c0_4 c0_5 c0_6 c0_7 c0_8 c0_9 c0_10 c0_11; go_simp; try with_reducible rfl)⟩) hS0 ?_
  go_simp
  refine wpAnyH_take (i := 11) (v := ?_) rfl (by kernel_rfl) (by kernel_rfl) (by kernel_rfl) (fun _ _ _ h => h) (Or.inl ⟨by kernel_rfl, by (intro wz hSz; go_simp; try with_reducible rfl)⟩) hS0 ?_
  go_simp
  refine wpAnyH_take (i := 12) (v := ?_) rfl (by kernel_rfl) (by kernel_rfl) (by kernel_rfl) (fun _ _ _ h => h) (Or.inl ⟨by kernel_rfl, by (intro wz hSz; go_simp; try with_reducible rfl)⟩) hS0 ?_
  go_simp
  refine wpAnyH_take (i := 13) (v := ?_) rfl (by kernel_rfl) (by kernel_rfl) (by kernel_rfl) (fun _ _ _ h => h) (Or.inl ⟨by kernel_rfl, by (intro wz hSz; have c0_0 := cell_of_row _ _ 0 _ _ _ hSz; have c0_1 := cell_of_row _ _ 1 _ _ _ hSz; have c0_2 := cell_of_row _ _ 2 _ _ _ hSz; have c0_3 := cell_of_row _ _ 3 _ _ _ hSz; have c0_4 := cell_of_row _ _ 4 _ _ _ hSz; have c0_5 := cell_of_row _ _ 5 _ _ _ hSz; have c0_6 := cell_of_row _ _ 6 _ _ _ hSz; have c0_7 := cell_of_row _ _ 7 _ _ _ hSz; have c0_8 := cell_of_row _ _ 8 _ _ _ hSz; have c0_9 := cell_of_row _ _ 9 _ _ _ hSz; have c0_10 := cell_of_row _ _ 10 _ _ _ hSz; have c0_11 := cell_of_row _ _ 11 _ _ _ hSz; simp at c0_0 c0_1 c0_2 c0_3 c0_4 c0_5 c0_6 c0_7 c0_8 c0_9 c0_10 c0_11; go_simp; try with_reducible rfl)⟩) hS0 ?_
  go_simp
  refine wpAnyH_take (i := 14) (v := ?_) rfl (by kernel_rfl) (by kernel_rfl) (by kernel_rfl) (fun _ _ _ h => h) (Or.inl ⟨by kernel_rfl, by (intro wz hSz; go_simp; try with_reducible rfl)⟩) hS0 ?_
  go_simp
  refine wpAnyH_ready (rs := [7]) (by kernel_rfl) (by simp) ?_
  refine AllReadyH.cons rfl (fun K hK => ?_) AllReadyH.nil
  go_simp
  go_wp2_with (go_at_call 65; refine (mix_any _ _ _ _ _ _ _ _).mono ?_; rintro e y2 ⟨rfl, hb2⟩)
  have hr2_0 := (hb2.block _ (lt_heap hr1_0)).trans hr1_0
  have hr2_1 := (hb2.block _ (lt_heap hr1_1)).trans hr1_1
  have HU2 := Lib.hid (HU1.out.trans (hb2.mono HU1.out.size))
  refine hK.out _ _ ((hb2.block _ (lt_heap hS0)).trans hS0) (fun hS2c => ?_)
  clear hK K
  refine wpAnyH_ready (rs := [15]) (by kernel_rfl) (by simp) ?_
  refine AllReadyH.cons rfl (fun K hK => ?_) AllReadyH.nil
  go_simp
  go_wp2_with (go_at_call 65; refine (mix_any _ _ _ _ _ _ _ _).mono ?_; rintro e y3 ⟨rfl, hb3⟩)
  have hr3_0 := (hb3.block _ (lt_heap hr2_0)).trans hr2_0
  have hr3_1 := (hb3.block _ (lt_heap hr2_1)).trans hr2_1
  have HU3 := Lib.hid (HU2.out.trans (hb3.mono HU2.out.size))
  refine hK.out _ _ ((hb3.block _ (lt_heap hS2c)).trans hS2c) (fun hS3c => ?_)
  clear hK K
  refine wpAnyH_take (i := 16) (v := ?_) rfl (by kernel_rfl) (by kernel_rfl) (by kernel_rfl) (fun _ _ _ h => h) (Or.inl ⟨by kernel_rfl, by (intro wz hSz; go_simp; try with_reducible rfl)⟩) hS3c ?_
  go_simp
  refine wpAnyH_ready (rs := [17]) (by kernel_rfl) (by simp) ?_
  refine AllReadyH.cons rfl (fun K hK => ?_) AllReadyH.nil
  refine step_store_row rfl 73 (.tmp 4) (.tmp 21) rfl #[.int .i64 0, .int .i64 0, .int .i64 0, .int .i64 0, .int .i64 0, .int .i64 0] #[.int .i64 (Pl.lerp a0 a6 t), .int .i64 (Pl.lerp a1 a7 t), .int .i64 (Pl.lerp a2 a8 t), .int .i64 (Pl.lerp a3 a9 t), .int .i64 (Pl.lerp a4 a10 t), .int .i64 (Pl.lerp a5 a11 t)] _ 73 hr3_1 rfl (by first | rfl | (go_simp; done) | (go_simp; rfl)) (by kernel_rfl) rfl (by simp [Value.oneCell']) ?_
  have hN := setRow_heap _ (w.heap.size + 1) _ #[.int .i64 (Pl.lerp a0 a6 t), .int .i64 (Pl.lerp a1 a7 t), .int .i64 (Pl.lerp a2 a8 t), .int .i64 (Pl.lerp a3 a9 t), .int .i64 (Pl.lerp a4 a10 t), .int .i64 (Pl.lerp a5 a11 t)] _ _ hr3_1
  have hsz := HU3.out.size
  have HUx := below_setRow (g := w.heap.size + 1) HU3.out (by first | omega | (simp at *; omega)) #[.int .i64 (Pl.lerp a0 a6 t), .int .i64 (Pl.lerp a1 a7 t), .int .i64 (Pl.lerp a2 a8 t), .int .i64 (Pl.lerp a3 a9 t), .int .i64 (Pl.lerp a4 a10 t), .int .i64 (Pl.lerp a5 a11 t)]
  obtain ⟨y4, hy4⟩ : ∃ y, y3.setRow (w.heap.size + 1) #[.int .i64 (Pl.lerp a0 a6 t), .int .i64 (Pl.lerp a1 a7 t), .int .i64 (Pl.lerp a2 a8 t), .int .i64 (Pl.lerp a3 a9 t), .int .i64 (Pl.lerp a4 a10 t), .int .i64 (Pl.lerp a5 a11 t)] = y := ⟨_, rfl⟩
  have hO : ∀ k, k ≠ w.heap.size + 1 → y4.heap[k]? = y3.heap[k]? := fun k hk => by rw [← hy4]; exact setRow_other _ _ _ _ hk
  rw [hy4] at hN HUx ⊢
  clear hy4
  have HU4 := Lib.hid HUx
  clear HUx
  have hr4_0 := (hO _ (by omega)).trans hr3_0
  have hr4_1 := hN
  clear hN
  refine hK.out _ _ ((hO _ (by omega)).trans hS3c) (fun hS4s => ?_)
  clear hK K
  refine wpAnyH_done (by kernel_rfl) ?_ _
  have c1_0 := cell_of_row _ _ 0 _ _ _ hr4_1
  have c1_1 := cell_of_row _ _ 1 _ _ _ hr4_1
  have c1_2 := cell_of_row _ _ 2 _ _ _ hr4_1
  have c1_3 := cell_of_row _ _ 3 _ _ _ hr4_1
  have c1_4 := cell_of_row _ _ 4 _ _ _ hr4_1
  have c1_5 := cell_of_row _ _ 5 _ _ _ hr4_1
  simp at c1_0 c1_1 c1_2 c1_3 c1_4 c1_5
  go_wp2
  exact bodyPost_ret (v := .agg #[.int .i64 (Pl.lerp a0 a6 t), .int .i64 (Pl.lerp a1 a7 t), .int .i64 (Pl.lerp a2 a8 t), .int .i64 (Pl.lerp a3 a9 t), .int .i64 (Pl.lerp a4 a10 t), .int .i64 (Pl.lerp a5 a11 t)]) (by simp [results, Try.results17, go_sem, c1_0, c1_1, c1_2, c1_3, c1_4, c1_5]) rfl ⟨rfl, HU4.out⟩

set_option maxHeartbeats 2000000 in
set_option maxRecDepth 100000 in
theorem rpat_any (a0 a1 a2 a3 a4 a5 a6 a7 a8 a9 a10 a11 t : Int) (w : World)  : Calls Try.prog 18 #[.agg #[.int .i64 a0, .int .i64 a1, .int .i64 a2, .int .i64 a3, .int .i64 a4, .int .i64 a5, .int .i64 a6, .int .i64 a7, .int .i64 a8, .int .i64 a9, .int .i64 a10, .int .i64 a11], .int .i64 t] w fun e' w' => e' = .returned (.agg #[.int .i64 (Pl.lerp a0 a6 t), .int .i64 (Pl.lerp a1 a7 t), .int .i64 (Pl.lerp a2 a8 t), .int .i64 (Pl.lerp a3 a9 t), .int .i64 (Pl.lerp a4 a10 t), .int .i64 (Pl.lerp a5 a11 t)]) ∧ Below w.heap.size w w' := by
  go_enter Try.func18, Try.ntmps18
  go_upto_region 1 with fail
  have hR := Au.rows2 w (.cells #[.int .i64 a0, .int .i64 a1, .int .i64 a2, .int .i64 a3, .int .i64 a4, .int .i64 a5, .int .i64 a6, .int .i64 a7, .int .i64 a8, .int .i64 a9, .int .i64 a10, .int .i64 a11] 69) (.cells #[.int .i64 0, .int .i64 0, .int .i64 0, .int .i64 0, .int .i64 0, .int .i64 0] 67)
  have HUx := below_n2 w (.cells #[.int .i64 a0, .int .i64 a1, .int .i64 a2, .int .i64 a3, .int .i64 a4, .int .i64 a5, .int .i64 a6, .int .i64 a7, .int .i64 a8, .int .i64 a9, .int .i64 a10, .int .i64 a11] 69) (.cells #[.int .i64 0, .int .i64 0, .int .i64 0, .int .i64 0, .int .i64 0, .int .i64 0] 67)
  obtain ⟨y0, hy0⟩ : ∃ y0, (w.alloc (.cells #[.int .i64 a0, .int .i64 a1, .int .i64 a2, .int .i64 a3, .int .i64 a4, .int .i64 a5, .int .i64 a6, .int .i64 a7, .int .i64 a8, .int .i64 a9, .int .i64 a10, .int .i64 a11] 69)).alloc (.cells #[.int .i64 0, .int .i64 0, .int .i64 0, .int .i64 0, .int .i64 0, .int .i64 0] 67) = y0 := ⟨_, rfl⟩
  rw [hy0] at hR HUx ⊢
  clear hy0
  have HU0 := Lib.hid HUx
  clear HUx
  obtain ⟨hr0_0, hr0_1⟩ := hR
  refine wp_region_held_drew (S := fun y => y.heap[w.heap.size]? = some (.cells #[.int .i64 a0, .int .i64 a1, .int .i64 a2, .int .i64 a3, .int .i64 a4, .int .i64 a5, .int .i64 a6, .int .i64 a7, .int .i64 a8, .int .i64 a9, .int .i64 a10, .int .i64 a11] 69 (0, 0))) (by kernel_rfl) (hr0_0) (fun hS0 => ?_)
  obtain ⟨y1, hy1⟩ : ∃ y, y0.drew = y := ⟨_, rfl⟩
  have HU1 := Lib.hid (show Below w.heap.size w y1 by rw [← hy1]; exact HU0.out.drew)
  have hr1_0 : y1.heap[w.heap.size]? = some (.cells #[.int .i64 a0, .int .i64 a1, .int .i64 a2, .int .i64 a3, .int .i64 a4, .int .i64 a5, .int .i64 a6, .int .i64 a7, .int .i64 a8, .int .i64 a9, .int .i64 a10, .int .i64 a11] 69 (0, 0)) := by rw [← hy1]; exact hr0_0
  have hr1_1 : y1.heap[w.heap.size + 1]? = some (.cells #[.int .i64 0, .int .i64 0, .int .i64 0, .int .i64 0, .int .i64 0, .int .i64 0] 67 (0, 0)) := by rw [← hy1]; exact hr0_1
  rw [hy1] at hS0 ⊢
  clear hy1
  refine wpAnyH_take (i := 0) (v := ?_) rfl (by kernel_rfl) (by kernel_rfl) (by kernel_rfl) (fun _ _ _ h => h) (Or.inl ⟨by kernel_rfl, by (intro wz hSz; go_simp; try with_reducible rfl)⟩) hS0 ?_
  go_simp
  refine wpAnyH_take (i := 1) (v := ?_) rfl (by kernel_rfl) (by kernel_rfl) (by kernel_rfl) (fun _ _ _ h => h) (Or.inl ⟨by kernel_rfl, by (intro wz hSz; go_simp; try with_reducible rfl)⟩) hS0 ?_
  go_simp
  refine wpAnyH_take (i := 2) (v := ?_) rfl (by kernel_rfl) (by kernel_rfl) (by kernel_rfl) (fun _ _ _ h => h) (Or.inl ⟨by kernel_rfl, by (intro wz hSz; have c0_0 := cell_of_row _ _ 0 _ _ _ hSz; have c0_1 := cell_of_row _ _ 1 _ _ _ hSz; have c0_2 := cell_of_row _ _ 2 _ _ _ hSz; have c0_3 := cell_of_row _ _ 3 _ _ _ hSz; have c0_4 := cell_of_row _ _ 4 _ _ _ hSz; have c0_5 := cell_of_row _ _ 5 _ _ _ hSz; have c0_6 := cell_of_row _ _ 6 _ _ _ hSz; have c0_7 := cell_of_row _ _ 7 _ _ _ hSz; have c0_8 := cell_of_row _ _ 8 _ _ _ hSz; have c0_9 := cell_of_row _ _ 9 _ _ _ hSz; have c0_10 := cell_of_row _ _ 10 _ _ _ hSz; have c0_11 := cell_of_row _ _ 11 _ _ _ hSz; simp at c0_0 c0_1 c0_2 c0_3 c0_4 c0_5 c0_6 c0_7 c0_8 c0_9 c0_10 c0_11; go_simp; try with_reducible rfl)⟩) hS0 ?_
  go_simp
  refine wpAnyH_take (i := 3) (v := ?_) rfl (by kernel_rfl) (by kernel_rfl) (by kernel_rfl) (fun _ _ _ h => h) (Or.inl ⟨by kernel_rfl, by (intro wz hSz; go_simp; try with_reducible rfl)⟩) hS0 ?_
  go_simp
  refine wpAnyH_take (i := 4) (v := ?_) rfl (by kernel_rfl) (by kernel_rfl) (by kernel_rfl) (fun _ _ _ h => h) (Or.inl ⟨by kernel_rfl, by (intro wz hSz; go_simp; try with_reducible rfl)⟩) hS0 ?_
  go_simp
  refine wpAnyH_take (i := 5) (v := ?_) rfl (by kernel_rfl) (by kernel_rfl) (by kernel_rfl) (fun _ _ _ h => h) (Or.inl ⟨by kernel_rfl, by (intro wz hSz; have c0_0 := cell_of_row _ _ 0 _ _ _ hSz; have c0_1 := cell_of_row _ _ 1 _ _ _ hSz; have c0_2 := cell_of_row _ _ 2 _ _ _ hSz; have c0_3 := cell_of_row _ _ 3 _ _ _ hSz; have c0_4 := cell_of_row _ _ 4 _ _ _ hSz; have c0_5 := cell_of_row _ _ 5 _ _ _ hSz; have c0_6 := cell_of_row _ _ 6 _ _ _ hSz; have c0_7 := cell_of_row _ _ 7 _ _ _ hSz; have c0_8 := cell_of_row _ _ 8 _ _ _ hSz; have c0_9 := cell_of_row _ _ 9 _ _ _ hSz; have c0_10 := cell_of_row _ _ 10 _ _ _ hSz; have c0_11 := cell_of_row _ _ 11 _ _ _ hSz; simp at c0_0 c0_1 c0_2 c0_3 c0_4 c0_5 c0_6 c0_7 c0_8 c0_9 c0_10 c0_11; go_simp; try with_reducible rfl)⟩) hS0 ?_
  go_simp
  refine wpAnyH_take (i := 6) (v := ?_) rfl (by kernel_rfl) (by kernel_rfl) (by kernel_rfl) (fun _ _ _ h => h) (Or.inl ⟨by kernel_rfl, by (intro wz hSz; go_simp; try with_reducible rfl)⟩) hS0 ?_
  go_simp
  refine wpAnyH_take (i := 8) (v := ?_) rfl (by kernel_rfl) (by kernel_rfl) (by kernel_rfl) (fun _ _ _ h => h) (Or.inl ⟨by kernel_rfl, by (intro wz hSz; go_simp; try with_reducible rfl)⟩) hS0 ?_
  go_simp
  refine wpAnyH_take (i := 9) (v := ?_) rfl (by kernel_rfl) (by kernel_rfl) (by kernel_rfl) (fun _ _ _ h => h) (Or.inl ⟨by kernel_rfl, by (intro wz hSz; go_simp; try with_reducible rfl)⟩) hS0 ?_
  go_simp
  refine wpAnyH_take (i := 10) (v := ?_) rfl (by kernel_rfl) (by kernel_rfl) (by kernel_rfl) (fun _ _ _ h => h) (Or.inl ⟨by kernel_rfl, by (intro wz hSz; have c0_0 := cell_of_row _ _ 0 _ _ _ hSz; have c0_1 := cell_of_row _ _ 1 _ _ _ hSz; have c0_2 := cell_of_row _ _ 2 _ _ _ hSz; have c0_3 := cell_of_row _ _ 3 _ _ _ hSz; have c0_4 := cell_of_row _ _ 4 _ _ _ hSz; have c0_5 := cell_of_row _ _ 5 _ _ _ hSz; have c0_6 := cell_of_row _ _ 6 _ _ _ hSz; have c0_7 := cell_of_row _ _ 7 _ _ _ hSz; have c0_8 := cell_of_row _ _ 8 _ _ _ hSz; have c0_9 := cell_of_row _ _ 9 _ _ _ hSz; have c0_10 := cell_of_row _ _ 10 _ _ _ hSz; have c0_11 := cell_of_row _ _ 11 _ _ _ hSz; simp at c0_0 c0_1 c0_2 c0_3 c0_4 c0_5 c0_6 c0_7 c0_8 c0_9 c0_10 c0_11; go_simp; try with_reducible rfl)⟩) hS0 ?_
  go_simp
  refine wpAnyH_take (i := 11) (v := ?_) rfl (by kernel_rfl) (by kernel_rfl) (by kernel_rfl) (fun _ _ _ h => h) (Or.inl ⟨by kernel_rfl, by (intro wz hSz; go_simp; try with_reducible rfl)⟩) hS0 ?_
  go_simp
  refine wpAnyH_take (i := 12) (v := ?_) rfl (by kernel_rfl) (by kernel_rfl) (by kernel_rfl) (fun _ _ _ h => h) (Or.inl ⟨by kernel_rfl, by (intro wz hSz; go_simp; try with_reducible rfl)⟩) hS0 ?_
  go_simp
  refine wpAnyH_take (i := 13) (v := ?_) rfl (by kernel_rfl) (by kernel_rfl) (by kernel_rfl) (fun _ _ _ h => h) (Or.inl ⟨by kernel_rfl, by (intro wz hSz; have c0_0 := cell_of_row _ _ 0 _ _ _ hSz; have c0_1 := cell_of_row _ _ 1 _ _ _ hSz; have c0_2 := cell_of_row _ _ 2 _ _ _ hSz; have c0_3 := cell_of_row _ _ 3 _ _ _ hSz; have c0_4 := cell_of_row _ _ 4 _ _ _ hSz; have c0_5 := cell_of_row _ _ 5 _ _ _ hSz; have c0_6 := cell_of_row _ _ 6 _ _ _ hSz; have c0_7 := cell_of_row _ _ 7 _ _ _ hSz; have c0_8 := cell_of_row _ _ 8 _ _ _ hSz; have c0_9 := cell_of_row _ _ 9 _ _ _ hSz; have c0_10 := cell_of_row _ _ 10 _ _ _ hSz; have c0_11 := cell_of_row _ _ 11 _ _ _ hSz; simp at c0_0 c0_1 c0_2 c0_3 c0_4 c0_5 c0_6 c0_7 c0_8 c0_9 c0_10 c0_11; go_simp; try with_reducible rfl)⟩) hS0 ?_
  go_simp
  refine wpAnyH_take (i := 14) (v := ?_) rfl (by kernel_rfl) (by kernel_rfl) (by kernel_rfl) (fun _ _ _ h => h) (Or.inl ⟨by kernel_rfl, by (intro wz hSz; go_simp; try with_reducible rfl)⟩) hS0 ?_
  go_simp
  refine wpAnyH_ready (rs := [7]) (by kernel_rfl) (by simp) ?_
  refine AllReadyH.cons rfl (fun K hK => ?_) AllReadyH.nil
  go_simp
  go_wp2_with (go_at_call 66; refine (rmix_any _ _ _ _ _ _ _ _).mono ?_; rintro e y2 ⟨rfl, hb2⟩)
  have hr2_0 := (hb2.block _ (lt_heap hr1_0)).trans hr1_0
  have hr2_1 := (hb2.block _ (lt_heap hr1_1)).trans hr1_1
  have HU2 := Lib.hid (HU1.out.trans (hb2.mono HU1.out.size))
  refine hK.out _ _ ((hb2.block _ (lt_heap hS0)).trans hS0) (fun hS2c => ?_)
  clear hK K
  refine wpAnyH_ready (rs := [15]) (by kernel_rfl) (by simp) ?_
  refine AllReadyH.cons rfl (fun K hK => ?_) AllReadyH.nil
  go_simp
  go_wp2_with (go_at_call 66; refine (rmix_any _ _ _ _ _ _ _ _).mono ?_; rintro e y3 ⟨rfl, hb3⟩)
  have hr3_0 := (hb3.block _ (lt_heap hr2_0)).trans hr2_0
  have hr3_1 := (hb3.block _ (lt_heap hr2_1)).trans hr2_1
  have HU3 := Lib.hid (HU2.out.trans (hb3.mono HU2.out.size))
  refine hK.out _ _ ((hb3.block _ (lt_heap hS2c)).trans hS2c) (fun hS3c => ?_)
  clear hK K
  refine wpAnyH_take (i := 16) (v := ?_) rfl (by kernel_rfl) (by kernel_rfl) (by kernel_rfl) (fun _ _ _ h => h) (Or.inl ⟨by kernel_rfl, by (intro wz hSz; go_simp; try with_reducible rfl)⟩) hS3c ?_
  go_simp
  refine wpAnyH_ready (rs := [17]) (by kernel_rfl) (by simp) ?_
  refine AllReadyH.cons rfl (fun K hK => ?_) AllReadyH.nil
  refine step_store_row rfl 67 (.tmp 4) (.tmp 21) rfl #[.int .i64 0, .int .i64 0, .int .i64 0, .int .i64 0, .int .i64 0, .int .i64 0] #[.int .i64 (Pl.lerp a0 a6 t), .int .i64 (Pl.lerp a1 a7 t), .int .i64 (Pl.lerp a2 a8 t), .int .i64 (Pl.lerp a3 a9 t), .int .i64 (Pl.lerp a4 a10 t), .int .i64 (Pl.lerp a5 a11 t)] _ 67 hr3_1 rfl (by first | rfl | (go_simp; done) | (go_simp; rfl)) (by kernel_rfl) rfl (by simp [Value.oneCell']) ?_
  have hN := setRow_heap _ (w.heap.size + 1) _ #[.int .i64 (Pl.lerp a0 a6 t), .int .i64 (Pl.lerp a1 a7 t), .int .i64 (Pl.lerp a2 a8 t), .int .i64 (Pl.lerp a3 a9 t), .int .i64 (Pl.lerp a4 a10 t), .int .i64 (Pl.lerp a5 a11 t)] _ _ hr3_1
  have hsz := HU3.out.size
  have HUx := below_setRow (g := w.heap.size + 1) HU3.out (by first | omega | (simp at *; omega)) #[.int .i64 (Pl.lerp a0 a6 t), .int .i64 (Pl.lerp a1 a7 t), .int .i64 (Pl.lerp a2 a8 t), .int .i64 (Pl.lerp a3 a9 t), .int .i64 (Pl.lerp a4 a10 t), .int .i64 (Pl.lerp a5 a11 t)]
  obtain ⟨y4, hy4⟩ : ∃ y, y3.setRow (w.heap.size + 1) #[.int .i64 (Pl.lerp a0 a6 t), .int .i64 (Pl.lerp a1 a7 t), .int .i64 (Pl.lerp a2 a8 t), .int .i64 (Pl.lerp a3 a9 t), .int .i64 (Pl.lerp a4 a10 t), .int .i64 (Pl.lerp a5 a11 t)] = y := ⟨_, rfl⟩
  have hO : ∀ k, k ≠ w.heap.size + 1 → y4.heap[k]? = y3.heap[k]? := fun k hk => by rw [← hy4]; exact setRow_other _ _ _ _ hk
  rw [hy4] at hN HUx ⊢
  clear hy4
  have HU4 := Lib.hid HUx
  clear HUx
  have hr4_0 := (hO _ (by omega)).trans hr3_0
  have hr4_1 := hN
  clear hN
  refine hK.out _ _ ((hO _ (by omega)).trans hS3c) (fun hS4s => ?_)
  clear hK K
  refine wpAnyH_done (by kernel_rfl) ?_ _
  have c1_0 := cell_of_row _ _ 0 _ _ _ hr4_1
  have c1_1 := cell_of_row _ _ 1 _ _ _ hr4_1
  have c1_2 := cell_of_row _ _ 2 _ _ _ hr4_1
  have c1_3 := cell_of_row _ _ 3 _ _ _ hr4_1
  have c1_4 := cell_of_row _ _ 4 _ _ _ hr4_1
  have c1_5 := cell_of_row _ _ 5 _ _ _ hr4_1
  simp at c1_0 c1_1 c1_2 c1_3 c1_4 c1_5
  go_wp2
  exact bodyPost_ret (v := .agg #[.int .i64 (Pl.lerp a0 a6 t), .int .i64 (Pl.lerp a1 a7 t), .int .i64 (Pl.lerp a2 a8 t), .int .i64 (Pl.lerp a3 a9 t), .int .i64 (Pl.lerp a4 a10 t), .int .i64 (Pl.lerp a5 a11 t)]) (by simp [results, Try.results18, go_sem, c1_0, c1_1, c1_2, c1_3, c1_4, c1_5]) rfl ⟨rfl, HU4.out⟩

set_option maxHeartbeats 2000000 in
set_option maxRecDepth 100000 in
theorem bwider_any (a b c d e f t : Int) (w : World)  : Calls Try.prog 94 #[.agg #[.int .i64 a, .int .i64 b, .int .i64 c, .int .i64 d, .int .i64 e, .int .i64 f], .int .i64 t] w fun e' w' => e' = .returned (.agg #[.int .i64 (Pl.sub a t), .int .i64 (Pl.sub b t), .int .i64 (Pl.sub c t), .int .i64 (Pl.add d t), .int .i64 (Pl.add e t), .int .i64 (Pl.add f t)]) ∧ Below w.heap.size w w' := by
  go_enter Try.func94, Try.ntmps94
  go_upto_region 1 with fail
  have hR := Au.rows2 w (.cells #[.int .i64 a, .int .i64 b, .int .i64 c, .int .i64 d, .int .i64 e, .int .i64 f] 73) (.cells #[.int .i64 0, .int .i64 0, .int .i64 0, .int .i64 0, .int .i64 0, .int .i64 0] 73)
  have HUx := below_n2 w (.cells #[.int .i64 a, .int .i64 b, .int .i64 c, .int .i64 d, .int .i64 e, .int .i64 f] 73) (.cells #[.int .i64 0, .int .i64 0, .int .i64 0, .int .i64 0, .int .i64 0, .int .i64 0] 73)
  obtain ⟨y0, hy0⟩ : ∃ y0, (w.alloc (.cells #[.int .i64 a, .int .i64 b, .int .i64 c, .int .i64 d, .int .i64 e, .int .i64 f] 73)).alloc (.cells #[.int .i64 0, .int .i64 0, .int .i64 0, .int .i64 0, .int .i64 0, .int .i64 0] 73) = y0 := ⟨_, rfl⟩
  rw [hy0] at hR HUx ⊢
  clear hy0
  have HU0 := Lib.hid HUx
  clear HUx
  obtain ⟨hr0_0, hr0_1⟩ := hR
  refine wp_region_held_drew (S := fun y => y.heap[w.heap.size]? = some (.cells #[.int .i64 a, .int .i64 b, .int .i64 c, .int .i64 d, .int .i64 e, .int .i64 f] 73 (0, 0))) (by kernel_rfl) (hr0_0) (fun hS0 => ?_)
  obtain ⟨y1, hy1⟩ : ∃ y, y0.drew = y := ⟨_, rfl⟩
  have HU1 := Lib.hid (show Below w.heap.size w y1 by rw [← hy1]; exact HU0.out.drew)
  have hr1_0 : y1.heap[w.heap.size]? = some (.cells #[.int .i64 a, .int .i64 b, .int .i64 c, .int .i64 d, .int .i64 e, .int .i64 f] 73 (0, 0)) := by rw [← hy1]; exact hr0_0
  have hr1_1 : y1.heap[w.heap.size + 1]? = some (.cells #[.int .i64 0, .int .i64 0, .int .i64 0, .int .i64 0, .int .i64 0, .int .i64 0] 73 (0, 0)) := by rw [← hy1]; exact hr0_1
  rw [hy1] at hS0 ⊢
  clear hy1
  refine wpAnyH_take (i := 0) (v := ?_) rfl (by kernel_rfl) (by kernel_rfl) (by kernel_rfl) (fun _ _ _ h => h) (Or.inl ⟨by kernel_rfl, by (intro wz hSz; go_simp; try with_reducible rfl)⟩) hS0 ?_
  go_simp
  refine wpAnyH_take (i := 1) (v := ?_) rfl (by kernel_rfl) (by kernel_rfl) (by kernel_rfl) (fun _ _ _ h => h) (Or.inl ⟨by kernel_rfl, by (intro wz hSz; have c0_0 := cell_of_row _ _ 0 _ _ _ hSz; have c0_1 := cell_of_row _ _ 1 _ _ _ hSz; have c0_2 := cell_of_row _ _ 2 _ _ _ hSz; have c0_3 := cell_of_row _ _ 3 _ _ _ hSz; have c0_4 := cell_of_row _ _ 4 _ _ _ hSz; have c0_5 := cell_of_row _ _ 5 _ _ _ hSz; simp at c0_0 c0_1 c0_2 c0_3 c0_4 c0_5; go_simp; try with_reducible rfl)⟩) hS0 ?_
  go_simp
  refine wpAnyH_take (i := 2) (v := ?_) rfl (by kernel_rfl) (by kernel_rfl) (by kernel_rfl) (fun _ _ _ h => h) (Or.inl ⟨by kernel_rfl, by (intro wz hSz; go_simp; try with_reducible rfl)⟩) hS0 ?_
  go_simp
  refine wpAnyH_take (i := 5) (v := ?_) rfl (by kernel_rfl) (by kernel_rfl) (by kernel_rfl) (fun _ _ _ h => h) (Or.inl ⟨by kernel_rfl, by (intro wz hSz; go_simp; try with_reducible rfl)⟩) hS0 ?_
  go_simp
  refine wpAnyH_take (i := 6) (v := ?_) rfl (by kernel_rfl) (by kernel_rfl) (by kernel_rfl) (fun _ _ _ h => h) (Or.inl ⟨by kernel_rfl, by (intro wz hSz; have c0_0 := cell_of_row _ _ 0 _ _ _ hSz; have c0_1 := cell_of_row _ _ 1 _ _ _ hSz; have c0_2 := cell_of_row _ _ 2 _ _ _ hSz; have c0_3 := cell_of_row _ _ 3 _ _ _ hSz; have c0_4 := cell_of_row _ _ 4 _ _ _ hSz; have c0_5 := cell_of_row _ _ 5 _ _ _ hSz; simp at c0_0 c0_1 c0_2 c0_3 c0_4 c0_5; go_simp; try with_reducible rfl)⟩) hS0 ?_
  go_simp
  refine wpAnyH_take (i := 7) (v := ?_) rfl (by kernel_rfl) (by kernel_rfl) (by kernel_rfl) (fun _ _ _ h => h) (Or.inl ⟨by kernel_rfl, by (intro wz hSz; go_simp; try with_reducible rfl)⟩) hS0 ?_
  go_simp
  refine wpAnyH_ready (rs := [3]) (by kernel_rfl) (by simp) ?_
  refine AllReadyH.cons rfl (fun K hK => ?_) AllReadyH.nil
  go_simp
  go_wp2_with (go_at_call 69; refine (alike_any _ _).mono ?_; rintro e y2 ⟨rfl, hb2⟩)
  have hr2_0 := (hb2.block _ (lt_heap hr1_0)).trans hr1_0
  have hr2_1 := (hb2.block _ (lt_heap hr1_1)).trans hr1_1
  have HU2 := Lib.hid (HU1.out.trans (hb2.mono HU1.out.size))
  refine hK.out _ _ ((hb2.block _ (lt_heap hS0)).trans hS0) (fun hS2c => ?_)
  clear hK K
  refine wpAnyH_ready (rs := [4]) (by kernel_rfl) (by simp) ?_
  refine AllReadyH.cons rfl (fun K hK => ?_) AllReadyH.nil
  go_simp
  go_wp2_with (go_at_call 86; refine (vsub_any _ _ _ _ _ _ _).mono ?_; rintro e y3 ⟨rfl, hb3⟩)
  have hr3_0 := (hb3.block _ (lt_heap hr2_0)).trans hr2_0
  have hr3_1 := (hb3.block _ (lt_heap hr2_1)).trans hr2_1
  have HU3 := Lib.hid (HU2.out.trans (hb3.mono HU2.out.size))
  refine hK.out _ _ ((hb3.block _ (lt_heap hS2c)).trans hS2c) (fun hS3c => ?_)
  clear hK K
  refine wpAnyH_ready (rs := [8]) (by kernel_rfl) (by simp) ?_
  refine AllReadyH.cons rfl (fun K hK => ?_) AllReadyH.nil
  go_simp
  go_wp2_with (go_at_call 69; refine (alike_any _ _).mono ?_; rintro e y4 ⟨rfl, hb4⟩)
  have hr4_0 := (hb4.block _ (lt_heap hr3_0)).trans hr3_0
  have hr4_1 := (hb4.block _ (lt_heap hr3_1)).trans hr3_1
  have HU4 := Lib.hid (HU3.out.trans (hb4.mono HU3.out.size))
  refine hK.out _ _ ((hb4.block _ (lt_heap hS3c)).trans hS3c) (fun hS4c => ?_)
  clear hK K
  refine wpAnyH_ready (rs := [9]) (by kernel_rfl) (by simp) ?_
  refine AllReadyH.cons rfl (fun K hK => ?_) AllReadyH.nil
  go_simp
  go_wp2_with (go_at_call 80; refine (vadd_any _ _ _ _ _ _ _).mono ?_; rintro e y5 ⟨rfl, hb5⟩)
  have hr5_0 := (hb5.block _ (lt_heap hr4_0)).trans hr4_0
  have hr5_1 := (hb5.block _ (lt_heap hr4_1)).trans hr4_1
  have HU5 := Lib.hid (HU4.out.trans (hb5.mono HU4.out.size))
  refine hK.out _ _ ((hb5.block _ (lt_heap hS4c)).trans hS4c) (fun hS5c => ?_)
  clear hK K
  refine wpAnyH_take (i := 10) (v := ?_) rfl (by kernel_rfl) (by kernel_rfl) (by kernel_rfl) (fun _ _ _ h => h) (Or.inl ⟨by kernel_rfl, by (intro wz hSz; go_simp; try with_reducible rfl)⟩) hS5c ?_
  go_simp
  refine wpAnyH_ready (rs := [11]) (by kernel_rfl) (by simp) ?_
  refine AllReadyH.cons rfl (fun K hK => ?_) AllReadyH.nil
  refine step_store_row rfl 73 (.tmp 4) (.tmp 15) rfl #[.int .i64 0, .int .i64 0, .int .i64 0, .int .i64 0, .int .i64 0, .int .i64 0] #[.int .i64 (Pl.sub a t), .int .i64 (Pl.sub b t), .int .i64 (Pl.sub c t), .int .i64 (Pl.add d t), .int .i64 (Pl.add e t), .int .i64 (Pl.add f t)] _ 73 hr5_1 rfl (by first | rfl | (go_simp; done) | (go_simp; rfl)) (by kernel_rfl) rfl (by simp [Value.oneCell']) ?_
  have hN := setRow_heap _ (w.heap.size + 1) _ #[.int .i64 (Pl.sub a t), .int .i64 (Pl.sub b t), .int .i64 (Pl.sub c t), .int .i64 (Pl.add d t), .int .i64 (Pl.add e t), .int .i64 (Pl.add f t)] _ _ hr5_1
  have hsz := HU5.out.size
  have HUx := below_setRow (g := w.heap.size + 1) HU5.out (by first | omega | (simp at *; omega)) #[.int .i64 (Pl.sub a t), .int .i64 (Pl.sub b t), .int .i64 (Pl.sub c t), .int .i64 (Pl.add d t), .int .i64 (Pl.add e t), .int .i64 (Pl.add f t)]
  obtain ⟨y6, hy6⟩ : ∃ y, y5.setRow (w.heap.size + 1) #[.int .i64 (Pl.sub a t), .int .i64 (Pl.sub b t), .int .i64 (Pl.sub c t), .int .i64 (Pl.add d t), .int .i64 (Pl.add e t), .int .i64 (Pl.add f t)] = y := ⟨_, rfl⟩
  have hO : ∀ k, k ≠ w.heap.size + 1 → y6.heap[k]? = y5.heap[k]? := fun k hk => by rw [← hy6]; exact setRow_other _ _ _ _ hk
  rw [hy6] at hN HUx ⊢
  clear hy6
  have HU6 := Lib.hid HUx
  clear HUx
  have hr6_0 := (hO _ (by omega)).trans hr5_0
  have hr6_1 := hN
  clear hN
  refine hK.out _ _ ((hO _ (by omega)).trans hS5c) (fun hS6s => ?_)
  clear hK K
  refine wpAnyH_done (by kernel_rfl) ?_ _
  have c1_0 := cell_of_row _ _ 0 _ _ _ hr6_1
  have c1_1 := cell_of_row _ _ 1 _ _ _ hr6_1
  have c1_2 := cell_of_row _ _ 2 _ _ _ hr6_1
  have c1_3 := cell_of_row _ _ 3 _ _ _ hr6_1
  have c1_4 := cell_of_row _ _ 4 _ _ _ hr6_1
  have c1_5 := cell_of_row _ _ 5 _ _ _ hr6_1
  simp at c1_0 c1_1 c1_2 c1_3 c1_4 c1_5
  go_wp2
  exact bodyPost_ret (v := .agg #[.int .i64 (Pl.sub a t), .int .i64 (Pl.sub b t), .int .i64 (Pl.sub c t), .int .i64 (Pl.add d t), .int .i64 (Pl.add e t), .int .i64 (Pl.add f t)]) (by simp [results, Try.results94, go_sem, c1_0, c1_1, c1_2, c1_3, c1_4, c1_5]) rfl ⟨rfl, HU6.out⟩

set_option maxHeartbeats 2000000 in
set_option maxRecDepth 100000 in
theorem rwider_any (a b c d e f t : Int) (w : World)  : Calls Try.prog 139 #[B6 a b c d e f, .int .i64 t] w fun e' w' => e' = .returned (.agg #[.int .i64 (Pl.sub a t), .int .i64 (Pl.sub b t), .int .i64 (Pl.sub c t), .int .i64 (Pl.add d t), .int .i64 (Pl.add e t), .int .i64 (Pl.add f t)]) ∧ Below w.heap.size w w' := by
  go_enter Try.func139, Try.ntmps139
  go_upto_region 1 with fail
  have hR := Au.rows2 w (.cells #[.int .i64 a, .int .i64 b, .int .i64 c, .int .i64 d, .int .i64 e, .int .i64 f] 67) (.cells #[.int .i64 0, .int .i64 0, .int .i64 0, .int .i64 0, .int .i64 0, .int .i64 0] 67)
  have HUx := below_n2 w (.cells #[.int .i64 a, .int .i64 b, .int .i64 c, .int .i64 d, .int .i64 e, .int .i64 f] 67) (.cells #[.int .i64 0, .int .i64 0, .int .i64 0, .int .i64 0, .int .i64 0, .int .i64 0] 67)
  obtain ⟨y0, hy0⟩ : ∃ y0, (w.alloc (.cells #[.int .i64 a, .int .i64 b, .int .i64 c, .int .i64 d, .int .i64 e, .int .i64 f] 67)).alloc (.cells #[.int .i64 0, .int .i64 0, .int .i64 0, .int .i64 0, .int .i64 0, .int .i64 0] 67) = y0 := ⟨_, rfl⟩
  rw [hy0] at hR HUx ⊢
  clear hy0
  have HU0 := Lib.hid HUx
  clear HUx
  obtain ⟨hr0_0, hr0_1⟩ := hR
  have c0_0 := cell_of_row _ _ 0 _ _ _ hr0_0
  have c0_1 := cell_of_row _ _ 1 _ _ _ hr0_0
  have c0_2 := cell_of_row _ _ 2 _ _ _ hr0_0
  have c0_3 := cell_of_row _ _ 3 _ _ _ hr0_0
  have c0_4 := cell_of_row _ _ 4 _ _ _ hr0_0
  have c0_5 := cell_of_row _ _ 5 _ _ _ hr0_0
  have c1_0 := cell_of_row _ _ 0 _ _ _ hr0_1
  have c1_1 := cell_of_row _ _ 1 _ _ _ hr0_1
  have c1_2 := cell_of_row _ _ 2 _ _ _ hr0_1
  have c1_3 := cell_of_row _ _ 3 _ _ _ hr0_1
  have c1_4 := cell_of_row _ _ 4 _ _ _ hr0_1
  have c1_5 := cell_of_row _ _ 5 _ _ _ hr0_1
  simp at c0_0 c0_1 c0_2 c0_3 c0_4 c0_5 c1_0 c1_1 c1_2 c1_3 c1_4 c1_5
  go_wp2_with fail
  clear c0_0 c0_1 c0_2 c0_3 c0_4 c0_5 c1_0 c1_1 c1_2 c1_3 c1_4 c1_5
  have hb1 := below_n1 y0 (.cells #[.int .i64 t, .int .i64 t, .int .i64 t] 59)
  have hN := heap_alloc_last y0 (.cells #[.int .i64 t, .int .i64 t, .int .i64 t] 59)
  obtain ⟨y1, hy1⟩ : ∃ y, y0.alloc (.cells #[.int .i64 t, .int .i64 t, .int .i64 t] 59) = y := ⟨_, rfl⟩
  have hs1 : y1.heap.size = y0.heap.size + 1 := by rw [← hy1]; simp
  rw [hy1] at hb1 hN ⊢
  clear hy1
  have hl1_0 := lt_heap hr0_0
  have hl1_1 := lt_heap hr0_1
  have hr1_0 := (hb1.block _ (lt_heap hr0_0)).trans hr0_0
  have hr1_1 := (hb1.block _ (lt_heap hr0_1)).trans hr0_1
  have HU1 := Lib.hid (HU0.out.trans (hb1.mono HU0.out.size))
  clear hr0_0 hr0_1 HU0
  have hr1_2 := hN
  clear hN
  refine wp_region_held_drew (S := fun y => y.heap[w.heap.size]? = some (.cells #[.int .i64 a, .int .i64 b, .int .i64 c, .int .i64 d, .int .i64 e, .int .i64 f] 67 (0, 0)) ∧ y.heap[y0.heap.size]? = some (.cells #[.int .i64 t, .int .i64 t, .int .i64 t] 59 (0, 0))) (by kernel_rfl) (⟨hr1_0, hr1_2⟩) (fun hS0 => ?_)
  obtain ⟨y2, hy2⟩ : ∃ y, y1.drew = y := ⟨_, rfl⟩
  have HU2 := Lib.hid (show Below w.heap.size w y2 by rw [← hy2]; exact HU1.out.drew)
  have hr2_0 : y2.heap[w.heap.size]? = some (.cells #[.int .i64 a, .int .i64 b, .int .i64 c, .int .i64 d, .int .i64 e, .int .i64 f] 67 (0, 0)) := by rw [← hy2]; exact hr1_0
  have hr2_1 : y2.heap[w.heap.size + 1]? = some (.cells #[.int .i64 0, .int .i64 0, .int .i64 0, .int .i64 0, .int .i64 0, .int .i64 0] 67 (0, 0)) := by rw [← hy2]; exact hr1_1
  have hr2_2 : y2.heap[y0.heap.size]? = some (.cells #[.int .i64 t, .int .i64 t, .int .i64 t] 59 (0, 0)) := by rw [← hy2]; exact hr1_2
  rw [hy2] at hS0 ⊢
  clear hy2
  refine wpAnyH_take (i := 0) (v := ?_) rfl (by kernel_rfl) (by kernel_rfl) (by kernel_rfl) (fun _ _ _ h => h) (Or.inl ⟨by kernel_rfl, by (intro wz hSz; go_simp; try with_reducible rfl)⟩) hS0 ?_
  go_simp
  refine wpAnyH_take (i := 1) (v := ?_) rfl (by kernel_rfl) (by kernel_rfl) (by kernel_rfl) (fun _ _ _ h => h) (Or.inl ⟨by kernel_rfl, by (intro wz hSz; have c0_0 := cell_of_row _ _ 0 _ _ _ hSz.1; have c0_1 := cell_of_row _ _ 1 _ _ _ hSz.1; have c0_2 := cell_of_row _ _ 2 _ _ _ hSz.1; have c0_3 := cell_of_row _ _ 3 _ _ _ hSz.1; have c0_4 := cell_of_row _ _ 4 _ _ _ hSz.1; have c0_5 := cell_of_row _ _ 5 _ _ _ hSz.1; have c2_0 := cell_of_row _ _ 0 _ _ _ hSz.2; have c2_1 := cell_of_row _ _ 1 _ _ _ hSz.2; have c2_2 := cell_of_row _ _ 2 _ _ _ hSz.2; simp at c0_0 c0_1 c0_2 c0_3 c0_4 c0_5 c2_0 c2_1 c2_2; go_simp; try with_reducible rfl)⟩) hS0 ?_
  go_simp
  refine wpAnyH_take (i := 2) (v := ?_) rfl (by kernel_rfl) (by kernel_rfl) (by kernel_rfl) (fun _ _ _ h => h) (Or.inl ⟨by kernel_rfl, by (intro wz hSz; have c0_0 := cell_of_row _ _ 0 _ _ _ hSz.1; have c0_1 := cell_of_row _ _ 1 _ _ _ hSz.1; have c0_2 := cell_of_row _ _ 2 _ _ _ hSz.1; have c0_3 := cell_of_row _ _ 3 _ _ _ hSz.1; have c0_4 := cell_of_row _ _ 4 _ _ _ hSz.1; have c0_5 := cell_of_row _ _ 5 _ _ _ hSz.1; have c2_0 := cell_of_row _ _ 0 _ _ _ hSz.2; have c2_1 := cell_of_row _ _ 1 _ _ _ hSz.2; have c2_2 := cell_of_row _ _ 2 _ _ _ hSz.2; simp at c0_0 c0_1 c0_2 c0_3 c0_4 c0_5 c2_0 c2_1 c2_2; go_simp; try with_reducible rfl)⟩) hS0 ?_
  go_simp
  refine wpAnyH_take (i := 4) (v := ?_) rfl (by kernel_rfl) (by kernel_rfl) (by kernel_rfl) (fun _ _ _ h => h) (Or.inl ⟨by kernel_rfl, by (intro wz hSz; go_simp; try with_reducible rfl)⟩) hS0 ?_
  go_simp
  refine wpAnyH_take (i := 5) (v := ?_) rfl (by kernel_rfl) (by kernel_rfl) (by kernel_rfl) (fun _ _ _ h => h) (Or.inl ⟨by kernel_rfl, by (intro wz hSz; have c0_0 := cell_of_row _ _ 0 _ _ _ hSz.1; have c0_1 := cell_of_row _ _ 1 _ _ _ hSz.1; have c0_2 := cell_of_row _ _ 2 _ _ _ hSz.1; have c0_3 := cell_of_row _ _ 3 _ _ _ hSz.1; have c0_4 := cell_of_row _ _ 4 _ _ _ hSz.1; have c0_5 := cell_of_row _ _ 5 _ _ _ hSz.1; have c2_0 := cell_of_row _ _ 0 _ _ _ hSz.2; have c2_1 := cell_of_row _ _ 1 _ _ _ hSz.2; have c2_2 := cell_of_row _ _ 2 _ _ _ hSz.2; simp at c0_0 c0_1 c0_2 c0_3 c0_4 c0_5 c2_0 c2_1 c2_2; go_simp; try with_reducible rfl)⟩) hS0 ?_
  go_simp
  refine wpAnyH_take (i := 6) (v := ?_) rfl (by kernel_rfl) (by kernel_rfl) (by kernel_rfl) (fun _ _ _ h => h) (Or.inl ⟨by kernel_rfl, by (intro wz hSz; have c0_0 := cell_of_row _ _ 0 _ _ _ hSz.1; have c0_1 := cell_of_row _ _ 1 _ _ _ hSz.1; have c0_2 := cell_of_row _ _ 2 _ _ _ hSz.1; have c0_3 := cell_of_row _ _ 3 _ _ _ hSz.1; have c0_4 := cell_of_row _ _ 4 _ _ _ hSz.1; have c0_5 := cell_of_row _ _ 5 _ _ _ hSz.1; have c2_0 := cell_of_row _ _ 0 _ _ _ hSz.2; have c2_1 := cell_of_row _ _ 1 _ _ _ hSz.2; have c2_2 := cell_of_row _ _ 2 _ _ _ hSz.2; simp at c0_0 c0_1 c0_2 c0_3 c0_4 c0_5 c2_0 c2_1 c2_2; go_simp; try with_reducible rfl)⟩) hS0 ?_
  go_simp
  refine wpAnyH_ready (rs := [3]) (by kernel_rfl) (by simp) ?_
  refine AllReadyH.cons rfl (fun K hK => ?_) AllReadyH.nil
  go_simp
  go_wp2_with (go_at_call 88; refine (rsub_any _ _ _ _ _ _ _).mono ?_; rintro e y3 ⟨rfl, hb3⟩)
  have hr3_0 := (hb3.block _ (lt_heap hr2_0)).trans hr2_0
  have hr3_1 := (hb3.block _ (lt_heap hr2_1)).trans hr2_1
  have hr3_2 := (hb3.block _ (lt_heap hr2_2)).trans hr2_2
  have HU3 := Lib.hid (HU2.out.trans (hb3.mono HU2.out.size))
  refine hK.out _ _ (⟨(hb3.block _ (lt_heap hS0.1)).trans hS0.1, (hb3.block _ (lt_heap hS0.2)).trans hS0.2⟩) (fun hS3c => ?_)
  clear hK K
  refine wpAnyH_ready (rs := [7]) (by kernel_rfl) (by simp) ?_
  refine AllReadyH.cons rfl (fun K hK => ?_) AllReadyH.nil
  go_simp
  go_wp2_with (go_at_call 82; refine (radd_any _ _ _ _ _ _ _).mono ?_; rintro e y4 ⟨rfl, hb4⟩)
  have hr4_0 := (hb4.block _ (lt_heap hr3_0)).trans hr3_0
  have hr4_1 := (hb4.block _ (lt_heap hr3_1)).trans hr3_1
  have hr4_2 := (hb4.block _ (lt_heap hr3_2)).trans hr3_2
  have HU4 := Lib.hid (HU3.out.trans (hb4.mono HU3.out.size))
  refine hK.out _ _ (⟨(hb4.block _ (lt_heap hS3c.1)).trans hS3c.1, (hb4.block _ (lt_heap hS3c.2)).trans hS3c.2⟩) (fun hS4c => ?_)
  clear hK K
  refine wpAnyH_take (i := 8) (v := ?_) rfl (by kernel_rfl) (by kernel_rfl) (by kernel_rfl) (fun _ _ _ h => h) (Or.inl ⟨by kernel_rfl, by (intro wz hSz; go_simp; try with_reducible rfl)⟩) hS4c ?_
  go_simp
  refine wpAnyH_ready (rs := [9]) (by kernel_rfl) (by simp) ?_
  refine AllReadyH.cons rfl (fun K hK => ?_) AllReadyH.nil
  refine step_store_row rfl 67 (.tmp 4) (.tmp 18) rfl #[.int .i64 0, .int .i64 0, .int .i64 0, .int .i64 0, .int .i64 0, .int .i64 0] #[.int .i64 (Pl.sub a t), .int .i64 (Pl.sub b t), .int .i64 (Pl.sub c t), .int .i64 (Pl.add d t), .int .i64 (Pl.add e t), .int .i64 (Pl.add f t)] _ 67 hr4_1 rfl (by first | rfl | (go_simp; done) | (go_simp; rfl)) (by kernel_rfl) rfl (by simp [Value.oneCell']) ?_
  have hN := setRow_heap _ (w.heap.size + 1) _ #[.int .i64 (Pl.sub a t), .int .i64 (Pl.sub b t), .int .i64 (Pl.sub c t), .int .i64 (Pl.add d t), .int .i64 (Pl.add e t), .int .i64 (Pl.add f t)] _ _ hr4_1
  have hsz := HU4.out.size
  have HUx := below_setRow (g := w.heap.size + 1) HU4.out (by first | omega | (simp at *; omega)) #[.int .i64 (Pl.sub a t), .int .i64 (Pl.sub b t), .int .i64 (Pl.sub c t), .int .i64 (Pl.add d t), .int .i64 (Pl.add e t), .int .i64 (Pl.add f t)]
  obtain ⟨y5, hy5⟩ : ∃ y, y4.setRow (w.heap.size + 1) #[.int .i64 (Pl.sub a t), .int .i64 (Pl.sub b t), .int .i64 (Pl.sub c t), .int .i64 (Pl.add d t), .int .i64 (Pl.add e t), .int .i64 (Pl.add f t)] = y := ⟨_, rfl⟩
  have hO : ∀ k, k ≠ w.heap.size + 1 → y5.heap[k]? = y4.heap[k]? := fun k hk => by rw [← hy5]; exact setRow_other _ _ _ _ hk
  rw [hy5] at hN HUx ⊢
  clear hy5
  have HU5 := Lib.hid HUx
  clear HUx
  have hr5_0 := (hO _ (by omega)).trans hr4_0
  have hr5_1 := hN
  have hr5_2 := (hO _ (by omega)).trans hr4_2
  clear hN
  refine hK.out _ _ (⟨(hO _ (by omega)).trans hS4c.1, (hO _ (by omega)).trans hS4c.2⟩) (fun hS5s => ?_)
  clear hK K
  refine wpAnyH_done (by kernel_rfl) ?_ _
  have c1_0 := cell_of_row _ _ 0 _ _ _ hr5_1
  have c1_1 := cell_of_row _ _ 1 _ _ _ hr5_1
  have c1_2 := cell_of_row _ _ 2 _ _ _ hr5_1
  have c1_3 := cell_of_row _ _ 3 _ _ _ hr5_1
  have c1_4 := cell_of_row _ _ 4 _ _ _ hr5_1
  have c1_5 := cell_of_row _ _ 5 _ _ _ hr5_1
  simp at c1_0 c1_1 c1_2 c1_3 c1_4 c1_5
  go_wp2
  exact bodyPost_ret (v := .agg #[.int .i64 (Pl.sub a t), .int .i64 (Pl.sub b t), .int .i64 (Pl.sub c t), .int .i64 (Pl.add d t), .int .i64 (Pl.add e t), .int .i64 (Pl.add f t)]) (by simp [results, Try.results139, go_sem, c1_0, c1_1, c1_2, c1_3, c1_4, c1_5]) rfl ⟨rfl, HU5.out⟩

/-- half of a box's surface -/
def skin6 (a b c d e f : Int) : Int := Pl.add (Pl.add (Pl.mul (Pl.sub d a) (Pl.sub e b)) (Pl.mul (Pl.sub e b) (Pl.sub f c))) (Pl.mul (Pl.sub f c) (Pl.sub d a))

theorem add_zero_mul (x y : Int) : Pl.add 0 (Pl.mul x y) = Pl.mul x y := by
  have h1 : -2147483648 ≤ Pl.mul x y := Pl.held_lo _
  have h2 : Pl.mul x y ≤ 2147483648 := Pl.held_hi _
  unfold Pl.add
  rw [Pl.held_in (n := Pl.mul x y) h1 h2, Pl.held_in (n := 0) (by omega) (by omega), Int.zero_add, Pl.held_in h1 h2]

set_option maxHeartbeats 2000000 in
set_option maxRecDepth 100000 in
theorem bskin_any (a b c d e f : Int) (w : World)  : Calls Try.prog 27 #[B6 a b c d e f] w fun e' w' => e' = .returned (.int .i64 (skin6 a b c d e f)) ∧ Below w.heap.size w w' := by
  go_enter Try.func27, Try.ntmps27
  go_upto_region 1 with fail
  have hR := Au.rows1 w (.cells #[.int .i64 a, .int .i64 b, .int .i64 c, .int .i64 d, .int .i64 e, .int .i64 f] 73)
  have HUx := below_n1 w (.cells #[.int .i64 a, .int .i64 b, .int .i64 c, .int .i64 d, .int .i64 e, .int .i64 f] 73)
  obtain ⟨y0, hy0⟩ : ∃ y0, w.alloc (.cells #[.int .i64 a, .int .i64 b, .int .i64 c, .int .i64 d, .int .i64 e, .int .i64 f] 73) = y0 := ⟨_, rfl⟩
  rw [hy0] at hR HUx ⊢
  clear hy0
  have HU0 := Lib.hid HUx
  clear HUx
  have hr0_0 := hR
  clear hR
  have c0_0 := cell_of_row _ _ 0 _ _ _ hr0_0
  have c0_1 := cell_of_row _ _ 1 _ _ _ hr0_0
  have c0_2 := cell_of_row _ _ 2 _ _ _ hr0_0
  have c0_3 := cell_of_row _ _ 3 _ _ _ hr0_0
  have c0_4 := cell_of_row _ _ 4 _ _ _ hr0_0
  have c0_5 := cell_of_row _ _ 5 _ _ _ hr0_0
  simp at c0_0 c0_1 c0_2 c0_3 c0_4 c0_5
  go_wp2_with fail
  refine (bsize_any _ _ _ _ _ _ _).mono ?_
  rintro e y1 ⟨rfl, hb1⟩
  clear c0_0 c0_1 c0_2 c0_3 c0_4 c0_5
  have hr1_0 := (hb1.block _ (lt_heap hr0_0)).trans hr0_0
  have HU1 := Lib.hid (HU0.out.trans (hb1.mono HU0.out.size))
  clear hr0_0 HU0
  go_wp2_with fail
  have hb2 := below_n1 y1 (.cells #[.int .i64 (Pl.sub d a), .int .i64 (Pl.sub e b), .int .i64 (Pl.sub f c)] 71)
  have hN := heap_alloc_last y1 (.cells #[.int .i64 (Pl.sub d a), .int .i64 (Pl.sub e b), .int .i64 (Pl.sub f c)] 71)
  obtain ⟨y2, hy2⟩ : ∃ y, y1.alloc (.cells #[.int .i64 (Pl.sub d a), .int .i64 (Pl.sub e b), .int .i64 (Pl.sub f c)] 71) = y := ⟨_, rfl⟩
  have hs2 : y2.heap.size = y1.heap.size + 1 := by rw [← hy2]; simp
  rw [hy2] at hb2 hN ⊢
  clear hy2
  have hl2_0 := lt_heap hr1_0
  have hr2_0 := (hb2.block _ (lt_heap hr1_0)).trans hr1_0
  have HU2 := Lib.hid (HU1.out.trans (hb2.mono HU1.out.size))
  clear hr1_0 HU1
  have hr2_1 := hN
  clear hN
  refine wp_region_held_drew (S := fun y => y.heap[y1.heap.size]? = some (.cells #[.int .i64 (Pl.sub d a), .int .i64 (Pl.sub e b), .int .i64 (Pl.sub f c)] 71 (0, 0))) (by kernel_rfl) (hr2_1) (fun hS0 => ?_)
  obtain ⟨y3, hy3⟩ : ∃ y, y2.drew = y := ⟨_, rfl⟩
  have HU3 := Lib.hid (show Below w.heap.size w y3 by rw [← hy3]; exact HU2.out.drew)
  have hr3_0 : y3.heap[w.heap.size]? = some (.cells #[.int .i64 a, .int .i64 b, .int .i64 c, .int .i64 d, .int .i64 e, .int .i64 f] 73 (0, 0)) := by rw [← hy3]; exact hr2_0
  have hr3_1 : y3.heap[y1.heap.size]? = some (.cells #[.int .i64 (Pl.sub d a), .int .i64 (Pl.sub e b), .int .i64 (Pl.sub f c)] 71 (0, 0)) := by rw [← hy3]; exact hr2_1
  rw [hy3] at hS0 ⊢
  clear hy3
  refine wpAnyH_take (i := 0) (v := ?_) rfl (by kernel_rfl) (by kernel_rfl) (by kernel_rfl) (fun _ _ _ h => h) (Or.inl ⟨by kernel_rfl, by (intro wz hSz; go_simp; try with_reducible rfl)⟩) hS0 ?_
  go_simp
  refine wpAnyH_take (i := 1) (v := ?_) rfl (by kernel_rfl) (by kernel_rfl) (by kernel_rfl) (fun _ _ _ h => h) (Or.inl ⟨by kernel_rfl, by (intro wz hSz; have c1_0 := cell_of_row _ _ 0 _ _ _ hSz; have c1_1 := cell_of_row _ _ 1 _ _ _ hSz; have c1_2 := cell_of_row _ _ 2 _ _ _ hSz; simp at c1_0 c1_1 c1_2; go_simp; try with_reducible rfl)⟩) hS0 ?_
  go_simp
  refine wpAnyH_take (i := 2) (v := ?_) rfl (by kernel_rfl) (by kernel_rfl) (by kernel_rfl) (fun _ _ _ h => h) (Or.inl ⟨by kernel_rfl, by (intro wz hSz; go_simp; try with_reducible rfl)⟩) hS0 ?_
  go_simp
  refine wpAnyH_take (i := 3) (v := ?_) rfl (by kernel_rfl) (by kernel_rfl) (by kernel_rfl) (fun _ _ _ h => h) (Or.inl ⟨by kernel_rfl, by (intro wz hSz; have c1_0 := cell_of_row _ _ 0 _ _ _ hSz; have c1_1 := cell_of_row _ _ 1 _ _ _ hSz; have c1_2 := cell_of_row _ _ 2 _ _ _ hSz; simp at c1_0 c1_1 c1_2; go_simp; try with_reducible rfl)⟩) hS0 ?_
  go_simp
  refine wpAnyH_take (i := 5) (v := ?_) rfl (by kernel_rfl) (by kernel_rfl) (by kernel_rfl) (fun _ _ _ h => h) (Or.inl ⟨by kernel_rfl, by (intro wz hSz; go_simp; try with_reducible rfl)⟩) hS0 ?_
  go_simp
  refine wpAnyH_take (i := 6) (v := ?_) rfl (by kernel_rfl) (by kernel_rfl) (by kernel_rfl) (fun _ _ _ h => h) (Or.inl ⟨by kernel_rfl, by (intro wz hSz; have c1_0 := cell_of_row _ _ 0 _ _ _ hSz; have c1_1 := cell_of_row _ _ 1 _ _ _ hSz; have c1_2 := cell_of_row _ _ 2 _ _ _ hSz; simp at c1_0 c1_1 c1_2; go_simp; try with_reducible rfl)⟩) hS0 ?_
  go_simp
  refine wpAnyH_take (i := 7) (v := ?_) rfl (by kernel_rfl) (by kernel_rfl) (by kernel_rfl) (fun _ _ _ h => h) (Or.inl ⟨by kernel_rfl, by (intro wz hSz; go_simp; try with_reducible rfl)⟩) hS0 ?_
  go_simp
  refine wpAnyH_take (i := 8) (v := ?_) rfl (by kernel_rfl) (by kernel_rfl) (by kernel_rfl) (fun _ _ _ h => h) (Or.inl ⟨by kernel_rfl, by (intro wz hSz; have c1_0 := cell_of_row _ _ 0 _ _ _ hSz; have c1_1 := cell_of_row _ _ 1 _ _ _ hSz; have c1_2 := cell_of_row _ _ 2 _ _ _ hSz; simp at c1_0 c1_1 c1_2; go_simp; try with_reducible rfl)⟩) hS0 ?_
  go_simp
  refine wpAnyH_take (i := 10) (v := ?_) rfl (by kernel_rfl) (by kernel_rfl) (by kernel_rfl) (fun _ _ _ h => h) (Or.inl ⟨by kernel_rfl, by (intro wz hSz; go_simp; try with_reducible rfl)⟩) hS0 ?_
  go_simp
  refine wpAnyH_take (i := 11) (v := ?_) rfl (by kernel_rfl) (by kernel_rfl) (by kernel_rfl) (fun _ _ _ h => h) (Or.inl ⟨by kernel_rfl, by (intro wz hSz; have c1_0 := cell_of_row _ _ 0 _ _ _ hSz; have c1_1 := cell_of_row _ _ 1 _ _ _ hSz; have c1_2 := cell_of_row _ _ 2 _ _ _ hSz; simp at c1_0 c1_1 c1_2; go_simp; try with_reducible rfl)⟩) hS0 ?_
  go_simp
  refine wpAnyH_take (i := 12) (v := ?_) rfl (by kernel_rfl) (by kernel_rfl) (by kernel_rfl) (fun _ _ _ h => h) (Or.inl ⟨by kernel_rfl, by (intro wz hSz; go_simp; try with_reducible rfl)⟩) hS0 ?_
  go_simp
  refine wpAnyH_take (i := 13) (v := ?_) rfl (by kernel_rfl) (by kernel_rfl) (by kernel_rfl) (fun _ _ _ h => h) (Or.inl ⟨by kernel_rfl, by (intro wz hSz; have c1_0 := cell_of_row _ _ 0 _ _ _ hSz; have c1_1 := cell_of_row _ _ 1 _ _ _ hSz; have c1_2 := cell_of_row _ _ 2 _ _ _ hSz; simp at c1_0 c1_1 c1_2; go_simp; try with_reducible rfl)⟩) hS0 ?_
  go_simp
  refine wpAnyH_ready (rs := [4]) (by kernel_rfl) (by simp) ?_
  refine AllReadyH.cons rfl (fun K hK => ?_) AllReadyH.nil
  go_simp
  go_wp2_with (go_at_call 79; refine (mul_any _ _ _).mono ?_; rintro e ww ⟨rfl, rfl⟩)
  refine hK.out _ _ (hS0) (fun hS3q4 => ?_)
  clear hK K
  refine wpAnyH_ready (rs := [9]) (by kernel_rfl) (by simp) ?_
  refine AllReadyH.cons rfl (fun K hK => ?_) AllReadyH.nil
  go_simp
  go_wp2_with (go_at_call 79; refine (mul_any _ _ _).mono ?_; rintro e ww ⟨rfl, rfl⟩)
  refine hK.out _ _ (hS3q4) (fun hS3q9 => ?_)
  clear hK K
  refine wpAnyH_ready (rs := [14]) (by kernel_rfl) (by simp) ?_
  refine AllReadyH.cons rfl (fun K hK => ?_) AllReadyH.nil
  go_simp
  go_wp2_with (go_at_call 79; refine (mul_any _ _ _).mono ?_; rintro e ww ⟨rfl, rfl⟩)
  refine hK.out _ _ (hS3q9) (fun hS3q14 => ?_)
  clear hK K
  refine wpAnyH_ready (rs := [15]) (by kernel_rfl) (by simp) ?_
  refine AllReadyH.cons rfl (fun K hK => ?_) AllReadyH.nil
  go_simp
  have hb4 := below_n1 y3 (.cells #[.int .i64 (Pl.mul (Pl.sub d a) (Pl.sub e b)), .int .i64 (Pl.mul (Pl.sub e b) (Pl.sub f c)), .int .i64 (Pl.mul (Pl.sub f c) (Pl.sub d a))] 39)
  have hN := heap_alloc_last y3 (.cells #[.int .i64 (Pl.mul (Pl.sub d a) (Pl.sub e b)), .int .i64 (Pl.mul (Pl.sub e b) (Pl.sub f c)), .int .i64 (Pl.mul (Pl.sub f c) (Pl.sub d a))] 39)
  obtain ⟨y4, hy4⟩ : ∃ y, y3.alloc (.cells #[.int .i64 (Pl.mul (Pl.sub d a) (Pl.sub e b)), .int .i64 (Pl.mul (Pl.sub e b) (Pl.sub f c)), .int .i64 (Pl.mul (Pl.sub f c) (Pl.sub d a))] 39) = y := ⟨_, rfl⟩
  rw [hy4] at hb4 hN ⊢
  clear hy4
  have hl4_0 := lt_heap hr3_0
  have hr4_0 := (hb4.block _ (lt_heap hr3_0)).trans hr3_0
  have hl4_1 := lt_heap hr3_1
  have hr4_1 := (hb4.block _ (lt_heap hr3_1)).trans hr3_1
  have hr4_2 := hN
  clear hN
  have HU4 := Lib.hid (HU3.out.trans (hb4.mono HU3.out.size))
  refine hK.out _ _ ((hb4.block _ (lt_heap hS3q14)).trans hS3q14) (fun hS4a => ?_)
  clear hK K
  refine wpAnyH_ready (rs := [16]) (by kernel_rfl) (by simp) ?_
  refine AllReadyH.cons rfl (fun K hK => ?_) AllReadyH.nil
  go_simp
  go_wp2_with (go_at_call 78; refine (Ls.sum_row _ 3 3 [Pl.mul (Pl.sub d a) (Pl.sub e b), Pl.mul (Pl.sub e b) (Pl.sub f c), Pl.mul (Pl.sub f c) (Pl.sub d a)] rfl (by omega) _ (by intro j hj; match j, hj with | 0, _ => exact cell_of_row _ _ 0 _ _ _ hr4_2 | 1, _ => exact cell_of_row _ _ 1 _ _ _ hr4_2 | 2, _ => exact cell_of_row _ _ 2 _ _ _ hr4_2)).mono ?_; rintro e ww ⟨rfl, rfl⟩)
  refine hK.out _ _ (hS4a) (fun hS4q16 => ?_)
  clear hK K
  refine wpAnyH_take (i := 17) (v := ?_) rfl (by kernel_rfl) (by kernel_rfl) (by kernel_rfl) (fun _ _ _ h => h) (Or.inl ⟨by kernel_rfl, by (intro wz hSz; go_simp; try with_reducible rfl)⟩) hS4q16 ?_
  go_simp
  refine wpAnyH_done (by kernel_rfl) ?_ _
  go_wp2
  go_ret
  exact ⟨by simp [Ls.sumL, skin6, add_zero_mul], HU4.out⟩

end Go.Proofs.Ythlcfhnlkpobhaa.Bx
