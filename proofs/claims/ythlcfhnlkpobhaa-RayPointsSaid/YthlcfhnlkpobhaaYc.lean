/- Rays: whether a place shows, a hit, how far on a ball is met. -/
import Derived.Test.YthlcfhnlkpobhaaYb
namespace Go.Proofs.Ythlcfhnlkpobhaa.Yr
open Go.RowKit Go.Proofs.Ythlcfhnlkpobhaa Go.Proofs.Ythlcfhnlkpobhaa.Wa Go.Proofs.Ythlcfhnlkpobhaa.Ve Go.Proofs.Ythlcfhnlkpobhaa.Au Go.Proofs.Ythlcfhnlkpobhaa.Bx
set_option linter.unusedVariables false
set_option linter.unusedSimpArgs false

set_option maxHeartbeats 4000000 in
set_option maxRecDepth 100000 in
theorem shows_any (near far k0 k1 p0 p1 p2 p3 p4 p5 p6 p7 p8 rad fx fy fz dx dy dz pt b0 b1 b2 b3 b4 b5 t : Int) (hA : ∀ w : World, Calls Try.prog 42 #[.agg #[.int .i64 k0, .int .i64 k1, .int .i64 p0, .int .i64 p1, .int .i64 p2, .int .i64 p3, .int .i64 p4, .int .i64 p5, .int .i64 p6, .int .i64 p7, .int .i64 p8, .int .i64 rad]] w fun e' w' => e' = .returned (.agg #[.int .i64 b0, .int .i64 b1, .int .i64 b2, .int .i64 b3, .int .i64 b4, .int .i64 b5]) ∧ Below w.heap.size w w') (w : World)  : Calls Try.prog 146 #[.agg #[.int .i64 near, .int .i64 far, .int .i64 k0, .int .i64 k1, .int .i64 p0, .int .i64 p1, .int .i64 p2, .int .i64 p3, .int .i64 p4, .int .i64 p5, .int .i64 p6, .int .i64 p7, .int .i64 p8, .int .i64 rad], .agg #[.int .i64 fx, .int .i64 fy, .int .i64 fz, .int .i64 dx, .int .i64 dy, .int .i64 dz, .int .i64 pt], .int .i64 t] w fun e' w' => e' = .returned (.bool (decide (near < t) && decide (t ≤ far) && has6 b0 b1 b2 b3 b4 b5 (Pl.add fx (Pl.mul dx t)) (Pl.add fy (Pl.mul dy t)) (Pl.add fz (Pl.mul dz t)))) ∧ Below w.heap.size w w' := by
  by_cases h1 : near < t
  · by_cases h2 : t ≤ far
    · have d1 := decide_eq_true h1
      have d2 := decide_eq_true h2
      go_enter Try.func146, Try.ntmps146
      go_upto_region 1 with fail
      have hR := Au.rows2 w (.cells #[.int .i64 near, .int .i64 far, .int .i64 k0, .int .i64 k1, .int .i64 p0, .int .i64 p1, .int .i64 p2, .int .i64 p3, .int .i64 p4, .int .i64 p5, .int .i64 p6, .int .i64 p7, .int .i64 p8, .int .i64 rad] 191) (.cells #[.int .i64 fx, .int .i64 fy, .int .i64 fz, .int .i64 dx, .int .i64 dy, .int .i64 dz, .int .i64 pt] 101)
      have HUx := below_n2 w (.cells #[.int .i64 near, .int .i64 far, .int .i64 k0, .int .i64 k1, .int .i64 p0, .int .i64 p1, .int .i64 p2, .int .i64 p3, .int .i64 p4, .int .i64 p5, .int .i64 p6, .int .i64 p7, .int .i64 p8, .int .i64 rad] 191) (.cells #[.int .i64 fx, .int .i64 fy, .int .i64 fz, .int .i64 dx, .int .i64 dy, .int .i64 dz, .int .i64 pt] 101)
      obtain ⟨y0, hy0⟩ : ∃ y0, (w.alloc (.cells #[.int .i64 near, .int .i64 far, .int .i64 k0, .int .i64 k1, .int .i64 p0, .int .i64 p1, .int .i64 p2, .int .i64 p3, .int .i64 p4, .int .i64 p5, .int .i64 p6, .int .i64 p7, .int .i64 p8, .int .i64 rad] 191)).alloc (.cells #[.int .i64 fx, .int .i64 fy, .int .i64 fz, .int .i64 dx, .int .i64 dy, .int .i64 dz, .int .i64 pt] 101) = y0 := ⟨_, rfl⟩
      rw [hy0] at hR HUx ⊢
      clear hy0
      have HU0 := Lib.hid HUx
      clear HUx
      obtain ⟨hr0_0, hr0_1⟩ := hR
      refine wp_region_held_drew (S := fun y => y.heap[w.heap.size]? = some (.cells #[.int .i64 near, .int .i64 far, .int .i64 k0, .int .i64 k1, .int .i64 p0, .int .i64 p1, .int .i64 p2, .int .i64 p3, .int .i64 p4, .int .i64 p5, .int .i64 p6, .int .i64 p7, .int .i64 p8, .int .i64 rad] 191 (0, 0)) ∧ y.heap[w.heap.size + 1]? = some (.cells #[.int .i64 fx, .int .i64 fy, .int .i64 fz, .int .i64 dx, .int .i64 dy, .int .i64 dz, .int .i64 pt] 101 (0, 0))) (by kernel_rfl) (⟨hr0_0, hr0_1⟩) (fun hS0 => ?_)
      obtain ⟨y1, hy1⟩ : ∃ y, y0.drew = y := ⟨_, rfl⟩
      have HU1 := Lib.hid (show Below w.heap.size w y1 by rw [← hy1]; exact HU0.out.drew)
      have hr1_0 : y1.heap[w.heap.size]? = some (.cells #[.int .i64 near, .int .i64 far, .int .i64 k0, .int .i64 k1, .int .i64 p0, .int .i64 p1, .int .i64 p2, .int .i64 p3, .int .i64 p4, .int .i64 p5, .int .i64 p6, .int .i64 p7, .int .i64 p8, .int .i64 rad] 191 (0, 0)) := by rw [← hy1]; exact hr0_0
      have hr1_1 : y1.heap[w.heap.size + 1]? = some (.cells #[.int .i64 fx, .int .i64 fy, .int .i64 fz, .int .i64 dx, .int .i64 dy, .int .i64 dz, .int .i64 pt] 101 (0, 0)) := by rw [← hy1]; exact hr0_1
      rw [hy1] at hS0 ⊢
      clear hy1
      refine wpAnyH_take (i := 0) (v := ?_) rfl (by kernel_rfl) (by kernel_rfl) (by kernel_rfl) (fun _ _ _ h => h) (Or.inl ⟨by kernel_rfl, by (intro wz hSz; go_simp; try with_reducible rfl)⟩) hS0 ?_
      go_simp
      refine wpAnyH_take (i := 1) (v := ?_) rfl (by kernel_rfl) (by kernel_rfl) (by kernel_rfl) (fun _ _ _ h => h) (Or.inl ⟨by kernel_rfl, by (intro wz hSz; go_simp; try with_reducible rfl)⟩) hS0 ?_
      go_simp
      refine wpAnyH_take (i := 2) (v := ?_) rfl (by kernel_rfl) (by kernel_rfl) (by kernel_rfl) (fun _ _ _ h => h) (Or.inl ⟨by kernel_rfl, by (intro wz hSz; have c0_0 := cell_of_row _ _ 0 _ _ _ hSz.1; have c0_1 := cell_of_row _ _ 1 _ _ _ hSz.1; have c0_2 := cell_of_row _ _ 2 _ _ _ hSz.1; have c0_3 := cell_of_row _ _ 3 _ _ _ hSz.1; have c0_4 := cell_of_row _ _ 4 _ _ _ hSz.1; have c0_5 := cell_of_row _ _ 5 _ _ _ hSz.1; have c0_6 := cell_of_row _ _ 6 _ _ _ hSz.1; have c0_7 := cell_of_row _ _ 7 _ _ _ hSz.1; have c0_8 := cell_of_row _ _ 8 _ _ _ hSz.1; have c0_9 := cell_of_row _ _ 9 _ _ _ hSz.1; have c0_10 := cell_of_row _ _ 10 _ _ _ hSz.1; have c0_11 := cell_of_row _ _ 11 _ _ _ hSz.1; have c0_12 := cell_of_row _ _ 12 _ _ _ hSz.1; have c0_13 := cell_of_row _ _ 13 _ _ _ hSz.1; have c1_0 := cell_of_row _ _ 0 _ _ _ hSz.2; have c1_1 := cell_of_row _ _ 1 _ _ _ hSz.2; have c1_2 := cell_of_row _ _ 2 _ _ _ hSz.2; have c1_3 := cell_of_row _ _ 3 _ _ _ hSz.2; have c1_4 := cell_of_row _ _ 4 _ _ _ hSz.2; have c1_5 := cell_of_row _ _ 5 _ _ _ hSz.2; have c1_6 := cell_of_row _ _ 6 _ _ _ hSz.2; simp at c0_0 c0_1 c0_2 c0_3 c0_4 c0_5 c0_6 c0_7 c0_8 c0_9 c0_10 c0_11 c0_12 c0_13 c1_0 c1_1 c1_2 c1_3 c1_4 c1_5 c1_6; go_simp; try with_reducible rfl)⟩) hS0 ?_
      go_simp
      refine wpAnyH_take (i := 3) (v := ?_) rfl (by kernel_rfl) (by kernel_rfl) (by kernel_rfl) (fun _ _ _ h => h) (Or.inl ⟨by kernel_rfl, by (intro wz hSz; go_simp; try with_reducible rfl)⟩) hS0 ?_
      go_simp
      refine wpAnyH_take (i := 4) (v := ?_) rfl (by kernel_rfl) (by kernel_rfl) (by kernel_rfl) (fun _ _ _ h => h) (Or.inl ⟨by kernel_rfl, by (intro wz hSz; go_simp; try with_reducible rfl)⟩) hS0 ?_
      go_simp
      refine wpAnyH_take (i := 5) (v := ?_) rfl (by kernel_rfl) (by kernel_rfl) (by kernel_rfl) (fun _ _ _ h => h) (Or.inl ⟨by kernel_rfl, by (intro wz hSz; go_simp; try with_reducible rfl)⟩) hS0 ?_
      go_simp
      refine wpAnyH_take (i := 6) (v := ?_) rfl (by kernel_rfl) (by kernel_rfl) (by kernel_rfl) (fun _ _ _ h => h) (Or.inl ⟨by kernel_rfl, by (intro wz hSz; go_simp; try with_reducible rfl)⟩) hS0 ?_
      go_simp
      refine wpAnyH_take (i := 7) (v := ?_) rfl (by kernel_rfl) (by kernel_rfl) (by kernel_rfl) (fun _ _ _ h => h) (Or.inl ⟨by kernel_rfl, by (intro wz hSz; have c0_0 := cell_of_row _ _ 0 _ _ _ hSz.1; have c0_1 := cell_of_row _ _ 1 _ _ _ hSz.1; have c0_2 := cell_of_row _ _ 2 _ _ _ hSz.1; have c0_3 := cell_of_row _ _ 3 _ _ _ hSz.1; have c0_4 := cell_of_row _ _ 4 _ _ _ hSz.1; have c0_5 := cell_of_row _ _ 5 _ _ _ hSz.1; have c0_6 := cell_of_row _ _ 6 _ _ _ hSz.1; have c0_7 := cell_of_row _ _ 7 _ _ _ hSz.1; have c0_8 := cell_of_row _ _ 8 _ _ _ hSz.1; have c0_9 := cell_of_row _ _ 9 _ _ _ hSz.1; have c0_10 := cell_of_row _ _ 10 _ _ _ hSz.1; have c0_11 := cell_of_row _ _ 11 _ _ _ hSz.1; have c0_12 := cell_of_row _ _ 12 _ _ _ hSz.1; have c0_13 := cell_of_row _ _ 13 _ _ _ hSz.1; have c1_0 := cell_of_row _ _ 0 _ _ _ hSz.2; have c1_1 := cell_of_row _ _ 1 _ _ _ hSz.2; have c1_2 := cell_of_row _ _ 2 _ _ _ hSz.2; have c1_3 := cell_of_row _ _ 3 _ _ _ hSz.2; have c1_4 := cell_of_row _ _ 4 _ _ _ hSz.2; have c1_5 := cell_of_row _ _ 5 _ _ _ hSz.2; have c1_6 := cell_of_row _ _ 6 _ _ _ hSz.2; simp at c0_0 c0_1 c0_2 c0_3 c0_4 c0_5 c0_6 c0_7 c0_8 c0_9 c0_10 c0_11 c0_12 c0_13 c1_0 c1_1 c1_2 c1_3 c1_4 c1_5 c1_6; go_simp; try with_reducible rfl)⟩) hS0 ?_
      go_simp
      refine wpAnyH_take (i := 8) (v := ?_) rfl (by kernel_rfl) (by kernel_rfl) (by kernel_rfl) (fun _ _ _ h => h) (Or.inl ⟨by kernel_rfl, by (intro wz hSz; go_simp; try with_reducible rfl)⟩) hS0 ?_
      go_simp
      refine wpAnyH_take (i := 9) (v := ?_) rfl (by kernel_rfl) (by kernel_rfl) (by kernel_rfl) (fun _ _ _ h => h) (Or.inl ⟨by kernel_rfl, by (intro wz hSz; go_simp; try with_reducible rfl)⟩) hS0 ?_
      go_simp
      refine wpAnyH_take (i := 10) (v := ?_) rfl (by kernel_rfl) (by kernel_rfl) (by kernel_rfl) (fun _ _ _ h => h) (Or.inl ⟨by kernel_rfl, by (intro wz hSz; go_simp; try with_reducible rfl)⟩) hS0 ?_
      go_simp
      refine wpAnyH_take (i := 11) (v := ?_) rfl (by kernel_rfl) (by kernel_rfl) (by kernel_rfl) (fun _ _ _ h => h) (Or.inl ⟨by kernel_rfl, by (intro wz hSz; go_simp; try with_reducible rfl)⟩) hS0 ?_
      go_simp
      refine wpAnyH_take (i := 12) (v := ?_) rfl (by kernel_rfl) (by kernel_rfl) (by kernel_rfl) (fun _ _ _ h => h) (Or.inl ⟨by kernel_rfl, by (intro wz hSz; have c0_0 := cell_of_row _ _ 0 _ _ _ hSz.1; have c0_1 := cell_of_row _ _ 1 _ _ _ hSz.1; have c0_2 := cell_of_row _ _ 2 _ _ _ hSz.1; have c0_3 := cell_of_row _ _ 3 _ _ _ hSz.1; have c0_4 := cell_of_row _ _ 4 _ _ _ hSz.1; have c0_5 := cell_of_row _ _ 5 _ _ _ hSz.1; have c0_6 := cell_of_row _ _ 6 _ _ _ hSz.1; have c0_7 := cell_of_row _ _ 7 _ _ _ hSz.1; have c0_8 := cell_of_row _ _ 8 _ _ _ hSz.1; have c0_9 := cell_of_row _ _ 9 _ _ _ hSz.1; have c0_10 := cell_of_row _ _ 10 _ _ _ hSz.1; have c0_11 := cell_of_row _ _ 11 _ _ _ hSz.1; have c0_12 := cell_of_row _ _ 12 _ _ _ hSz.1; have c0_13 := cell_of_row _ _ 13 _ _ _ hSz.1; have c1_0 := cell_of_row _ _ 0 _ _ _ hSz.2; have c1_1 := cell_of_row _ _ 1 _ _ _ hSz.2; have c1_2 := cell_of_row _ _ 2 _ _ _ hSz.2; have c1_3 := cell_of_row _ _ 3 _ _ _ hSz.2; have c1_4 := cell_of_row _ _ 4 _ _ _ hSz.2; have c1_5 := cell_of_row _ _ 5 _ _ _ hSz.2; have c1_6 := cell_of_row _ _ 6 _ _ _ hSz.2; simp at c0_0 c0_1 c0_2 c0_3 c0_4 c0_5 c0_6 c0_7 c0_8 c0_9 c0_10 c0_11 c0_12 c0_13 c1_0 c1_1 c1_2 c1_3 c1_4 c1_5 c1_6; go_simp; try with_reducible rfl)⟩) hS0 ?_
      go_simp
      refine wpAnyH_take (i := 14) (v := ?_) rfl (by kernel_rfl) (by kernel_rfl) (by kernel_rfl) (fun _ _ _ h => h) (Or.inl ⟨by kernel_rfl, by (intro wz hSz; have c0_0 := cell_of_row _ _ 0 _ _ _ hSz.1; have c0_1 := cell_of_row _ _ 1 _ _ _ hSz.1; have c0_2 := cell_of_row _ _ 2 _ _ _ hSz.1; have c0_3 := cell_of_row _ _ 3 _ _ _ hSz.1; have c0_4 := cell_of_row _ _ 4 _ _ _ hSz.1; have c0_5 := cell_of_row _ _ 5 _ _ _ hSz.1; have c0_6 := cell_of_row _ _ 6 _ _ _ hSz.1; have c0_7 := cell_of_row _ _ 7 _ _ _ hSz.1; have c0_8 := cell_of_row _ _ 8 _ _ _ hSz.1; have c0_9 := cell_of_row _ _ 9 _ _ _ hSz.1; have c0_10 := cell_of_row _ _ 10 _ _ _ hSz.1; have c0_11 := cell_of_row _ _ 11 _ _ _ hSz.1; have c0_12 := cell_of_row _ _ 12 _ _ _ hSz.1; have c0_13 := cell_of_row _ _ 13 _ _ _ hSz.1; have c1_0 := cell_of_row _ _ 0 _ _ _ hSz.2; have c1_1 := cell_of_row _ _ 1 _ _ _ hSz.2; have c1_2 := cell_of_row _ _ 2 _ _ _ hSz.2; have c1_3 := cell_of_row _ _ 3 _ _ _ hSz.2; have c1_4 := cell_of_row _ _ 4 _ _ _ hSz.2; have c1_5 := cell_of_row _ _ 5 _ _ _ hSz.2; have c1_6 := cell_of_row _ _ 6 _ _ _ hSz.2; simp at c0_0 c0_1 c0_2 c0_3 c0_4 c0_5 c0_6 c0_7 c0_8 c0_9 c0_10 c0_11 c0_12 c0_13 c1_0 c1_1 c1_2 c1_3 c1_4 c1_5 c1_6; go_simp; try with_reducible rfl)⟩) hS0 ?_
      go_simp
      refine wpAnyH_take (i := 15) (v := ?_) rfl (by kernel_rfl) (by kernel_rfl) (by kernel_rfl) (fun _ _ _ h => h) (Or.inl ⟨by kernel_rfl, by (intro wz hSz; go_simp; try with_reducible rfl)⟩) hS0 ?_
      go_simp
      refine wpAnyH_ready (rs := [13]) (by kernel_rfl) (by simp) ?_
      refine AllReadyH.cons rfl (fun K hK => ?_) AllReadyH.nil
      go_simp
      go_wp2_with (go_at_call 42; refine (hA _).mono ?_; rintro e y2 ⟨rfl, hb2⟩)
      have hr2_0 := (hb2.block _ (lt_heap hr1_0)).trans hr1_0
      have hr2_1 := (hb2.block _ (lt_heap hr1_1)).trans hr1_1
      have HU2 := Lib.hid (HU1.out.trans (hb2.mono HU1.out.size))
      refine hK.out _ _ (⟨(hb2.block _ (lt_heap hS0.1)).trans hS0.1, (hb2.block _ (lt_heap hS0.2)).trans hS0.2⟩) (fun hS2c => ?_)
      clear hK K
      refine wpAnyH_ready (rs := [16]) (by kernel_rfl) (by simp) ?_
      refine AllReadyH.cons rfl (fun K hK => ?_) AllReadyH.nil
      go_simp
      go_wp2_with (go_at_call 31; refine (ray_at _ _ _ _ _ _ _ _ _).mono ?_; rintro e y3 ⟨rfl, hb3⟩)
      have hr3_0 := (hb3.block _ (lt_heap hr2_0)).trans hr2_0
      have hr3_1 := (hb3.block _ (lt_heap hr2_1)).trans hr2_1
      have HU3 := Lib.hid (HU2.out.trans (hb3.mono HU2.out.size))
      refine hK.out _ _ (⟨(hb3.block _ (lt_heap hS2c.1)).trans hS2c.1, (hb3.block _ (lt_heap hS2c.2)).trans hS2c.2⟩) (fun hS3c => ?_)
      clear hK K
      refine wpAnyH_ready (rs := [17]) (by kernel_rfl) (by simp) ?_
      refine AllReadyH.cons rfl (fun K hK => ?_) AllReadyH.nil
      go_simp
      go_wp2_with (go_at_call 40; refine (bhas_any _ _ _ _ _ _ _ _ _ _).mono ?_; rintro e y4 ⟨rfl, hb4⟩)
      have hr4_0 := (hb4.block _ (lt_heap hr3_0)).trans hr3_0
      have hr4_1 := (hb4.block _ (lt_heap hr3_1)).trans hr3_1
      have HU4 := Lib.hid (HU3.out.trans (hb4.mono HU3.out.size))
      refine hK.out _ _ (⟨(hb4.block _ (lt_heap hS3c.1)).trans hS3c.1, (hb4.block _ (lt_heap hS3c.2)).trans hS3c.2⟩) (fun hS4c => ?_)
      clear hK K
      refine wpAnyH_take (i := 18) (v := ?_) rfl (by kernel_rfl) (by kernel_rfl) (by kernel_rfl) (fun _ _ _ h => h) (Or.inl ⟨by kernel_rfl, by (intro wz hSz; go_simp; try with_reducible rfl)⟩) hS4c ?_
      go_simp
      refine wpAnyH_take (i := 19) (v := ?_) rfl (by kernel_rfl) (by kernel_rfl) (by kernel_rfl) (fun _ _ _ h => h) (Or.inl ⟨by kernel_rfl, by (intro wz hSz; go_simp; try with_reducible rfl)⟩) hS4c ?_
      go_simp
      refine wpAnyH_done (by kernel_rfl) ?_ _
      go_wp2
      go_ret
      exact ⟨by simp [h1, h2], HU4.out⟩
    · have d1 := decide_eq_true h1
      have d2 := decide_eq_false h2
      go_enter Try.func146, Try.ntmps146
      go_upto_region 1 with fail
      have hR := Au.rows2 w (.cells #[.int .i64 near, .int .i64 far, .int .i64 k0, .int .i64 k1, .int .i64 p0, .int .i64 p1, .int .i64 p2, .int .i64 p3, .int .i64 p4, .int .i64 p5, .int .i64 p6, .int .i64 p7, .int .i64 p8, .int .i64 rad] 191) (.cells #[.int .i64 fx, .int .i64 fy, .int .i64 fz, .int .i64 dx, .int .i64 dy, .int .i64 dz, .int .i64 pt] 101)
      have HUx := below_n2 w (.cells #[.int .i64 near, .int .i64 far, .int .i64 k0, .int .i64 k1, .int .i64 p0, .int .i64 p1, .int .i64 p2, .int .i64 p3, .int .i64 p4, .int .i64 p5, .int .i64 p6, .int .i64 p7, .int .i64 p8, .int .i64 rad] 191) (.cells #[.int .i64 fx, .int .i64 fy, .int .i64 fz, .int .i64 dx, .int .i64 dy, .int .i64 dz, .int .i64 pt] 101)
      obtain ⟨y0, hy0⟩ : ∃ y0, (w.alloc (.cells #[.int .i64 near, .int .i64 far, .int .i64 k0, .int .i64 k1, .int .i64 p0, .int .i64 p1, .int .i64 p2, .int .i64 p3, .int .i64 p4, .int .i64 p5, .int .i64 p6, .int .i64 p7, .int .i64 p8, .int .i64 rad] 191)).alloc (.cells #[.int .i64 fx, .int .i64 fy, .int .i64 fz, .int .i64 dx, .int .i64 dy, .int .i64 dz, .int .i64 pt] 101) = y0 := ⟨_, rfl⟩
      rw [hy0] at hR HUx ⊢
      clear hy0
      have HU0 := Lib.hid HUx
      clear HUx
      obtain ⟨hr0_0, hr0_1⟩ := hR
      refine wp_region_held_drew (S := fun y => y.heap[w.heap.size]? = some (.cells #[.int .i64 near, .int .i64 far, .int .i64 k0, .int .i64 k1, .int .i64 p0, .int .i64 p1, .int .i64 p2, .int .i64 p3, .int .i64 p4, .int .i64 p5, .int .i64 p6, .int .i64 p7, .int .i64 p8, .int .i64 rad] 191 (0, 0)) ∧ y.heap[w.heap.size + 1]? = some (.cells #[.int .i64 fx, .int .i64 fy, .int .i64 fz, .int .i64 dx, .int .i64 dy, .int .i64 dz, .int .i64 pt] 101 (0, 0))) (by kernel_rfl) (⟨hr0_0, hr0_1⟩) (fun hS0 => ?_)
      obtain ⟨y1, hy1⟩ : ∃ y, y0.drew = y := ⟨_, rfl⟩
      have HU1 := Lib.hid (show Below w.heap.size w y1 by rw [← hy1]; exact HU0.out.drew)
      have hr1_0 : y1.heap[w.heap.size]? = some (.cells #[.int .i64 near, .int .i64 far, .int .i64 k0, .int .i64 k1, .int .i64 p0, .int .i64 p1, .int .i64 p2, .int .i64 p3, .int .i64 p4, .int .i64 p5, .int .i64 p6, .int .i64 p7, .int .i64 p8, .int .i64 rad] 191 (0, 0)) := by rw [← hy1]; exact hr0_0
      have hr1_1 : y1.heap[w.heap.size + 1]? = some (.cells #[.int .i64 fx, .int .i64 fy, .int .i64 fz, .int .i64 dx, .int .i64 dy, .int .i64 dz, .int .i64 pt] 101 (0, 0)) := by rw [← hy1]; exact hr0_1
      rw [hy1] at hS0 ⊢
      clear hy1
      refine wpAnyH_take (i := 0) (v := ?_) rfl (by kernel_rfl) (by kernel_rfl) (by kernel_rfl) (fun _ _ _ h => h) (Or.inl ⟨by kernel_rfl, by (intro wz hSz; go_simp; try with_reducible rfl)⟩) hS0 ?_
      go_simp
      refine wpAnyH_take (i := 1) (v := ?_) rfl (by kernel_rfl) (by kernel_rfl) (by kernel_rfl) (fun _ _ _ h => h) (Or.inl ⟨by kernel_rfl, by (intro wz hSz; go_simp; try with_reducible rfl)⟩) hS0 ?_
      go_simp
      refine wpAnyH_take (i := 2) (v := ?_) rfl (by kernel_rfl) (by kernel_rfl) (by kernel_rfl) (fun _ _ _ h => h) (Or.inl ⟨by kernel_rfl, by (intro wz hSz; have c0_0 := cell_of_row _ _ 0 _ _ _ hSz.1; have c0_1 := cell_of_row _ _ 1 _ _ _ hSz.1; have c0_2 := cell_of_row _ _ 2 _ _ _ hSz.1; have c0_3 := cell_of_row _ _ 3 _ _ _ hSz.1; have c0_4 := cell_of_row _ _ 4 _ _ _ hSz.1; have c0_5 := cell_of_row _ _ 5 _ _ _ hSz.1; have c0_6 := cell_of_row _ _ 6 _ _ _ hSz.1; have c0_7 := cell_of_row _ _ 7 _ _ _ hSz.1; have c0_8 := cell_of_row _ _ 8 _ _ _ hSz.1; have c0_9 := cell_of_row _ _ 9 _ _ _ hSz.1; have c0_10 := cell_of_row _ _ 10 _ _ _ hSz.1; have c0_11 := cell_of_row _ _ 11 _ _ _ hSz.1; have c0_12 := cell_of_row _ _ 12 _ _ _ hSz.1; have c0_13 := cell_of_row _ _ 13 _ _ _ hSz.1; have c1_0 := cell_of_row _ _ 0 _ _ _ hSz.2; have c1_1 := cell_of_row _ _ 1 _ _ _ hSz.2; have c1_2 := cell_of_row _ _ 2 _ _ _ hSz.2; have c1_3 := cell_of_row _ _ 3 _ _ _ hSz.2; have c1_4 := cell_of_row _ _ 4 _ _ _ hSz.2; have c1_5 := cell_of_row _ _ 5 _ _ _ hSz.2; have c1_6 := cell_of_row _ _ 6 _ _ _ hSz.2; simp at c0_0 c0_1 c0_2 c0_3 c0_4 c0_5 c0_6 c0_7 c0_8 c0_9 c0_10 c0_11 c0_12 c0_13 c1_0 c1_1 c1_2 c1_3 c1_4 c1_5 c1_6; go_simp; try with_reducible rfl)⟩) hS0 ?_
      go_simp
      refine wpAnyH_take (i := 3) (v := ?_) rfl (by kernel_rfl) (by kernel_rfl) (by kernel_rfl) (fun _ _ _ h => h) (Or.inl ⟨by kernel_rfl, by (intro wz hSz; go_simp; try with_reducible rfl)⟩) hS0 ?_
      go_simp
      refine wpAnyH_take (i := 4) (v := ?_) rfl (by kernel_rfl) (by kernel_rfl) (by kernel_rfl) (fun _ _ _ h => h) (Or.inl ⟨by kernel_rfl, by (intro wz hSz; go_simp; try with_reducible rfl)⟩) hS0 ?_
      go_simp
      refine wpAnyH_take (i := 5) (v := ?_) rfl (by kernel_rfl) (by kernel_rfl) (by kernel_rfl) (fun _ _ _ h => h) (Or.inl ⟨by kernel_rfl, by (intro wz hSz; go_simp; try with_reducible rfl)⟩) hS0 ?_
      go_simp
      refine wpAnyH_take (i := 6) (v := ?_) rfl (by kernel_rfl) (by kernel_rfl) (by kernel_rfl) (fun _ _ _ h => h) (Or.inl ⟨by kernel_rfl, by (intro wz hSz; go_simp; try with_reducible rfl)⟩) hS0 ?_
      go_simp
      refine wpAnyH_take (i := 7) (v := ?_) rfl (by kernel_rfl) (by kernel_rfl) (by kernel_rfl) (fun _ _ _ h => h) (Or.inl ⟨by kernel_rfl, by (intro wz hSz; have c0_0 := cell_of_row _ _ 0 _ _ _ hSz.1; have c0_1 := cell_of_row _ _ 1 _ _ _ hSz.1; have c0_2 := cell_of_row _ _ 2 _ _ _ hSz.1; have c0_3 := cell_of_row _ _ 3 _ _ _ hSz.1; have c0_4 := cell_of_row _ _ 4 _ _ _ hSz.1; have c0_5 := cell_of_row _ _ 5 _ _ _ hSz.1; have c0_6 := cell_of_row _ _ 6 _ _ _ hSz.1; have c0_7 := cell_of_row _ _ 7 _ _ _ hSz.1; have c0_8 := cell_of_row _ _ 8 _ _ _ hSz.1; have c0_9 := cell_of_row _ _ 9 _ _ _ hSz.1; have c0_10 := cell_of_row _ _ 10 _ _ _ hSz.1; have c0_11 := cell_of_row _ _ 11 _ _ _ hSz.1; have c0_12 := cell_of_row _ _ 12 _ _ _ hSz.1; have c0_13 := cell_of_row _ _ 13 _ _ _ hSz.1; have c1_0 := cell_of_row _ _ 0 _ _ _ hSz.2; have c1_1 := cell_of_row _ _ 1 _ _ _ hSz.2; have c1_2 := cell_of_row _ _ 2 _ _ _ hSz.2; have c1_3 := cell_of_row _ _ 3 _ _ _ hSz.2; have c1_4 := cell_of_row _ _ 4 _ _ _ hSz.2; have c1_5 := cell_of_row _ _ 5 _ _ _ hSz.2; have c1_6 := cell_of_row _ _ 6 _ _ _ hSz.2; simp at c0_0 c0_1 c0_2 c0_3 c0_4 c0_5 c0_6 c0_7 c0_8 c0_9 c0_10 c0_11 c0_12 c0_13 c1_0 c1_1 c1_2 c1_3 c1_4 c1_5 c1_6; go_simp; try with_reducible rfl)⟩) hS0 ?_
      go_simp
      refine wpAnyH_take (i := 8) (v := ?_) rfl (by kernel_rfl) (by kernel_rfl) (by kernel_rfl) (fun _ _ _ h => h) (Or.inl ⟨by kernel_rfl, by (intro wz hSz; go_simp; try with_reducible rfl)⟩) hS0 ?_
      go_simp
      refine wpAnyH_take (i := 9) (v := ?_) rfl (by kernel_rfl) (by kernel_rfl) (by kernel_rfl) (fun _ _ _ h => h) (Or.inl ⟨by kernel_rfl, by (intro wz hSz; go_simp; try with_reducible rfl)⟩) hS0 ?_
      go_simp
      refine wpAnyH_take (i := 10) (v := ?_) rfl (by kernel_rfl) (by kernel_rfl) (by kernel_rfl) (fun _ _ _ h => h) (Or.inl ⟨by kernel_rfl, by (intro wz hSz; go_simp; try with_reducible rfl)⟩) hS0 ?_
      go_simp
      refine wpAnyH_take (i := 11) (v := undef) rfl (by kernel_rfl) (by kernel_rfl) (by kernel_rfl) (fun _ _ _ h => h) (Or.inr ⟨by kernel_rfl, rfl⟩) hS0 ?_
      go_simp
      refine wpAnyH_take (i := 12) (v := undef) rfl (by kernel_rfl) (by kernel_rfl) (by kernel_rfl) (fun _ _ _ h => h) (Or.inr ⟨by kernel_rfl, rfl⟩) hS0 ?_
      go_simp
      refine wpAnyH_take (i := 13) (v := undef) rfl (by kernel_rfl) (by kernel_rfl) (by kernel_rfl) (fun _ _ _ h => h) (Or.inr ⟨by kernel_rfl, rfl⟩) hS0 ?_
      go_simp
      refine wpAnyH_take (i := 14) (v := undef) rfl (by kernel_rfl) (by kernel_rfl) (by kernel_rfl) (fun _ _ _ h => h) (Or.inr ⟨by kernel_rfl, rfl⟩) hS0 ?_
      go_simp
      refine wpAnyH_take (i := 15) (v := undef) rfl (by kernel_rfl) (by kernel_rfl) (by kernel_rfl) (fun _ _ _ h => h) (Or.inr ⟨by kernel_rfl, rfl⟩) hS0 ?_
      go_simp
      refine wpAnyH_take (i := 16) (v := undef) rfl (by kernel_rfl) (by kernel_rfl) (by kernel_rfl) (fun _ _ _ h => h) (Or.inr ⟨by kernel_rfl, rfl⟩) hS0 ?_
      go_simp
      refine wpAnyH_take (i := 17) (v := undef) rfl (by kernel_rfl) (by kernel_rfl) (by kernel_rfl) (fun _ _ _ h => h) (Or.inr ⟨by kernel_rfl, rfl⟩) hS0 ?_
      go_simp
      refine wpAnyH_take (i := 18) (v := ?_) rfl (by kernel_rfl) (by kernel_rfl) (by kernel_rfl) (fun _ _ _ h => h) (Or.inl ⟨by kernel_rfl, by (intro wz hSz; go_simp; try with_reducible rfl)⟩) hS0 ?_
      go_simp
      refine wpAnyH_take (i := 19) (v := ?_) rfl (by kernel_rfl) (by kernel_rfl) (by kernel_rfl) (fun _ _ _ h => h) (Or.inl ⟨by kernel_rfl, by (intro wz hSz; go_simp; try with_reducible rfl)⟩) hS0 ?_
      go_simp
      refine wpAnyH_done (by kernel_rfl) ?_ _
      go_wp2
      go_ret
      exact ⟨by simp [h1, h2], HU1.out⟩
  · have d1 := decide_eq_false h1
    go_enter Try.func146, Try.ntmps146
    go_upto_region 1 with fail
    have hR := Au.rows2 w (.cells #[.int .i64 near, .int .i64 far, .int .i64 k0, .int .i64 k1, .int .i64 p0, .int .i64 p1, .int .i64 p2, .int .i64 p3, .int .i64 p4, .int .i64 p5, .int .i64 p6, .int .i64 p7, .int .i64 p8, .int .i64 rad] 191) (.cells #[.int .i64 fx, .int .i64 fy, .int .i64 fz, .int .i64 dx, .int .i64 dy, .int .i64 dz, .int .i64 pt] 101)
    have HUx := below_n2 w (.cells #[.int .i64 near, .int .i64 far, .int .i64 k0, .int .i64 k1, .int .i64 p0, .int .i64 p1, .int .i64 p2, .int .i64 p3, .int .i64 p4, .int .i64 p5, .int .i64 p6, .int .i64 p7, .int .i64 p8, .int .i64 rad] 191) (.cells #[.int .i64 fx, .int .i64 fy, .int .i64 fz, .int .i64 dx, .int .i64 dy, .int .i64 dz, .int .i64 pt] 101)
    obtain ⟨y0, hy0⟩ : ∃ y0, (w.alloc (.cells #[.int .i64 near, .int .i64 far, .int .i64 k0, .int .i64 k1, .int .i64 p0, .int .i64 p1, .int .i64 p2, .int .i64 p3, .int .i64 p4, .int .i64 p5, .int .i64 p6, .int .i64 p7, .int .i64 p8, .int .i64 rad] 191)).alloc (.cells #[.int .i64 fx, .int .i64 fy, .int .i64 fz, .int .i64 dx, .int .i64 dy, .int .i64 dz, .int .i64 pt] 101) = y0 := ⟨_, rfl⟩
    rw [hy0] at hR HUx ⊢
    clear hy0
    have HU0 := Lib.hid HUx
    clear HUx
    obtain ⟨hr0_0, hr0_1⟩ := hR
    refine wp_region_held_drew (S := fun y => y.heap[w.heap.size]? = some (.cells #[.int .i64 near, .int .i64 far, .int .i64 k0, .int .i64 k1, .int .i64 p0, .int .i64 p1, .int .i64 p2, .int .i64 p3, .int .i64 p4, .int .i64 p5, .int .i64 p6, .int .i64 p7, .int .i64 p8, .int .i64 rad] 191 (0, 0)) ∧ y.heap[w.heap.size + 1]? = some (.cells #[.int .i64 fx, .int .i64 fy, .int .i64 fz, .int .i64 dx, .int .i64 dy, .int .i64 dz, .int .i64 pt] 101 (0, 0))) (by kernel_rfl) (⟨hr0_0, hr0_1⟩) (fun hS0 => ?_)
    obtain ⟨y1, hy1⟩ : ∃ y, y0.drew = y := ⟨_, rfl⟩
    have HU1 := Lib.hid (show Below w.heap.size w y1 by rw [← hy1]; exact HU0.out.drew)
    have hr1_0 : y1.heap[w.heap.size]? = some (.cells #[.int .i64 near, .int .i64 far, .int .i64 k0, .int .i64 k1, .int .i64 p0, .int .i64 p1, .int .i64 p2, .int .i64 p3, .int .i64 p4, .int .i64 p5, .int .i64 p6, .int .i64 p7, .int .i64 p8, .int .i64 rad] 191 (0, 0)) := by rw [← hy1]; exact hr0_0
    have hr1_1 : y1.heap[w.heap.size + 1]? = some (.cells #[.int .i64 fx, .int .i64 fy, .int .i64 fz, .int .i64 dx, .int .i64 dy, .int .i64 dz, .int .i64 pt] 101 (0, 0)) := by rw [← hy1]; exact hr0_1
    rw [hy1] at hS0 ⊢
    clear hy1
    refine wpAnyH_take (i := 0) (v := ?_) rfl (by kernel_rfl) (by kernel_rfl) (by kernel_rfl) (fun _ _ _ h => h) (Or.inl ⟨by kernel_rfl, by (intro wz hSz; go_simp; try with_reducible rfl)⟩) hS0 ?_
    go_simp
    refine wpAnyH_take (i := 1) (v := ?_) rfl (by kernel_rfl) (by kernel_rfl) (by kernel_rfl) (fun _ _ _ h => h) (Or.inl ⟨by kernel_rfl, by (intro wz hSz; go_simp; try with_reducible rfl)⟩) hS0 ?_
    go_simp
    refine wpAnyH_take (i := 2) (v := ?_) rfl (by kernel_rfl) (by kernel_rfl) (by kernel_rfl) (fun _ _ _ h => h) (Or.inl ⟨by kernel_rfl, by (intro wz hSz; have c0_0 := cell_of_row _ _ 0 _ _ _ hSz.1; have c0_1 := cell_of_row _ _ 1 _ _ _ hSz.1; have c0_2 := cell_of_row _ _ 2 _ _ _ hSz.1; have c0_3 := cell_of_row _ _ 3 _ _ _ hSz.1; have c0_4 := cell_of_row _ _ 4 _ _ _ hSz.1; have c0_5 := cell_of_row _ _ 5 _ _ _ hSz.1; have c0_6 := cell_of_row _ _ 6 _ _ _ hSz.1; have c0_7 := cell_of_row _ _ 7 _ _ _ hSz.1; have c0_8 := cell_of_row _ _ 8 _ _ _ hSz.1; have c0_9 := cell_of_row _ _ 9 _ _ _ hSz.1; have c0_10 := cell_of_row _ _ 10 _ _ _ hSz.1; have c0_11 := cell_of_row _ _ 11 _ _ _ hSz.1; have c0_12 := cell_of_row _ _ 12 _ _ _ hSz.1; have c0_13 := cell_of_row _ _ 13 _ _ _ hSz.1; have c1_0 := cell_of_row _ _ 0 _ _ _ hSz.2; have c1_1 := cell_of_row _ _ 1 _ _ _ hSz.2; have c1_2 := cell_of_row _ _ 2 _ _ _ hSz.2; have c1_3 := cell_of_row _ _ 3 _ _ _ hSz.2; have c1_4 := cell_of_row _ _ 4 _ _ _ hSz.2; have c1_5 := cell_of_row _ _ 5 _ _ _ hSz.2; have c1_6 := cell_of_row _ _ 6 _ _ _ hSz.2; simp at c0_0 c0_1 c0_2 c0_3 c0_4 c0_5 c0_6 c0_7 c0_8 c0_9 c0_10 c0_11 c0_12 c0_13 c1_0 c1_1 c1_2 c1_3 c1_4 c1_5 c1_6; go_simp; try with_reducible rfl)⟩) hS0 ?_
    go_simp
    refine wpAnyH_take (i := 3) (v := ?_) rfl (by kernel_rfl) (by kernel_rfl) (by kernel_rfl) (fun _ _ _ h => h) (Or.inl ⟨by kernel_rfl, by (intro wz hSz; go_simp; try with_reducible rfl)⟩) hS0 ?_
    go_simp
    refine wpAnyH_take (i := 4) (v := ?_) rfl (by kernel_rfl) (by kernel_rfl) (by kernel_rfl) (fun _ _ _ h => h) (Or.inl ⟨by kernel_rfl, by (intro wz hSz; go_simp; try with_reducible rfl)⟩) hS0 ?_
    go_simp
    refine wpAnyH_take (i := 5) (v := undef) rfl (by kernel_rfl) (by kernel_rfl) (by kernel_rfl) (fun _ _ _ h => h) (Or.inr ⟨by kernel_rfl, rfl⟩) hS0 ?_
    go_simp
    refine wpAnyH_take (i := 6) (v := undef) rfl (by kernel_rfl) (by kernel_rfl) (by kernel_rfl) (fun _ _ _ h => h) (Or.inr ⟨by kernel_rfl, rfl⟩) hS0 ?_
    go_simp
    refine wpAnyH_take (i := 7) (v := undef) rfl (by kernel_rfl) (by kernel_rfl) (by kernel_rfl) (fun _ _ _ h => h) (Or.inr ⟨by kernel_rfl, rfl⟩) hS0 ?_
    go_simp
    refine wpAnyH_take (i := 8) (v := undef) rfl (by kernel_rfl) (by kernel_rfl) (by kernel_rfl) (fun _ _ _ h => h) (Or.inr ⟨by kernel_rfl, rfl⟩) hS0 ?_
    go_simp
    refine wpAnyH_take (i := 9) (v := ?_) rfl (by kernel_rfl) (by kernel_rfl) (by kernel_rfl) (fun _ _ _ h => h) (Or.inl ⟨by kernel_rfl, by (intro wz hSz; go_simp; try with_reducible rfl)⟩) hS0 ?_
    go_simp
    refine wpAnyH_take (i := 10) (v := ?_) rfl (by kernel_rfl) (by kernel_rfl) (by kernel_rfl) (fun _ _ _ h => h) (Or.inl ⟨by kernel_rfl, by (intro wz hSz; go_simp; try with_reducible rfl)⟩) hS0 ?_
    go_simp
    refine wpAnyH_take (i := 11) (v := undef) rfl (by kernel_rfl) (by kernel_rfl) (by kernel_rfl) (fun _ _ _ h => h) (Or.inr ⟨by kernel_rfl, rfl⟩) hS0 ?_
    go_simp
    refine wpAnyH_take (i := 12) (v := undef) rfl (by kernel_rfl) (by kernel_rfl) (by kernel_rfl) (fun _ _ _ h => h) (Or.inr ⟨by kernel_rfl, rfl⟩) hS0 ?_
    go_simp
    refine wpAnyH_take (i := 13) (v := undef) rfl (by kernel_rfl) (by kernel_rfl) (by kernel_rfl) (fun _ _ _ h => h) (Or.inr ⟨by kernel_rfl, rfl⟩) hS0 ?_
    go_simp
    refine wpAnyH_take (i := 14) (v := undef) rfl (by kernel_rfl) (by kernel_rfl) (by kernel_rfl) (fun _ _ _ h => h) (Or.inr ⟨by kernel_rfl, rfl⟩) hS0 ?_
    go_simp
    refine wpAnyH_take (i := 15) (v := undef) rfl (by kernel_rfl) (by kernel_rfl) (by kernel_rfl) (fun _ _ _ h => h) (Or.inr ⟨by kernel_rfl, rfl⟩) hS0 ?_
    go_simp
    refine wpAnyH_take (i := 16) (v := undef) rfl (by kernel_rfl) (by kernel_rfl) (by kernel_rfl) (fun _ _ _ h => h) (Or.inr ⟨by kernel_rfl, rfl⟩) hS0 ?_
    go_simp
    refine wpAnyH_take (i := 17) (v := undef) rfl (by kernel_rfl) (by kernel_rfl) (by kernel_rfl) (fun _ _ _ h => h) (Or.inr ⟨by kernel_rfl, rfl⟩) hS0 ?_
    go_simp
    refine wpAnyH_take (i := 18) (v := ?_) rfl (by kernel_rfl) (by kernel_rfl) (by kernel_rfl) (fun _ _ _ h => h) (Or.inl ⟨by kernel_rfl, by (intro wz hSz; go_simp; try with_reducible rfl)⟩) hS0 ?_
    go_simp
    refine wpAnyH_take (i := 19) (v := ?_) rfl (by kernel_rfl) (by kernel_rfl) (by kernel_rfl) (fun _ _ _ h => h) (Or.inl ⟨by kernel_rfl, by (intro wz hSz; go_simp; try with_reducible rfl)⟩) hS0 ?_
    go_simp
    refine wpAnyH_done (by kernel_rfl) ?_ _
    go_wp2
    go_ret
    exact ⟨by simp [h1], HU1.out⟩

set_option maxHeartbeats 4000000 in
set_option maxRecDepth 100000 in
theorem hit_turned (fx fy fz dx dy dz pt t nx ny nz : Int) (h : 0 < Pl.add (Pl.add (Pl.add 0 (Pl.mul nx dx)) (Pl.mul ny dy)) (Pl.mul nz dz)) (w : World)  : Calls Try.prog 147 #[.agg #[.int .i64 fx, .int .i64 fy, .int .i64 fz, .int .i64 dx, .int .i64 dy, .int .i64 dz, .int .i64 pt], .int .i64 t, .agg #[.int .i64 nx, .int .i64 ny, .int .i64 nz]] w fun e' w' => e' = .returned (.agg #[.int .i64 t, .int .i64 0, .int .i64 (Pl.add fx (Pl.mul dx t)), .int .i64 (Pl.add fy (Pl.mul dy t)), .int .i64 (Pl.add fz (Pl.mul dz t)), .int .i64 (Pl.sub 0 nx), .int .i64 (Pl.sub 0 ny), .int .i64 (Pl.sub 0 nz)]) ∧ Below w.heap.size w w' := by
  have d := decide_eq_true h
  go_enter Try.func147, Try.ntmps147
  go_upto_region 1 with fail
  have hR := Au.rows3 w (.cells #[.int .i64 fx, .int .i64 fy, .int .i64 fz, .int .i64 dx, .int .i64 dy, .int .i64 dz, .int .i64 pt] 101) (.cells #[.int .i64 nx, .int .i64 ny, .int .i64 nz] 71) (.cells #[.int .i64 0, .int .i64 0, .int .i64 0, .int .i64 0, .int .i64 0, .int .i64 0, .int .i64 0, .int .i64 0] 104)
  have HUx := below_n3 w (.cells #[.int .i64 fx, .int .i64 fy, .int .i64 fz, .int .i64 dx, .int .i64 dy, .int .i64 dz, .int .i64 pt] 101) (.cells #[.int .i64 nx, .int .i64 ny, .int .i64 nz] 71) (.cells #[.int .i64 0, .int .i64 0, .int .i64 0, .int .i64 0, .int .i64 0, .int .i64 0, .int .i64 0, .int .i64 0] 104)
  obtain ⟨y0, hy0⟩ : ∃ y0, ((w.alloc (.cells #[.int .i64 fx, .int .i64 fy, .int .i64 fz, .int .i64 dx, .int .i64 dy, .int .i64 dz, .int .i64 pt] 101)).alloc (.cells #[.int .i64 nx, .int .i64 ny, .int .i64 nz] 71)).alloc (.cells #[.int .i64 0, .int .i64 0, .int .i64 0, .int .i64 0, .int .i64 0, .int .i64 0, .int .i64 0, .int .i64 0] 104) = y0 := ⟨_, rfl⟩
  rw [hy0] at hR HUx ⊢
  clear hy0
  have HU0 := Lib.hid HUx
  clear HUx
  obtain ⟨hr0_0, hr0_1, hr0_2⟩ := hR
  have c0_0 := cell_of_row _ _ 0 _ _ _ hr0_0
  have c0_1 := cell_of_row _ _ 1 _ _ _ hr0_0
  have c0_2 := cell_of_row _ _ 2 _ _ _ hr0_0
  have c0_3 := cell_of_row _ _ 3 _ _ _ hr0_0
  have c0_4 := cell_of_row _ _ 4 _ _ _ hr0_0
  have c0_5 := cell_of_row _ _ 5 _ _ _ hr0_0
  have c0_6 := cell_of_row _ _ 6 _ _ _ hr0_0
  have c1_0 := cell_of_row _ _ 0 _ _ _ hr0_1
  have c1_1 := cell_of_row _ _ 1 _ _ _ hr0_1
  have c1_2 := cell_of_row _ _ 2 _ _ _ hr0_1
  have c2_0 := cell_of_row _ _ 0 _ _ _ hr0_2
  have c2_1 := cell_of_row _ _ 1 _ _ _ hr0_2
  have c2_2 := cell_of_row _ _ 2 _ _ _ hr0_2
  have c2_3 := cell_of_row _ _ 3 _ _ _ hr0_2
  have c2_4 := cell_of_row _ _ 4 _ _ _ hr0_2
  have c2_5 := cell_of_row _ _ 5 _ _ _ hr0_2
  have c2_6 := cell_of_row _ _ 6 _ _ _ hr0_2
  have c2_7 := cell_of_row _ _ 7 _ _ _ hr0_2
  simp at c0_0 c0_1 c0_2 c0_3 c0_4 c0_5 c0_6 c1_0 c1_1 c1_2 c2_0 c2_1 c2_2 c2_3 c2_4 c2_5 c2_6 c2_7
  go_wp2_with fail
  refine (dot_any _ _ _ _ _ _ _).mono ?_
  rintro e y1 ⟨rfl, hb1⟩
  clear c0_0 c0_1 c0_2 c0_3 c0_4 c0_5 c0_6 c1_0 c1_1 c1_2 c2_0 c2_1 c2_2 c2_3 c2_4 c2_5 c2_6 c2_7
  have hr1_0 := (hb1.block _ (lt_heap hr0_0)).trans hr0_0
  have hr1_1 := (hb1.block _ (lt_heap hr0_1)).trans hr0_1
  have hr1_2 := (hb1.block _ (lt_heap hr0_2)).trans hr0_2
  have HU1 := Lib.hid (HU0.out.trans (hb1.mono HU0.out.size))
  clear hr0_0 hr0_1 hr0_2 HU0
  have c0_0 := cell_of_row _ _ 0 _ _ _ hr1_0
  have c0_1 := cell_of_row _ _ 1 _ _ _ hr1_0
  have c0_2 := cell_of_row _ _ 2 _ _ _ hr1_0
  have c0_3 := cell_of_row _ _ 3 _ _ _ hr1_0
  have c0_4 := cell_of_row _ _ 4 _ _ _ hr1_0
  have c0_5 := cell_of_row _ _ 5 _ _ _ hr1_0
  have c0_6 := cell_of_row _ _ 6 _ _ _ hr1_0
  have c1_0 := cell_of_row _ _ 0 _ _ _ hr1_1
  have c1_1 := cell_of_row _ _ 1 _ _ _ hr1_1
  have c1_2 := cell_of_row _ _ 2 _ _ _ hr1_1
  have c2_0 := cell_of_row _ _ 0 _ _ _ hr1_2
  have c2_1 := cell_of_row _ _ 1 _ _ _ hr1_2
  have c2_2 := cell_of_row _ _ 2 _ _ _ hr1_2
  have c2_3 := cell_of_row _ _ 3 _ _ _ hr1_2
  have c2_4 := cell_of_row _ _ 4 _ _ _ hr1_2
  have c2_5 := cell_of_row _ _ 5 _ _ _ hr1_2
  have c2_6 := cell_of_row _ _ 6 _ _ _ hr1_2
  have c2_7 := cell_of_row _ _ 7 _ _ _ hr1_2
  simp at c0_0 c0_1 c0_2 c0_3 c0_4 c0_5 c0_6 c1_0 c1_1 c1_2 c2_0 c2_1 c2_2 c2_3 c2_4 c2_5 c2_6 c2_7
  go_wp2_with fail
  refine (vneg_any _ _ _ _).mono ?_
  rintro e y2 ⟨rfl, hb2⟩
  clear c0_0 c0_1 c0_2 c0_3 c0_4 c0_5 c0_6 c1_0 c1_1 c1_2 c2_0 c2_1 c2_2 c2_3 c2_4 c2_5 c2_6 c2_7
  have hr2_0 := (hb2.block _ (lt_heap hr1_0)).trans hr1_0
  have hr2_1 := (hb2.block _ (lt_heap hr1_1)).trans hr1_1
  have hr2_2 := (hb2.block _ (lt_heap hr1_2)).trans hr1_2
  have HU2 := Lib.hid (HU1.out.trans (hb2.mono HU1.out.size))
  clear hr1_0 hr1_1 hr1_2 HU1
  have hHr := Lib.hid hr2_1
  have hHi := Lib.hid (show (Try.prog.info? 71).map (·.size) = some (#[.int .i64 (Pl.sub 0 nx), .int .i64 (Pl.sub 0 ny), .int .i64 (Pl.sub 0 nz)] : Array Value).size by kernel_rfl)
  have hHz := Lib.hid (show (#[.int .i64 nx, .int .i64 ny, .int .i64 nz] : Array Value).size = (#[.int .i64 (Pl.sub 0 nx), .int .i64 (Pl.sub 0 ny), .int .i64 (Pl.sub 0 nz)] : Array Value).size from rfl)
  have hHo := Lib.hid (show (#[.int .i64 (Pl.sub 0 nx), .int .i64 (Pl.sub 0 ny), .int .i64 (Pl.sub 0 nz)] : Array Value).all (·.oneCell') = true by simp [Value.oneCell'])
  go_wp2_with (first | (refine Au.wpList_store_row rfl 71 (.tmp 5) (.tmp 13) rfl y2 #[.int .i64 nx, .int .i64 ny, .int .i64 nz] #[.int .i64 (Pl.sub 0 nx), .int .i64 (Pl.sub 0 ny), .int .i64 (Pl.sub 0 nz)] (w.heap.size + 1) 71 hHr.out rfl rfl hHi.out hHz.out hHo.out ?_))
  clear hHr hHi hHz hHo
  have hN := setRow_heap _ (w.heap.size + 1) _ #[.int .i64 (Pl.sub 0 nx), .int .i64 (Pl.sub 0 ny), .int .i64 (Pl.sub 0 nz)] _ _ hr2_1
  have hsz := HU2.out.size
  have HUx := below_setRow (g := w.heap.size + 1) HU2.out (by first | omega | (simp at *; omega)) #[.int .i64 (Pl.sub 0 nx), .int .i64 (Pl.sub 0 ny), .int .i64 (Pl.sub 0 nz)]
  have hO : ∀ kk, kk ≠ w.heap.size + 1 → (y2.setRow (w.heap.size + 1) #[.int .i64 (Pl.sub 0 nx), .int .i64 (Pl.sub 0 ny), .int .i64 (Pl.sub 0 nz)]).heap[kk]? = y2.heap[kk]? := fun kk hk => setRow_other _ _ _ _ hk
  obtain ⟨y3, hy3⟩ : ∃ y, y2.setRow (w.heap.size + 1) #[.int .i64 (Pl.sub 0 nx), .int .i64 (Pl.sub 0 ny), .int .i64 (Pl.sub 0 nz)] = y := ⟨_, rfl⟩
  rw [hy3] at hN HUx hO ⊢
  clear hy3 hsz
  have HU3 := Lib.hid HUx
  clear HUx
  have hr3_0 := (hO _ (by omega)).trans hr2_0
  have hr3_1 := hN
  have hr3_2 := (hO _ (by omega)).trans hr2_2
  clear hN hO
  clear hr2_0 hr2_1 hr2_2 HU2
  go_upto_region 3 with fail
  refine wp_region_held_drew (S := fun y => y.heap[w.heap.size]? = some (.cells #[.int .i64 fx, .int .i64 fy, .int .i64 fz, .int .i64 dx, .int .i64 dy, .int .i64 dz, .int .i64 pt] 101 (0, 0)) ∧ y.heap[w.heap.size + 1]? = some (.cells #[.int .i64 (Pl.sub 0 nx), .int .i64 (Pl.sub 0 ny), .int .i64 (Pl.sub 0 nz)] 71 (0, 0))) (by kernel_rfl) (⟨hr3_0, hr3_1⟩) (fun hS0 => ?_)
  obtain ⟨y4, hy4⟩ : ∃ y, y3.drew = y := ⟨_, rfl⟩
  have HU4 := Lib.hid (show Below w.heap.size w y4 by rw [← hy4]; exact HU3.out.drew)
  have hr4_0 : y4.heap[w.heap.size]? = some (.cells #[.int .i64 fx, .int .i64 fy, .int .i64 fz, .int .i64 dx, .int .i64 dy, .int .i64 dz, .int .i64 pt] 101 (0, 0)) := by rw [← hy4]; exact hr3_0
  have hr4_1 : y4.heap[w.heap.size + 1]? = some (.cells #[.int .i64 (Pl.sub 0 nx), .int .i64 (Pl.sub 0 ny), .int .i64 (Pl.sub 0 nz)] 71 (0, 0)) := by rw [← hy4]; exact hr3_1
  have hr4_2 : y4.heap[w.heap.size + 1 + 1]? = some (.cells #[.int .i64 0, .int .i64 0, .int .i64 0, .int .i64 0, .int .i64 0, .int .i64 0, .int .i64 0, .int .i64 0] 104 (0, 0)) := by rw [← hy4]; exact hr3_2
  rw [hy4] at hS0 ⊢
  clear hy4
  refine wpAnyH_take (i := 0) (v := ?_) rfl (by kernel_rfl) (by kernel_rfl) (by kernel_rfl) (fun _ _ _ h => h) (Or.inl ⟨by kernel_rfl, by (intro wz hSz; go_simp; try with_reducible rfl)⟩) hS0 ?_
  go_simp
  refine wpAnyH_take (i := 1) (v := ?_) rfl (by kernel_rfl) (by kernel_rfl) (by kernel_rfl) (fun _ _ _ h => h) (Or.inl ⟨by kernel_rfl, by (intro wz hSz; have c0_0 := cell_of_row _ _ 0 _ _ _ hSz.1; have c0_1 := cell_of_row _ _ 1 _ _ _ hSz.1; have c0_2 := cell_of_row _ _ 2 _ _ _ hSz.1; have c0_3 := cell_of_row _ _ 3 _ _ _ hSz.1; have c0_4 := cell_of_row _ _ 4 _ _ _ hSz.1; have c0_5 := cell_of_row _ _ 5 _ _ _ hSz.1; have c0_6 := cell_of_row _ _ 6 _ _ _ hSz.1; have c1_0 := cell_of_row _ _ 0 _ _ _ hSz.2; have c1_1 := cell_of_row _ _ 1 _ _ _ hSz.2; have c1_2 := cell_of_row _ _ 2 _ _ _ hSz.2; simp at c0_0 c0_1 c0_2 c0_3 c0_4 c0_5 c0_6 c1_0 c1_1 c1_2; go_simp; try with_reducible rfl)⟩) hS0 ?_
  go_simp
  refine wpAnyH_take (i := 2) (v := ?_) rfl (by kernel_rfl) (by kernel_rfl) (by kernel_rfl) (fun _ _ _ h => h) (Or.inl ⟨by kernel_rfl, by (intro wz hSz; go_simp; try with_reducible rfl)⟩) hS0 ?_
  go_simp
  refine wpAnyH_take (i := 4) (v := ?_) rfl (by kernel_rfl) (by kernel_rfl) (by kernel_rfl) (fun _ _ _ h => h) (Or.inl ⟨by kernel_rfl, by (intro wz hSz; have c0_0 := cell_of_row _ _ 0 _ _ _ hSz.1; have c0_1 := cell_of_row _ _ 1 _ _ _ hSz.1; have c0_2 := cell_of_row _ _ 2 _ _ _ hSz.1; have c0_3 := cell_of_row _ _ 3 _ _ _ hSz.1; have c0_4 := cell_of_row _ _ 4 _ _ _ hSz.1; have c0_5 := cell_of_row _ _ 5 _ _ _ hSz.1; have c0_6 := cell_of_row _ _ 6 _ _ _ hSz.1; have c1_0 := cell_of_row _ _ 0 _ _ _ hSz.2; have c1_1 := cell_of_row _ _ 1 _ _ _ hSz.2; have c1_2 := cell_of_row _ _ 2 _ _ _ hSz.2; simp at c0_0 c0_1 c0_2 c0_3 c0_4 c0_5 c0_6 c1_0 c1_1 c1_2; go_simp; try with_reducible rfl)⟩) hS0 ?_
  go_simp
  refine wpAnyH_ready (rs := [3]) (by kernel_rfl) (by simp) ?_
  refine AllReadyH.cons rfl (fun K hK => ?_) AllReadyH.nil
  go_simp
  go_wp2_with (go_at_call 31; refine (ray_at _ _ _ _ _ _ _ _ _).mono ?_; rintro e y5 ⟨rfl, hb5⟩)
  have hr5_0 := (hb5.block _ (lt_heap hr4_0)).trans hr4_0
  have hr5_1 := (hb5.block _ (lt_heap hr4_1)).trans hr4_1
  have hr5_2 := (hb5.block _ (lt_heap hr4_2)).trans hr4_2
  have HU5 := Lib.hid (HU4.out.trans (hb5.mono HU4.out.size))
  refine hK.out _ _ (⟨(hb5.block _ (lt_heap hS0.1)).trans hS0.1, (hb5.block _ (lt_heap hS0.2)).trans hS0.2⟩) (fun hS5c => ?_)
  clear hK K
  refine wpAnyH_take (i := 5) (v := ?_) rfl (by kernel_rfl) (by kernel_rfl) (by kernel_rfl) (fun _ _ _ h => h) (Or.inl ⟨by kernel_rfl, by (intro wz hSz; go_simp; try with_reducible rfl)⟩) hS5c ?_
  go_simp
  refine wpAnyH_ready (rs := [6]) (by kernel_rfl) (by simp) ?_
  refine AllReadyH.cons rfl (fun K hK => ?_) AllReadyH.nil
  refine step_store_row rfl 104 (.tmp 6) (.tmp 19) rfl #[.int .i64 0, .int .i64 0, .int .i64 0, .int .i64 0, .int .i64 0, .int .i64 0, .int .i64 0, .int .i64 0] #[.int .i64 t, .int .i64 0, .int .i64 (Pl.add fx (Pl.mul dx t)), .int .i64 (Pl.add fy (Pl.mul dy t)), .int .i64 (Pl.add fz (Pl.mul dz t)), .int .i64 (Pl.sub 0 nx), .int .i64 (Pl.sub 0 ny), .int .i64 (Pl.sub 0 nz)] _ 104 hr5_2 rfl (by first | rfl | (go_simp; done) | (go_simp; rfl)) (by kernel_rfl) rfl (by simp [Value.oneCell']) ?_
  have hN := setRow_heap _ (w.heap.size + 1 + 1) _ #[.int .i64 t, .int .i64 0, .int .i64 (Pl.add fx (Pl.mul dx t)), .int .i64 (Pl.add fy (Pl.mul dy t)), .int .i64 (Pl.add fz (Pl.mul dz t)), .int .i64 (Pl.sub 0 nx), .int .i64 (Pl.sub 0 ny), .int .i64 (Pl.sub 0 nz)] _ _ hr5_2
  have hsz := HU5.out.size
  have HUx := below_setRow (g := w.heap.size + 1 + 1) HU5.out (by first | omega | (simp at *; omega)) #[.int .i64 t, .int .i64 0, .int .i64 (Pl.add fx (Pl.mul dx t)), .int .i64 (Pl.add fy (Pl.mul dy t)), .int .i64 (Pl.add fz (Pl.mul dz t)), .int .i64 (Pl.sub 0 nx), .int .i64 (Pl.sub 0 ny), .int .i64 (Pl.sub 0 nz)]
  obtain ⟨y6, hy6⟩ : ∃ y, y5.setRow (w.heap.size + 1 + 1) #[.int .i64 t, .int .i64 0, .int .i64 (Pl.add fx (Pl.mul dx t)), .int .i64 (Pl.add fy (Pl.mul dy t)), .int .i64 (Pl.add fz (Pl.mul dz t)), .int .i64 (Pl.sub 0 nx), .int .i64 (Pl.sub 0 ny), .int .i64 (Pl.sub 0 nz)] = y := ⟨_, rfl⟩
  have hO : ∀ k, k ≠ w.heap.size + 1 + 1 → y6.heap[k]? = y5.heap[k]? := fun k hk => by rw [← hy6]; exact setRow_other _ _ _ _ hk
  rw [hy6] at hN HUx ⊢
  clear hy6
  have HU6 := Lib.hid HUx
  clear HUx
  have hr6_0 := (hO _ (by omega)).trans hr5_0
  have hr6_1 := (hO _ (by omega)).trans hr5_1
  have hr6_2 := hN
  clear hN
  refine hK.out _ _ (⟨(hO _ (by omega)).trans hS5c.1, (hO _ (by omega)).trans hS5c.2⟩) (fun hS6s => ?_)
  clear hK K
  refine wpAnyH_done (by kernel_rfl) ?_ _
  have c2_0 := cell_of_row _ _ 0 _ _ _ hr6_2
  have c2_1 := cell_of_row _ _ 1 _ _ _ hr6_2
  have c2_2 := cell_of_row _ _ 2 _ _ _ hr6_2
  have c2_3 := cell_of_row _ _ 3 _ _ _ hr6_2
  have c2_4 := cell_of_row _ _ 4 _ _ _ hr6_2
  have c2_5 := cell_of_row _ _ 5 _ _ _ hr6_2
  have c2_6 := cell_of_row _ _ 6 _ _ _ hr6_2
  have c2_7 := cell_of_row _ _ 7 _ _ _ hr6_2
  simp at c2_0 c2_1 c2_2 c2_3 c2_4 c2_5 c2_6 c2_7
  go_wp2
  exact bodyPost_ret (v := .agg #[.int .i64 t, .int .i64 0, .int .i64 (Pl.add fx (Pl.mul dx t)), .int .i64 (Pl.add fy (Pl.mul dy t)), .int .i64 (Pl.add fz (Pl.mul dz t)), .int .i64 (Pl.sub 0 nx), .int .i64 (Pl.sub 0 ny), .int .i64 (Pl.sub 0 nz)]) (by simp [results, Try.results147, go_sem, c2_0, c2_1, c2_2, c2_3, c2_4, c2_5, c2_6, c2_7]) rfl ⟨rfl, HU6.out⟩

set_option maxHeartbeats 4000000 in
set_option maxRecDepth 100000 in
theorem hit_kept (fx fy fz dx dy dz pt t nx ny nz : Int) (h : ¬ 0 < Pl.add (Pl.add (Pl.add 0 (Pl.mul nx dx)) (Pl.mul ny dy)) (Pl.mul nz dz)) (w : World)  : Calls Try.prog 147 #[.agg #[.int .i64 fx, .int .i64 fy, .int .i64 fz, .int .i64 dx, .int .i64 dy, .int .i64 dz, .int .i64 pt], .int .i64 t, .agg #[.int .i64 nx, .int .i64 ny, .int .i64 nz]] w fun e' w' => e' = .returned (.agg #[.int .i64 t, .int .i64 0, .int .i64 (Pl.add fx (Pl.mul dx t)), .int .i64 (Pl.add fy (Pl.mul dy t)), .int .i64 (Pl.add fz (Pl.mul dz t)), .int .i64 nx, .int .i64 ny, .int .i64 nz]) ∧ Below w.heap.size w w' := by
  have d := decide_eq_false h
  go_enter Try.func147, Try.ntmps147
  go_upto_region 1 with fail
  have hR := Au.rows3 w (.cells #[.int .i64 fx, .int .i64 fy, .int .i64 fz, .int .i64 dx, .int .i64 dy, .int .i64 dz, .int .i64 pt] 101) (.cells #[.int .i64 nx, .int .i64 ny, .int .i64 nz] 71) (.cells #[.int .i64 0, .int .i64 0, .int .i64 0, .int .i64 0, .int .i64 0, .int .i64 0, .int .i64 0, .int .i64 0] 104)
  have HUx := below_n3 w (.cells #[.int .i64 fx, .int .i64 fy, .int .i64 fz, .int .i64 dx, .int .i64 dy, .int .i64 dz, .int .i64 pt] 101) (.cells #[.int .i64 nx, .int .i64 ny, .int .i64 nz] 71) (.cells #[.int .i64 0, .int .i64 0, .int .i64 0, .int .i64 0, .int .i64 0, .int .i64 0, .int .i64 0, .int .i64 0] 104)
  obtain ⟨y0, hy0⟩ : ∃ y0, ((w.alloc (.cells #[.int .i64 fx, .int .i64 fy, .int .i64 fz, .int .i64 dx, .int .i64 dy, .int .i64 dz, .int .i64 pt] 101)).alloc (.cells #[.int .i64 nx, .int .i64 ny, .int .i64 nz] 71)).alloc (.cells #[.int .i64 0, .int .i64 0, .int .i64 0, .int .i64 0, .int .i64 0, .int .i64 0, .int .i64 0, .int .i64 0] 104) = y0 := ⟨_, rfl⟩
  rw [hy0] at hR HUx ⊢
  clear hy0
  have HU0 := Lib.hid HUx
  clear HUx
  obtain ⟨hr0_0, hr0_1, hr0_2⟩ := hR
  have c0_0 := cell_of_row _ _ 0 _ _ _ hr0_0
  have c0_1 := cell_of_row _ _ 1 _ _ _ hr0_0
  have c0_2 := cell_of_row _ _ 2 _ _ _ hr0_0
  have c0_3 := cell_of_row _ _ 3 _ _ _ hr0_0
  have c0_4 := cell_of_row _ _ 4 _ _ _ hr0_0
  have c0_5 := cell_of_row _ _ 5 _ _ _ hr0_0
  have c0_6 := cell_of_row _ _ 6 _ _ _ hr0_0
  have c1_0 := cell_of_row _ _ 0 _ _ _ hr0_1
  have c1_1 := cell_of_row _ _ 1 _ _ _ hr0_1
  have c1_2 := cell_of_row _ _ 2 _ _ _ hr0_1
  have c2_0 := cell_of_row _ _ 0 _ _ _ hr0_2
  have c2_1 := cell_of_row _ _ 1 _ _ _ hr0_2
  have c2_2 := cell_of_row _ _ 2 _ _ _ hr0_2
  have c2_3 := cell_of_row _ _ 3 _ _ _ hr0_2
  have c2_4 := cell_of_row _ _ 4 _ _ _ hr0_2
  have c2_5 := cell_of_row _ _ 5 _ _ _ hr0_2
  have c2_6 := cell_of_row _ _ 6 _ _ _ hr0_2
  have c2_7 := cell_of_row _ _ 7 _ _ _ hr0_2
  simp at c0_0 c0_1 c0_2 c0_3 c0_4 c0_5 c0_6 c1_0 c1_1 c1_2 c2_0 c2_1 c2_2 c2_3 c2_4 c2_5 c2_6 c2_7
  go_wp2_with fail
  refine (dot_any _ _ _ _ _ _ _).mono ?_
  rintro e y1 ⟨rfl, hb1⟩
  clear c0_0 c0_1 c0_2 c0_3 c0_4 c0_5 c0_6 c1_0 c1_1 c1_2 c2_0 c2_1 c2_2 c2_3 c2_4 c2_5 c2_6 c2_7
  have hr1_0 := (hb1.block _ (lt_heap hr0_0)).trans hr0_0
  have hr1_1 := (hb1.block _ (lt_heap hr0_1)).trans hr0_1
  have hr1_2 := (hb1.block _ (lt_heap hr0_2)).trans hr0_2
  have HU1 := Lib.hid (HU0.out.trans (hb1.mono HU0.out.size))
  clear hr0_0 hr0_1 hr0_2 HU0
  go_upto_region 3 with fail
  refine wp_region_held_drew (S := fun y => y.heap[w.heap.size]? = some (.cells #[.int .i64 fx, .int .i64 fy, .int .i64 fz, .int .i64 dx, .int .i64 dy, .int .i64 dz, .int .i64 pt] 101 (0, 0)) ∧ y.heap[w.heap.size + 1]? = some (.cells #[.int .i64 nx, .int .i64 ny, .int .i64 nz] 71 (0, 0))) (by kernel_rfl) (⟨hr1_0, hr1_1⟩) (fun hS0 => ?_)
  obtain ⟨y2, hy2⟩ : ∃ y, y1.drew = y := ⟨_, rfl⟩
  have HU2 := Lib.hid (show Below w.heap.size w y2 by rw [← hy2]; exact HU1.out.drew)
  have hr2_0 : y2.heap[w.heap.size]? = some (.cells #[.int .i64 fx, .int .i64 fy, .int .i64 fz, .int .i64 dx, .int .i64 dy, .int .i64 dz, .int .i64 pt] 101 (0, 0)) := by rw [← hy2]; exact hr1_0
  have hr2_1 : y2.heap[w.heap.size + 1]? = some (.cells #[.int .i64 nx, .int .i64 ny, .int .i64 nz] 71 (0, 0)) := by rw [← hy2]; exact hr1_1
  have hr2_2 : y2.heap[w.heap.size + 1 + 1]? = some (.cells #[.int .i64 0, .int .i64 0, .int .i64 0, .int .i64 0, .int .i64 0, .int .i64 0, .int .i64 0, .int .i64 0] 104 (0, 0)) := by rw [← hy2]; exact hr1_2
  rw [hy2] at hS0 ⊢
  clear hy2
  refine wpAnyH_take (i := 0) (v := ?_) rfl (by kernel_rfl) (by kernel_rfl) (by kernel_rfl) (fun _ _ _ h => h) (Or.inl ⟨by kernel_rfl, by (intro wz hSz; go_simp; try with_reducible rfl)⟩) hS0 ?_
  go_simp
  refine wpAnyH_take (i := 1) (v := ?_) rfl (by kernel_rfl) (by kernel_rfl) (by kernel_rfl) (fun _ _ _ h => h) (Or.inl ⟨by kernel_rfl, by (intro wz hSz; have c0_0 := cell_of_row _ _ 0 _ _ _ hSz.1; have c0_1 := cell_of_row _ _ 1 _ _ _ hSz.1; have c0_2 := cell_of_row _ _ 2 _ _ _ hSz.1; have c0_3 := cell_of_row _ _ 3 _ _ _ hSz.1; have c0_4 := cell_of_row _ _ 4 _ _ _ hSz.1; have c0_5 := cell_of_row _ _ 5 _ _ _ hSz.1; have c0_6 := cell_of_row _ _ 6 _ _ _ hSz.1; have c1_0 := cell_of_row _ _ 0 _ _ _ hSz.2; have c1_1 := cell_of_row _ _ 1 _ _ _ hSz.2; have c1_2 := cell_of_row _ _ 2 _ _ _ hSz.2; simp at c0_0 c0_1 c0_2 c0_3 c0_4 c0_5 c0_6 c1_0 c1_1 c1_2; go_simp; try with_reducible rfl)⟩) hS0 ?_
  go_simp
  refine wpAnyH_take (i := 2) (v := ?_) rfl (by kernel_rfl) (by kernel_rfl) (by kernel_rfl) (fun _ _ _ h => h) (Or.inl ⟨by kernel_rfl, by (intro wz hSz; go_simp; try with_reducible rfl)⟩) hS0 ?_
  go_simp
  refine wpAnyH_take (i := 4) (v := ?_) rfl (by kernel_rfl) (by kernel_rfl) (by kernel_rfl) (fun _ _ _ h => h) (Or.inl ⟨by kernel_rfl, by (intro wz hSz; have c0_0 := cell_of_row _ _ 0 _ _ _ hSz.1; have c0_1 := cell_of_row _ _ 1 _ _ _ hSz.1; have c0_2 := cell_of_row _ _ 2 _ _ _ hSz.1; have c0_3 := cell_of_row _ _ 3 _ _ _ hSz.1; have c0_4 := cell_of_row _ _ 4 _ _ _ hSz.1; have c0_5 := cell_of_row _ _ 5 _ _ _ hSz.1; have c0_6 := cell_of_row _ _ 6 _ _ _ hSz.1; have c1_0 := cell_of_row _ _ 0 _ _ _ hSz.2; have c1_1 := cell_of_row _ _ 1 _ _ _ hSz.2; have c1_2 := cell_of_row _ _ 2 _ _ _ hSz.2; simp at c0_0 c0_1 c0_2 c0_3 c0_4 c0_5 c0_6 c1_0 c1_1 c1_2; go_simp; try with_reducible rfl)⟩) hS0 ?_
  go_simp
  refine wpAnyH_ready (rs := [3]) (by kernel_rfl) (by simp) ?_
  refine AllReadyH.cons rfl (fun K hK => ?_) AllReadyH.nil
  go_simp
  go_wp2_with (go_at_call 31; refine (ray_at _ _ _ _ _ _ _ _ _).mono ?_; rintro e y3 ⟨rfl, hb3⟩)
  have hr3_0 := (hb3.block _ (lt_heap hr2_0)).trans hr2_0
  have hr3_1 := (hb3.block _ (lt_heap hr2_1)).trans hr2_1
  have hr3_2 := (hb3.block _ (lt_heap hr2_2)).trans hr2_2
  have HU3 := Lib.hid (HU2.out.trans (hb3.mono HU2.out.size))
  refine hK.out _ _ (⟨(hb3.block _ (lt_heap hS0.1)).trans hS0.1, (hb3.block _ (lt_heap hS0.2)).trans hS0.2⟩) (fun hS3c => ?_)
  clear hK K
  refine wpAnyH_take (i := 5) (v := ?_) rfl (by kernel_rfl) (by kernel_rfl) (by kernel_rfl) (fun _ _ _ h => h) (Or.inl ⟨by kernel_rfl, by (intro wz hSz; go_simp; try with_reducible rfl)⟩) hS3c ?_
  go_simp
  refine wpAnyH_ready (rs := [6]) (by kernel_rfl) (by simp) ?_
  refine AllReadyH.cons rfl (fun K hK => ?_) AllReadyH.nil
  refine step_store_row rfl 104 (.tmp 6) (.tmp 19) rfl #[.int .i64 0, .int .i64 0, .int .i64 0, .int .i64 0, .int .i64 0, .int .i64 0, .int .i64 0, .int .i64 0] #[.int .i64 t, .int .i64 0, .int .i64 (Pl.add fx (Pl.mul dx t)), .int .i64 (Pl.add fy (Pl.mul dy t)), .int .i64 (Pl.add fz (Pl.mul dz t)), .int .i64 nx, .int .i64 ny, .int .i64 nz] _ 104 hr3_2 rfl (by first | rfl | (go_simp; done) | (go_simp; rfl)) (by kernel_rfl) rfl (by simp [Value.oneCell']) ?_
  have hN := setRow_heap _ (w.heap.size + 1 + 1) _ #[.int .i64 t, .int .i64 0, .int .i64 (Pl.add fx (Pl.mul dx t)), .int .i64 (Pl.add fy (Pl.mul dy t)), .int .i64 (Pl.add fz (Pl.mul dz t)), .int .i64 nx, .int .i64 ny, .int .i64 nz] _ _ hr3_2
  have hsz := HU3.out.size
  have HUx := below_setRow (g := w.heap.size + 1 + 1) HU3.out (by first | omega | (simp at *; omega)) #[.int .i64 t, .int .i64 0, .int .i64 (Pl.add fx (Pl.mul dx t)), .int .i64 (Pl.add fy (Pl.mul dy t)), .int .i64 (Pl.add fz (Pl.mul dz t)), .int .i64 nx, .int .i64 ny, .int .i64 nz]
  obtain ⟨y4, hy4⟩ : ∃ y, y3.setRow (w.heap.size + 1 + 1) #[.int .i64 t, .int .i64 0, .int .i64 (Pl.add fx (Pl.mul dx t)), .int .i64 (Pl.add fy (Pl.mul dy t)), .int .i64 (Pl.add fz (Pl.mul dz t)), .int .i64 nx, .int .i64 ny, .int .i64 nz] = y := ⟨_, rfl⟩
  have hO : ∀ k, k ≠ w.heap.size + 1 + 1 → y4.heap[k]? = y3.heap[k]? := fun k hk => by rw [← hy4]; exact setRow_other _ _ _ _ hk
  rw [hy4] at hN HUx ⊢
  clear hy4
  have HU4 := Lib.hid HUx
  clear HUx
  have hr4_0 := (hO _ (by omega)).trans hr3_0
  have hr4_1 := (hO _ (by omega)).trans hr3_1
  have hr4_2 := hN
  clear hN
  refine hK.out _ _ (⟨(hO _ (by omega)).trans hS3c.1, (hO _ (by omega)).trans hS3c.2⟩) (fun hS4s => ?_)
  clear hK K
  refine wpAnyH_done (by kernel_rfl) ?_ _
  have c2_0 := cell_of_row _ _ 0 _ _ _ hr4_2
  have c2_1 := cell_of_row _ _ 1 _ _ _ hr4_2
  have c2_2 := cell_of_row _ _ 2 _ _ _ hr4_2
  have c2_3 := cell_of_row _ _ 3 _ _ _ hr4_2
  have c2_4 := cell_of_row _ _ 4 _ _ _ hr4_2
  have c2_5 := cell_of_row _ _ 5 _ _ _ hr4_2
  have c2_6 := cell_of_row _ _ 6 _ _ _ hr4_2
  have c2_7 := cell_of_row _ _ 7 _ _ _ hr4_2
  simp at c2_0 c2_1 c2_2 c2_3 c2_4 c2_5 c2_6 c2_7
  go_wp2
  exact bodyPost_ret (v := .agg #[.int .i64 t, .int .i64 0, .int .i64 (Pl.add fx (Pl.mul dx t)), .int .i64 (Pl.add fy (Pl.mul dy t)), .int .i64 (Pl.add fz (Pl.mul dz t)), .int .i64 nx, .int .i64 ny, .int .i64 nz]) (by simp [results, Try.results147, go_sem, c2_0, c2_1, c2_2, c2_3, c2_4, c2_5, c2_6, c2_7]) rfl ⟨rfl, HU4.out⟩

set_option maxHeartbeats 8000000 in
set_option maxRecDepth 100000 in
theorem roots_low (fx fy fz dx dy dz pt cx cy cz rad gx gy gz A B G D U : Int) (egx : Pl.sub fx cx = gx) (egy : Pl.sub fy cy = gy) (egz : Pl.sub fz cz = gz) (eA : Pl.add (Pl.add (Pl.add 0 (Pl.mul dx dx)) (Pl.mul dy dy)) (Pl.mul dz dz) = A) (eB : Pl.add (Pl.add (Pl.add 0 (Pl.mul gx dx)) (Pl.mul gy dy)) (Pl.mul gz dz) = B) (eG : Pl.add (Pl.add (Pl.add 0 (Pl.mul gx gx)) (Pl.mul gy gy)) (Pl.mul gz gz) = G) (eD : Pl.sub G (Pl.mul rad rad) = D) (eU : Pl.sub (Pl.mul B B) (Pl.mul A D) = U) (h : U < 0) (w : World)  : Calls Try.prog 145 #[.agg #[.int .i64 fx, .int .i64 fy, .int .i64 fz, .int .i64 dx, .int .i64 dy, .int .i64 dz, .int .i64 pt], .agg #[.int .i64 cx, .int .i64 cy, .int .i64 cz], .int .i64 rad] w fun e' w' => e' = .returned (.tuple #[.agg #[.int .i64 0, .int .i64 0], .bool false]) ∧ Below w.heap.size w w' := by
  have Hh := Lib.hid h
  clear h
  go_enter Try.func145, Try.ntmps145
  go_upto_region 1 with fail
  have hR := Au.rows3 w (.cells #[.int .i64 fx, .int .i64 fy, .int .i64 fz, .int .i64 dx, .int .i64 dy, .int .i64 dz, .int .i64 pt] 101) (.cells #[.int .i64 cx, .int .i64 cy, .int .i64 cz] 71) (.cells #[.int .i64 0, .int .i64 0] 239)
  have HUx := below_n3 w (.cells #[.int .i64 fx, .int .i64 fy, .int .i64 fz, .int .i64 dx, .int .i64 dy, .int .i64 dz, .int .i64 pt] 101) (.cells #[.int .i64 cx, .int .i64 cy, .int .i64 cz] 71) (.cells #[.int .i64 0, .int .i64 0] 239)
  obtain ⟨y0, hy0⟩ : ∃ y0, ((w.alloc (.cells #[.int .i64 fx, .int .i64 fy, .int .i64 fz, .int .i64 dx, .int .i64 dy, .int .i64 dz, .int .i64 pt] 101)).alloc (.cells #[.int .i64 cx, .int .i64 cy, .int .i64 cz] 71)).alloc (.cells #[.int .i64 0, .int .i64 0] 239) = y0 := ⟨_, rfl⟩
  rw [hy0] at hR HUx ⊢
  clear hy0
  have HU0 := Lib.hid HUx
  clear HUx
  obtain ⟨hr0_0, hr0_1, hr0_2⟩ := hR
  have c0_0 := cell_of_row _ _ 0 _ _ _ hr0_0
  have c0_1 := cell_of_row _ _ 1 _ _ _ hr0_0
  have c0_2 := cell_of_row _ _ 2 _ _ _ hr0_0
  have c0_3 := cell_of_row _ _ 3 _ _ _ hr0_0
  have c0_4 := cell_of_row _ _ 4 _ _ _ hr0_0
  have c0_5 := cell_of_row _ _ 5 _ _ _ hr0_0
  have c0_6 := cell_of_row _ _ 6 _ _ _ hr0_0
  have c1_0 := cell_of_row _ _ 0 _ _ _ hr0_1
  have c1_1 := cell_of_row _ _ 1 _ _ _ hr0_1
  have c1_2 := cell_of_row _ _ 2 _ _ _ hr0_1
  have c2_0 := cell_of_row _ _ 0 _ _ _ hr0_2
  have c2_1 := cell_of_row _ _ 1 _ _ _ hr0_2
  simp at c0_0 c0_1 c0_2 c0_3 c0_4 c0_5 c0_6 c1_0 c1_1 c1_2 c2_0 c2_1
  go_wp2_with fail
  refine (vsub_any _ _ _ _ _ _ _).mono ?_
  rintro e y1 ⟨rfl, hb1⟩
  clear c0_0 c0_1 c0_2 c0_3 c0_4 c0_5 c0_6 c1_0 c1_1 c1_2 c2_0 c2_1
  have hr1_0 := (hb1.block _ (lt_heap hr0_0)).trans hr0_0
  have hr1_1 := (hb1.block _ (lt_heap hr0_1)).trans hr0_1
  have hr1_2 := (hb1.block _ (lt_heap hr0_2)).trans hr0_2
  have HU1 := Lib.hid (HU0.out.trans (hb1.mono HU0.out.size))
  clear hr0_0 hr0_1 hr0_2 HU0
  try rw [egx, egy, egz]
  have c0_0 := cell_of_row _ _ 0 _ _ _ hr1_0
  have c0_1 := cell_of_row _ _ 1 _ _ _ hr1_0
  have c0_2 := cell_of_row _ _ 2 _ _ _ hr1_0
  have c0_3 := cell_of_row _ _ 3 _ _ _ hr1_0
  have c0_4 := cell_of_row _ _ 4 _ _ _ hr1_0
  have c0_5 := cell_of_row _ _ 5 _ _ _ hr1_0
  have c0_6 := cell_of_row _ _ 6 _ _ _ hr1_0
  have c1_0 := cell_of_row _ _ 0 _ _ _ hr1_1
  have c1_1 := cell_of_row _ _ 1 _ _ _ hr1_1
  have c1_2 := cell_of_row _ _ 2 _ _ _ hr1_1
  have c2_0 := cell_of_row _ _ 0 _ _ _ hr1_2
  have c2_1 := cell_of_row _ _ 1 _ _ _ hr1_2
  simp at c0_0 c0_1 c0_2 c0_3 c0_4 c0_5 c0_6 c1_0 c1_1 c1_2 c2_0 c2_1
  go_upto_region 2 with fail
  clear c0_0 c0_1 c0_2 c0_3 c0_4 c0_5 c0_6 c1_0 c1_1 c1_2 c2_0 c2_1
  have hb2 := below_n1 y1 (.cells #[.int .i64 gx, .int .i64 gy, .int .i64 gz] 71)
  have hN := heap_alloc_last y1 (.cells #[.int .i64 gx, .int .i64 gy, .int .i64 gz] 71)
  obtain ⟨y2, hy2⟩ : ∃ y, y1.alloc (.cells #[.int .i64 gx, .int .i64 gy, .int .i64 gz] 71) = y := ⟨_, rfl⟩
  have hs2 : y2.heap.size = y1.heap.size + 1 := by rw [← hy2]; simp
  rw [hy2] at hb2 hN ⊢
  clear hy2
  have hl2_0 := lt_heap hr1_0
  have hl2_1 := lt_heap hr1_1
  have hl2_2 := lt_heap hr1_2
  have hr2_0 := (hb2.block _ (lt_heap hr1_0)).trans hr1_0
  have hr2_1 := (hb2.block _ (lt_heap hr1_1)).trans hr1_1
  have hr2_2 := (hb2.block _ (lt_heap hr1_2)).trans hr1_2
  have HU2 := Lib.hid (HU1.out.trans (hb2.mono HU1.out.size))
  clear hr1_0 hr1_1 hr1_2 HU1
  have hr2_3 := hN
  clear hN
  refine wp_region_held_drew (S := fun y => y.heap[w.heap.size]? = some (.cells #[.int .i64 fx, .int .i64 fy, .int .i64 fz, .int .i64 dx, .int .i64 dy, .int .i64 dz, .int .i64 pt] 101 (0, 0)) ∧ y.heap[y1.heap.size]? = some (.cells #[.int .i64 gx, .int .i64 gy, .int .i64 gz] 71 (0, 0))) (by kernel_rfl) (⟨hr2_0, hr2_3⟩) (fun hS0 => ?_)
  obtain ⟨y3, hy3⟩ : ∃ y, y2.drew = y := ⟨_, rfl⟩
  have HU3 := Lib.hid (show Below w.heap.size w y3 by rw [← hy3]; exact HU2.out.drew)
  have hr3_0 : y3.heap[w.heap.size]? = some (.cells #[.int .i64 fx, .int .i64 fy, .int .i64 fz, .int .i64 dx, .int .i64 dy, .int .i64 dz, .int .i64 pt] 101 (0, 0)) := by rw [← hy3]; exact hr2_0
  have hr3_1 : y3.heap[w.heap.size + 1]? = some (.cells #[.int .i64 cx, .int .i64 cy, .int .i64 cz] 71 (0, 0)) := by rw [← hy3]; exact hr2_1
  have hr3_2 : y3.heap[w.heap.size + 1 + 1]? = some (.cells #[.int .i64 0, .int .i64 0] 239 (0, 0)) := by rw [← hy3]; exact hr2_2
  have hr3_3 : y3.heap[y1.heap.size]? = some (.cells #[.int .i64 gx, .int .i64 gy, .int .i64 gz] 71 (0, 0)) := by rw [← hy3]; exact hr2_3
  rw [hy3] at hS0 ⊢
  clear hy3
  refine wpAnyH_take (i := 0) (v := ?_) rfl (by kernel_rfl) (by kernel_rfl) (by kernel_rfl) (fun _ _ _ h => h) (Or.inl ⟨by kernel_rfl, by (intro wz hSz; go_simp; try with_reducible rfl)⟩) hS0 ?_
  go_simp
  refine wpAnyH_take (i := 1) (v := ?_) rfl (by kernel_rfl) (by kernel_rfl) (by kernel_rfl) (fun _ _ _ h => h) (Or.inl ⟨by kernel_rfl, by (intro wz hSz; have c0_0 := cell_of_row _ _ 0 _ _ _ hSz.1; have c0_1 := cell_of_row _ _ 1 _ _ _ hSz.1; have c0_2 := cell_of_row _ _ 2 _ _ _ hSz.1; have c0_3 := cell_of_row _ _ 3 _ _ _ hSz.1; have c0_4 := cell_of_row _ _ 4 _ _ _ hSz.1; have c0_5 := cell_of_row _ _ 5 _ _ _ hSz.1; have c0_6 := cell_of_row _ _ 6 _ _ _ hSz.1; have c3_0 := cell_of_row _ _ 0 _ _ _ hSz.2; have c3_1 := cell_of_row _ _ 1 _ _ _ hSz.2; have c3_2 := cell_of_row _ _ 2 _ _ _ hSz.2; simp at c0_0 c0_1 c0_2 c0_3 c0_4 c0_5 c0_6 c3_0 c3_1 c3_2; go_simp; try with_reducible rfl)⟩) hS0 ?_
  go_simp
  refine wpAnyH_take (i := 2) (v := ?_) rfl (by kernel_rfl) (by kernel_rfl) (by kernel_rfl) (fun _ _ _ h => h) (Or.inl ⟨by kernel_rfl, by (intro wz hSz; go_simp; try with_reducible rfl)⟩) hS0 ?_
  go_simp
  refine wpAnyH_take (i := 3) (v := ?_) rfl (by kernel_rfl) (by kernel_rfl) (by kernel_rfl) (fun _ _ _ h => h) (Or.inl ⟨by kernel_rfl, by (intro wz hSz; have c0_0 := cell_of_row _ _ 0 _ _ _ hSz.1; have c0_1 := cell_of_row _ _ 1 _ _ _ hSz.1; have c0_2 := cell_of_row _ _ 2 _ _ _ hSz.1; have c0_3 := cell_of_row _ _ 3 _ _ _ hSz.1; have c0_4 := cell_of_row _ _ 4 _ _ _ hSz.1; have c0_5 := cell_of_row _ _ 5 _ _ _ hSz.1; have c0_6 := cell_of_row _ _ 6 _ _ _ hSz.1; have c3_0 := cell_of_row _ _ 0 _ _ _ hSz.2; have c3_1 := cell_of_row _ _ 1 _ _ _ hSz.2; have c3_2 := cell_of_row _ _ 2 _ _ _ hSz.2; simp at c0_0 c0_1 c0_2 c0_3 c0_4 c0_5 c0_6 c3_0 c3_1 c3_2; go_simp; try with_reducible rfl)⟩) hS0 ?_
  go_simp
  refine wpAnyH_take (i := 5) (v := ?_) rfl (by kernel_rfl) (by kernel_rfl) (by kernel_rfl) (fun _ _ _ h => h) (Or.inl ⟨by kernel_rfl, by (intro wz hSz; have c0_0 := cell_of_row _ _ 0 _ _ _ hSz.1; have c0_1 := cell_of_row _ _ 1 _ _ _ hSz.1; have c0_2 := cell_of_row _ _ 2 _ _ _ hSz.1; have c0_3 := cell_of_row _ _ 3 _ _ _ hSz.1; have c0_4 := cell_of_row _ _ 4 _ _ _ hSz.1; have c0_5 := cell_of_row _ _ 5 _ _ _ hSz.1; have c0_6 := cell_of_row _ _ 6 _ _ _ hSz.1; have c3_0 := cell_of_row _ _ 0 _ _ _ hSz.2; have c3_1 := cell_of_row _ _ 1 _ _ _ hSz.2; have c3_2 := cell_of_row _ _ 2 _ _ _ hSz.2; simp at c0_0 c0_1 c0_2 c0_3 c0_4 c0_5 c0_6 c3_0 c3_1 c3_2; go_simp; try with_reducible rfl)⟩) hS0 ?_
  go_simp
  refine wpAnyH_take (i := 6) (v := ?_) rfl (by kernel_rfl) (by kernel_rfl) (by kernel_rfl) (fun _ _ _ h => h) (Or.inl ⟨by kernel_rfl, by (intro wz hSz; go_simp; try with_reducible rfl)⟩) hS0 ?_
  go_simp
  refine wpAnyH_take (i := 7) (v := ?_) rfl (by kernel_rfl) (by kernel_rfl) (by kernel_rfl) (fun _ _ _ h => h) (Or.inl ⟨by kernel_rfl, by (intro wz hSz; have c0_0 := cell_of_row _ _ 0 _ _ _ hSz.1; have c0_1 := cell_of_row _ _ 1 _ _ _ hSz.1; have c0_2 := cell_of_row _ _ 2 _ _ _ hSz.1; have c0_3 := cell_of_row _ _ 3 _ _ _ hSz.1; have c0_4 := cell_of_row _ _ 4 _ _ _ hSz.1; have c0_5 := cell_of_row _ _ 5 _ _ _ hSz.1; have c0_6 := cell_of_row _ _ 6 _ _ _ hSz.1; have c3_0 := cell_of_row _ _ 0 _ _ _ hSz.2; have c3_1 := cell_of_row _ _ 1 _ _ _ hSz.2; have c3_2 := cell_of_row _ _ 2 _ _ _ hSz.2; simp at c0_0 c0_1 c0_2 c0_3 c0_4 c0_5 c0_6 c3_0 c3_1 c3_2; go_simp; try with_reducible rfl)⟩) hS0 ?_
  go_simp
  refine wpAnyH_ready (rs := [4]) (by kernel_rfl) (by simp) ?_
  refine AllReadyH.cons rfl (fun K hK => ?_) AllReadyH.nil
  go_simp
  go_wp2_with (go_at_call 87; refine (dot_any _ _ _ _ _ _ _).mono ?_; rintro e y4 ⟨rfl, hb4⟩; rw [eA])
  have hr4_0 := (hb4.block _ (lt_heap hr3_0)).trans hr3_0
  have hr4_1 := (hb4.block _ (lt_heap hr3_1)).trans hr3_1
  have hr4_2 := (hb4.block _ (lt_heap hr3_2)).trans hr3_2
  have hr4_3 := (hb4.block _ (lt_heap hr3_3)).trans hr3_3
  have HU4 := Lib.hid (HU3.out.trans (hb4.mono HU3.out.size))
  refine hK.out _ _ (⟨(hb4.block _ (lt_heap hS0.1)).trans hS0.1, (hb4.block _ (lt_heap hS0.2)).trans hS0.2⟩) (fun hS4c => ?_)
  clear hK K
  refine wpAnyH_ready (rs := [8]) (by kernel_rfl) (by simp) ?_
  refine AllReadyH.cons rfl (fun K hK => ?_) AllReadyH.nil
  go_simp
  go_wp2_with (go_at_call 87; refine (dot_any _ _ _ _ _ _ _).mono ?_; rintro e y5 ⟨rfl, hb5⟩; rw [eB])
  have hr5_0 := (hb5.block _ (lt_heap hr4_0)).trans hr4_0
  have hr5_1 := (hb5.block _ (lt_heap hr4_1)).trans hr4_1
  have hr5_2 := (hb5.block _ (lt_heap hr4_2)).trans hr4_2
  have hr5_3 := (hb5.block _ (lt_heap hr4_3)).trans hr4_3
  have HU5 := Lib.hid (HU4.out.trans (hb5.mono HU4.out.size))
  refine hK.out _ _ (⟨(hb5.block _ (lt_heap hS4c.1)).trans hS4c.1, (hb5.block _ (lt_heap hS4c.2)).trans hS4c.2⟩) (fun hS5c => ?_)
  clear hK K
  refine wpAnyH_take (i := 9) (v := ?_) rfl (by kernel_rfl) (by kernel_rfl) (by kernel_rfl) (fun _ _ _ h => h) (Or.inl ⟨by kernel_rfl, by (intro wz hSz; go_simp; try with_reducible rfl)⟩) hS5c ?_
  go_simp
  refine wpAnyH_take (i := 10) (v := ?_) rfl (by kernel_rfl) (by kernel_rfl) (by kernel_rfl) (fun _ _ _ h => h) (Or.inl ⟨by kernel_rfl, by (intro wz hSz; go_simp; try with_reducible rfl)⟩) hS5c ?_
  go_simp
  refine wpAnyH_done (by kernel_rfl) ?_ _
  have c3_0 := cell_of_row _ _ 0 _ _ _ hr5_3
  have c3_1 := cell_of_row _ _ 1 _ _ _ hr5_3
  have c3_2 := cell_of_row _ _ 2 _ _ _ hr5_3
  simp at c3_0 c3_1 c3_2
  go_wp2_with fail
  refine (dot_any _ _ _ _ _ _ _).mono ?_
  rintro e y6 ⟨rfl, hb6⟩
  clear c3_0 c3_1 c3_2
  have hr6_0 := (hb6.block _ (lt_heap hr5_0)).trans hr5_0
  have hr6_1 := (hb6.block _ (lt_heap hr5_1)).trans hr5_1
  have hr6_2 := (hb6.block _ (lt_heap hr5_2)).trans hr5_2
  have hr6_3 := (hb6.block _ (lt_heap hr5_3)).trans hr5_3
  have HU6 := Lib.hid (HU5.out.trans (hb6.mono HU5.out.size))
  clear hr5_0 hr5_1 hr5_2 hr5_3 HU5
  try rw [eG]
  go_wp2_with fail
  refine (mul_any _ _ _).mono ?_
  rintro e ww ⟨rfl, rfl⟩
  go_wp2_with fail
  refine (sub_any _ _ _).mono ?_
  rintro e ww ⟨rfl, rfl⟩
  try rw [eD]
  go_wp2_with fail
  refine (mul_any _ _ _).mono ?_
  rintro e ww ⟨rfl, rfl⟩
  go_wp2_with fail
  refine (mul_any _ _ _).mono ?_
  rintro e ww ⟨rfl, rfl⟩
  go_wp2_with fail
  refine (sub_any _ _ _).mono ?_
  rintro e ww ⟨rfl, rfl⟩
  try rw [eU]
  have h := Hh.out
  have d1 := decide_eq_true h
  go_upto_region 6 with fail
  have hHr := Lib.hid hr6_2
  have hHi := Lib.hid (show (Try.prog.info? 239).map (·.size) = some (#[.int .i64 0, .int .i64 0] : Array Value).size by kernel_rfl)
  have hHz := Lib.hid (show (#[.int .i64 0, .int .i64 0] : Array Value).size = (#[.int .i64 0, .int .i64 0] : Array Value).size from rfl)
  have hHo := Lib.hid (show (#[.int .i64 0, .int .i64 0] : Array Value).all (·.oneCell') = true by simp [Value.oneCell'])
  go_wp2_with (first | (refine Au.wpList_store_row rfl 239 (.tmp 6) (.tmp 47) rfl y6 #[.int .i64 0, .int .i64 0] #[.int .i64 0, .int .i64 0] (w.heap.size + 1 + 1) 239 hHr.out rfl rfl hHi.out hHz.out hHo.out ?_))
  clear hHr hHi hHz hHo
  have hN := setRow_heap _ (w.heap.size + 1 + 1) _ #[.int .i64 0, .int .i64 0] _ _ hr6_2
  have hsz := HU6.out.size
  have HUx := below_setRow (g := w.heap.size + 1 + 1) HU6.out (by first | omega | (simp at *; omega)) #[.int .i64 0, .int .i64 0]
  have hO : ∀ kk, kk ≠ w.heap.size + 1 + 1 → (y6.setRow (w.heap.size + 1 + 1) #[.int .i64 0, .int .i64 0]).heap[kk]? = y6.heap[kk]? := fun kk hk => setRow_other _ _ _ _ hk
  obtain ⟨y7, hy7⟩ : ∃ y, y6.setRow (w.heap.size + 1 + 1) #[.int .i64 0, .int .i64 0] = y := ⟨_, rfl⟩
  rw [hy7] at hN HUx hO ⊢
  clear hy7 hsz
  have HU7 := Lib.hid HUx
  clear HUx
  have hr7_0 := (hO _ (by omega)).trans hr6_0
  have hr7_1 := (hO _ (by omega)).trans hr6_1
  have hr7_2 := hN
  have hr7_3 := (hO _ (by omega)).trans hr6_3
  clear hN hO
  clear hr6_0 hr6_1 hr6_2 hr6_3 HU6
  have c2_0 := cell_of_row _ _ 0 _ _ _ hr7_2
  have c2_1 := cell_of_row _ _ 1 _ _ _ hr7_2
  simp at c2_0 c2_1
  go_wp2
  exact bodyPost_ret (v := .tuple #[.agg #[.int .i64 0, .int .i64 0], .bool false]) (by simp [results, Try.results145, go_sem, c2_0, c2_1]) rfl ⟨rfl, HU7.out⟩

set_option maxHeartbeats 8000000 in
set_option maxRecDepth 100000 in
theorem roots_flat (fx fy fz dx dy dz pt cx cy cz rad gx gy gz A B G D U : Int) (egx : Pl.sub fx cx = gx) (egy : Pl.sub fy cy = gy) (egz : Pl.sub fz cz = gz) (eA : Pl.add (Pl.add (Pl.add 0 (Pl.mul dx dx)) (Pl.mul dy dy)) (Pl.mul dz dz) = A) (eB : Pl.add (Pl.add (Pl.add 0 (Pl.mul gx dx)) (Pl.mul gy dy)) (Pl.mul gz dz) = B) (eG : Pl.add (Pl.add (Pl.add 0 (Pl.mul gx gx)) (Pl.mul gy gy)) (Pl.mul gz gz) = G) (eD : Pl.sub G (Pl.mul rad rad) = D) (eU : Pl.sub (Pl.mul B B) (Pl.mul A D) = U) (h : ¬ U < 0) (h2 : A = 0) (w : World)  : Calls Try.prog 145 #[.agg #[.int .i64 fx, .int .i64 fy, .int .i64 fz, .int .i64 dx, .int .i64 dy, .int .i64 dz, .int .i64 pt], .agg #[.int .i64 cx, .int .i64 cy, .int .i64 cz], .int .i64 rad] w fun e' w' => e' = .returned (.tuple #[.agg #[.int .i64 0, .int .i64 0], .bool false]) ∧ Below w.heap.size w w' := by
  have Hh := Lib.hid h
  clear h
  have Hh2 := Lib.hid h2
  clear h2
  go_enter Try.func145, Try.ntmps145
  go_upto_region 1 with fail
  have hR := Au.rows3 w (.cells #[.int .i64 fx, .int .i64 fy, .int .i64 fz, .int .i64 dx, .int .i64 dy, .int .i64 dz, .int .i64 pt] 101) (.cells #[.int .i64 cx, .int .i64 cy, .int .i64 cz] 71) (.cells #[.int .i64 0, .int .i64 0] 239)
  have HUx := below_n3 w (.cells #[.int .i64 fx, .int .i64 fy, .int .i64 fz, .int .i64 dx, .int .i64 dy, .int .i64 dz, .int .i64 pt] 101) (.cells #[.int .i64 cx, .int .i64 cy, .int .i64 cz] 71) (.cells #[.int .i64 0, .int .i64 0] 239)
  obtain ⟨y0, hy0⟩ : ∃ y0, ((w.alloc (.cells #[.int .i64 fx, .int .i64 fy, .int .i64 fz, .int .i64 dx, .int .i64 dy, .int .i64 dz, .int .i64 pt] 101)).alloc (.cells #[.int .i64 cx, .int .i64 cy, .int .i64 cz] 71)).alloc (.cells #[.int .i64 0, .int .i64 0] 239) = y0 := ⟨_, rfl⟩
  rw [hy0] at hR HUx ⊢
  clear hy0
  have HU0 := Lib.hid HUx
  clear HUx
  obtain ⟨hr0_0, hr0_1, hr0_2⟩ := hR
  have c0_0 := cell_of_row _ _ 0 _ _ _ hr0_0
  have c0_1 := cell_of_row _ _ 1 _ _ _ hr0_0
  have c0_2 := cell_of_row _ _ 2 _ _ _ hr0_0
  have c0_3 := cell_of_row _ _ 3 _ _ _ hr0_0
  have c0_4 := cell_of_row _ _ 4 _ _ _ hr0_0
  have c0_5 := cell_of_row _ _ 5 _ _ _ hr0_0
  have c0_6 := cell_of_row _ _ 6 _ _ _ hr0_0
  have c1_0 := cell_of_row _ _ 0 _ _ _ hr0_1
  have c1_1 := cell_of_row _ _ 1 _ _ _ hr0_1
  have c1_2 := cell_of_row _ _ 2 _ _ _ hr0_1
  have c2_0 := cell_of_row _ _ 0 _ _ _ hr0_2
  have c2_1 := cell_of_row _ _ 1 _ _ _ hr0_2
  simp at c0_0 c0_1 c0_2 c0_3 c0_4 c0_5 c0_6 c1_0 c1_1 c1_2 c2_0 c2_1
  go_wp2_with fail
  refine (vsub_any _ _ _ _ _ _ _).mono ?_
  rintro e y1 ⟨rfl, hb1⟩
  clear c0_0 c0_1 c0_2 c0_3 c0_4 c0_5 c0_6 c1_0 c1_1 c1_2 c2_0 c2_1
  have hr1_0 := (hb1.block _ (lt_heap hr0_0)).trans hr0_0
  have hr1_1 := (hb1.block _ (lt_heap hr0_1)).trans hr0_1
  have hr1_2 := (hb1.block _ (lt_heap hr0_2)).trans hr0_2
  have HU1 := Lib.hid (HU0.out.trans (hb1.mono HU0.out.size))
  clear hr0_0 hr0_1 hr0_2 HU0
  try rw [egx, egy, egz]
  have c0_0 := cell_of_row _ _ 0 _ _ _ hr1_0
  have c0_1 := cell_of_row _ _ 1 _ _ _ hr1_0
  have c0_2 := cell_of_row _ _ 2 _ _ _ hr1_0
  have c0_3 := cell_of_row _ _ 3 _ _ _ hr1_0
  have c0_4 := cell_of_row _ _ 4 _ _ _ hr1_0
  have c0_5 := cell_of_row _ _ 5 _ _ _ hr1_0
  have c0_6 := cell_of_row _ _ 6 _ _ _ hr1_0
  have c1_0 := cell_of_row _ _ 0 _ _ _ hr1_1
  have c1_1 := cell_of_row _ _ 1 _ _ _ hr1_1
  have c1_2 := cell_of_row _ _ 2 _ _ _ hr1_1
  have c2_0 := cell_of_row _ _ 0 _ _ _ hr1_2
  have c2_1 := cell_of_row _ _ 1 _ _ _ hr1_2
  simp at c0_0 c0_1 c0_2 c0_3 c0_4 c0_5 c0_6 c1_0 c1_1 c1_2 c2_0 c2_1
  go_upto_region 2 with fail
  clear c0_0 c0_1 c0_2 c0_3 c0_4 c0_5 c0_6 c1_0 c1_1 c1_2 c2_0 c2_1
  have hb2 := below_n1 y1 (.cells #[.int .i64 gx, .int .i64 gy, .int .i64 gz] 71)
  have hN := heap_alloc_last y1 (.cells #[.int .i64 gx, .int .i64 gy, .int .i64 gz] 71)
  obtain ⟨y2, hy2⟩ : ∃ y, y1.alloc (.cells #[.int .i64 gx, .int .i64 gy, .int .i64 gz] 71) = y := ⟨_, rfl⟩
  have hs2 : y2.heap.size = y1.heap.size + 1 := by rw [← hy2]; simp
  rw [hy2] at hb2 hN ⊢
  clear hy2
  have hl2_0 := lt_heap hr1_0
  have hl2_1 := lt_heap hr1_1
  have hl2_2 := lt_heap hr1_2
  have hr2_0 := (hb2.block _ (lt_heap hr1_0)).trans hr1_0
  have hr2_1 := (hb2.block _ (lt_heap hr1_1)).trans hr1_1
  have hr2_2 := (hb2.block _ (lt_heap hr1_2)).trans hr1_2
  have HU2 := Lib.hid (HU1.out.trans (hb2.mono HU1.out.size))
  clear hr1_0 hr1_1 hr1_2 HU1
  have hr2_3 := hN
  clear hN
  refine wp_region_held_drew (S := fun y => y.heap[w.heap.size]? = some (.cells #[.int .i64 fx, .int .i64 fy, .int .i64 fz, .int .i64 dx, .int .i64 dy, .int .i64 dz, .int .i64 pt] 101 (0, 0)) ∧ y.heap[y1.heap.size]? = some (.cells #[.int .i64 gx, .int .i64 gy, .int .i64 gz] 71 (0, 0))) (by kernel_rfl) (⟨hr2_0, hr2_3⟩) (fun hS0 => ?_)
  obtain ⟨y3, hy3⟩ : ∃ y, y2.drew = y := ⟨_, rfl⟩
  have HU3 := Lib.hid (show Below w.heap.size w y3 by rw [← hy3]; exact HU2.out.drew)
  have hr3_0 : y3.heap[w.heap.size]? = some (.cells #[.int .i64 fx, .int .i64 fy, .int .i64 fz, .int .i64 dx, .int .i64 dy, .int .i64 dz, .int .i64 pt] 101 (0, 0)) := by rw [← hy3]; exact hr2_0
  have hr3_1 : y3.heap[w.heap.size + 1]? = some (.cells #[.int .i64 cx, .int .i64 cy, .int .i64 cz] 71 (0, 0)) := by rw [← hy3]; exact hr2_1
  have hr3_2 : y3.heap[w.heap.size + 1 + 1]? = some (.cells #[.int .i64 0, .int .i64 0] 239 (0, 0)) := by rw [← hy3]; exact hr2_2
  have hr3_3 : y3.heap[y1.heap.size]? = some (.cells #[.int .i64 gx, .int .i64 gy, .int .i64 gz] 71 (0, 0)) := by rw [← hy3]; exact hr2_3
  rw [hy3] at hS0 ⊢
  clear hy3
  refine wpAnyH_take (i := 0) (v := ?_) rfl (by kernel_rfl) (by kernel_rfl) (by kernel_rfl) (fun _ _ _ h => h) (Or.inl ⟨by kernel_rfl, by (intro wz hSz; go_simp; try with_reducible rfl)⟩) hS0 ?_
  go_simp
  refine wpAnyH_take (i := 1) (v := ?_) rfl (by kernel_rfl) (by kernel_rfl) (by kernel_rfl) (fun _ _ _ h => h) (Or.inl ⟨by kernel_rfl, by (intro wz hSz; have c0_0 := cell_of_row _ _ 0 _ _ _ hSz.1; have c0_1 := cell_of_row _ _ 1 _ _ _ hSz.1; have c0_2 := cell_of_row _ _ 2 _ _ _ hSz.1; have c0_3 := cell_of_row _ _ 3 _ _ _ hSz.1; have c0_4 := cell_of_row _ _ 4 _ _ _ hSz.1; have c0_5 := cell_of_row _ _ 5 _ _ _ hSz.1; have c0_6 := cell_of_row _ _ 6 _ _ _ hSz.1; have c3_0 := cell_of_row _ _ 0 _ _ _ hSz.2; have c3_1 := cell_of_row _ _ 1 _ _ _ hSz.2; have c3_2 := cell_of_row _ _ 2 _ _ _ hSz.2; simp at c0_0 c0_1 c0_2 c0_3 c0_4 c0_5 c0_6 c3_0 c3_1 c3_2; go_simp; try with_reducible rfl)⟩) hS0 ?_
  go_simp
  refine wpAnyH_take (i := 2) (v := ?_) rfl (by kernel_rfl) (by kernel_rfl) (by kernel_rfl) (fun _ _ _ h => h) (Or.inl ⟨by kernel_rfl, by (intro wz hSz; go_simp; try with_reducible rfl)⟩) hS0 ?_
  go_simp
  refine wpAnyH_take (i := 3) (v := ?_) rfl (by kernel_rfl) (by kernel_rfl) (by kernel_rfl) (fun _ _ _ h => h) (Or.inl ⟨by kernel_rfl, by (intro wz hSz; have c0_0 := cell_of_row _ _ 0 _ _ _ hSz.1; have c0_1 := cell_of_row _ _ 1 _ _ _ hSz.1; have c0_2 := cell_of_row _ _ 2 _ _ _ hSz.1; have c0_3 := cell_of_row _ _ 3 _ _ _ hSz.1; have c0_4 := cell_of_row _ _ 4 _ _ _ hSz.1; have c0_5 := cell_of_row _ _ 5 _ _ _ hSz.1; have c0_6 := cell_of_row _ _ 6 _ _ _ hSz.1; have c3_0 := cell_of_row _ _ 0 _ _ _ hSz.2; have c3_1 := cell_of_row _ _ 1 _ _ _ hSz.2; have c3_2 := cell_of_row _ _ 2 _ _ _ hSz.2; simp at c0_0 c0_1 c0_2 c0_3 c0_4 c0_5 c0_6 c3_0 c3_1 c3_2; go_simp; try with_reducible rfl)⟩) hS0 ?_
  go_simp
  refine wpAnyH_take (i := 5) (v := ?_) rfl (by kernel_rfl) (by kernel_rfl) (by kernel_rfl) (fun _ _ _ h => h) (Or.inl ⟨by kernel_rfl, by (intro wz hSz; have c0_0 := cell_of_row _ _ 0 _ _ _ hSz.1; have c0_1 := cell_of_row _ _ 1 _ _ _ hSz.1; have c0_2 := cell_of_row _ _ 2 _ _ _ hSz.1; have c0_3 := cell_of_row _ _ 3 _ _ _ hSz.1; have c0_4 := cell_of_row _ _ 4 _ _ _ hSz.1; have c0_5 := cell_of_row _ _ 5 _ _ _ hSz.1; have c0_6 := cell_of_row _ _ 6 _ _ _ hSz.1; have c3_0 := cell_of_row _ _ 0 _ _ _ hSz.2; have c3_1 := cell_of_row _ _ 1 _ _ _ hSz.2; have c3_2 := cell_of_row _ _ 2 _ _ _ hSz.2; simp at c0_0 c0_1 c0_2 c0_3 c0_4 c0_5 c0_6 c3_0 c3_1 c3_2; go_simp; try with_reducible rfl)⟩) hS0 ?_
  go_simp
  refine wpAnyH_take (i := 6) (v := ?_) rfl (by kernel_rfl) (by kernel_rfl) (by kernel_rfl) (fun _ _ _ h => h) (Or.inl ⟨by kernel_rfl, by (intro wz hSz; go_simp; try with_reducible rfl)⟩) hS0 ?_
  go_simp
  refine wpAnyH_take (i := 7) (v := ?_) rfl (by kernel_rfl) (by kernel_rfl) (by kernel_rfl) (fun _ _ _ h => h) (Or.inl ⟨by kernel_rfl, by (intro wz hSz; have c0_0 := cell_of_row _ _ 0 _ _ _ hSz.1; have c0_1 := cell_of_row _ _ 1 _ _ _ hSz.1; have c0_2 := cell_of_row _ _ 2 _ _ _ hSz.1; have c0_3 := cell_of_row _ _ 3 _ _ _ hSz.1; have c0_4 := cell_of_row _ _ 4 _ _ _ hSz.1; have c0_5 := cell_of_row _ _ 5 _ _ _ hSz.1; have c0_6 := cell_of_row _ _ 6 _ _ _ hSz.1; have c3_0 := cell_of_row _ _ 0 _ _ _ hSz.2; have c3_1 := cell_of_row _ _ 1 _ _ _ hSz.2; have c3_2 := cell_of_row _ _ 2 _ _ _ hSz.2; simp at c0_0 c0_1 c0_2 c0_3 c0_4 c0_5 c0_6 c3_0 c3_1 c3_2; go_simp; try with_reducible rfl)⟩) hS0 ?_
  go_simp
  refine wpAnyH_ready (rs := [4]) (by kernel_rfl) (by simp) ?_
  refine AllReadyH.cons rfl (fun K hK => ?_) AllReadyH.nil
  go_simp
  go_wp2_with (go_at_call 87; refine (dot_any _ _ _ _ _ _ _).mono ?_; rintro e y4 ⟨rfl, hb4⟩; rw [eA])
  have hr4_0 := (hb4.block _ (lt_heap hr3_0)).trans hr3_0
  have hr4_1 := (hb4.block _ (lt_heap hr3_1)).trans hr3_1
  have hr4_2 := (hb4.block _ (lt_heap hr3_2)).trans hr3_2
  have hr4_3 := (hb4.block _ (lt_heap hr3_3)).trans hr3_3
  have HU4 := Lib.hid (HU3.out.trans (hb4.mono HU3.out.size))
  refine hK.out _ _ (⟨(hb4.block _ (lt_heap hS0.1)).trans hS0.1, (hb4.block _ (lt_heap hS0.2)).trans hS0.2⟩) (fun hS4c => ?_)
  clear hK K
  refine wpAnyH_ready (rs := [8]) (by kernel_rfl) (by simp) ?_
  refine AllReadyH.cons rfl (fun K hK => ?_) AllReadyH.nil
  go_simp
  go_wp2_with (go_at_call 87; refine (dot_any _ _ _ _ _ _ _).mono ?_; rintro e y5 ⟨rfl, hb5⟩; rw [eB])
  have hr5_0 := (hb5.block _ (lt_heap hr4_0)).trans hr4_0
  have hr5_1 := (hb5.block _ (lt_heap hr4_1)).trans hr4_1
  have hr5_2 := (hb5.block _ (lt_heap hr4_2)).trans hr4_2
  have hr5_3 := (hb5.block _ (lt_heap hr4_3)).trans hr4_3
  have HU5 := Lib.hid (HU4.out.trans (hb5.mono HU4.out.size))
  refine hK.out _ _ (⟨(hb5.block _ (lt_heap hS4c.1)).trans hS4c.1, (hb5.block _ (lt_heap hS4c.2)).trans hS4c.2⟩) (fun hS5c => ?_)
  clear hK K
  refine wpAnyH_take (i := 9) (v := ?_) rfl (by kernel_rfl) (by kernel_rfl) (by kernel_rfl) (fun _ _ _ h => h) (Or.inl ⟨by kernel_rfl, by (intro wz hSz; go_simp; try with_reducible rfl)⟩) hS5c ?_
  go_simp
  refine wpAnyH_take (i := 10) (v := ?_) rfl (by kernel_rfl) (by kernel_rfl) (by kernel_rfl) (fun _ _ _ h => h) (Or.inl ⟨by kernel_rfl, by (intro wz hSz; go_simp; try with_reducible rfl)⟩) hS5c ?_
  go_simp
  refine wpAnyH_done (by kernel_rfl) ?_ _
  have c3_0 := cell_of_row _ _ 0 _ _ _ hr5_3
  have c3_1 := cell_of_row _ _ 1 _ _ _ hr5_3
  have c3_2 := cell_of_row _ _ 2 _ _ _ hr5_3
  simp at c3_0 c3_1 c3_2
  go_wp2_with fail
  refine (dot_any _ _ _ _ _ _ _).mono ?_
  rintro e y6 ⟨rfl, hb6⟩
  clear c3_0 c3_1 c3_2
  have hr6_0 := (hb6.block _ (lt_heap hr5_0)).trans hr5_0
  have hr6_1 := (hb6.block _ (lt_heap hr5_1)).trans hr5_1
  have hr6_2 := (hb6.block _ (lt_heap hr5_2)).trans hr5_2
  have hr6_3 := (hb6.block _ (lt_heap hr5_3)).trans hr5_3
  have HU6 := Lib.hid (HU5.out.trans (hb6.mono HU5.out.size))
  clear hr5_0 hr5_1 hr5_2 hr5_3 HU5
  try rw [eG]
  go_wp2_with fail
  refine (mul_any _ _ _).mono ?_
  rintro e ww ⟨rfl, rfl⟩
  go_wp2_with fail
  refine (sub_any _ _ _).mono ?_
  rintro e ww ⟨rfl, rfl⟩
  try rw [eD]
  go_wp2_with fail
  refine (mul_any _ _ _).mono ?_
  rintro e ww ⟨rfl, rfl⟩
  go_wp2_with fail
  refine (mul_any _ _ _).mono ?_
  rintro e ww ⟨rfl, rfl⟩
  go_wp2_with fail
  refine (sub_any _ _ _).mono ?_
  rintro e ww ⟨rfl, rfl⟩
  try rw [eU]
  have h := Hh.out
  have h2 := Hh2.out
  have d1 := decide_eq_false (show ¬ U < 0 by omega)
  have d2 : (A == 0) = true := by simpa using h2
  have d3 := decide_eq_true h2
  go_upto_region 6 with fail
  have hHr := Lib.hid hr6_2
  have hHi := Lib.hid (show (Try.prog.info? 239).map (·.size) = some (#[.int .i64 0, .int .i64 0] : Array Value).size by kernel_rfl)
  have hHz := Lib.hid (show (#[.int .i64 0, .int .i64 0] : Array Value).size = (#[.int .i64 0, .int .i64 0] : Array Value).size from rfl)
  have hHo := Lib.hid (show (#[.int .i64 0, .int .i64 0] : Array Value).all (·.oneCell') = true by simp [Value.oneCell'])
  go_wp2_with (first | (refine Au.wpList_store_row rfl 239 (.tmp 6) (.tmp 47) rfl y6 #[.int .i64 0, .int .i64 0] #[.int .i64 0, .int .i64 0] (w.heap.size + 1 + 1) 239 hHr.out rfl rfl hHi.out hHz.out hHo.out ?_))
  clear hHr hHi hHz hHo
  have hN := setRow_heap _ (w.heap.size + 1 + 1) _ #[.int .i64 0, .int .i64 0] _ _ hr6_2
  have hsz := HU6.out.size
  have HUx := below_setRow (g := w.heap.size + 1 + 1) HU6.out (by first | omega | (simp at *; omega)) #[.int .i64 0, .int .i64 0]
  have hO : ∀ kk, kk ≠ w.heap.size + 1 + 1 → (y6.setRow (w.heap.size + 1 + 1) #[.int .i64 0, .int .i64 0]).heap[kk]? = y6.heap[kk]? := fun kk hk => setRow_other _ _ _ _ hk
  obtain ⟨y7, hy7⟩ : ∃ y, y6.setRow (w.heap.size + 1 + 1) #[.int .i64 0, .int .i64 0] = y := ⟨_, rfl⟩
  rw [hy7] at hN HUx hO ⊢
  clear hy7 hsz
  have HU7 := Lib.hid HUx
  clear HUx
  have hr7_0 := (hO _ (by omega)).trans hr6_0
  have hr7_1 := (hO _ (by omega)).trans hr6_1
  have hr7_2 := hN
  have hr7_3 := (hO _ (by omega)).trans hr6_3
  clear hN hO
  clear hr6_0 hr6_1 hr6_2 hr6_3 HU6
  have c2_0 := cell_of_row _ _ 0 _ _ _ hr7_2
  have c2_1 := cell_of_row _ _ 1 _ _ _ hr7_2
  simp at c2_0 c2_1
  go_wp2
  exact bodyPost_ret (v := .tuple #[.agg #[.int .i64 0, .int .i64 0], .bool false]) (by simp [results, Try.results145, go_sem, c2_0, c2_1]) rfl ⟨rfl, HU7.out⟩

set_option maxHeartbeats 8000000 in
set_option maxRecDepth 100000 in
theorem roots_some (fx fy fz dx dy dz pt cx cy cz rad gx gy gz A B G D U : Int) (egx : Pl.sub fx cx = gx) (egy : Pl.sub fy cy = gy) (egz : Pl.sub fz cz = gz) (eA : Pl.add (Pl.add (Pl.add 0 (Pl.mul dx dx)) (Pl.mul dy dy)) (Pl.mul dz dz) = A) (eB : Pl.add (Pl.add (Pl.add 0 (Pl.mul gx dx)) (Pl.mul gy dy)) (Pl.mul gz dz) = B) (eG : Pl.add (Pl.add (Pl.add 0 (Pl.mul gx gx)) (Pl.mul gy gy)) (Pl.mul gz gz) = G) (eD : Pl.sub G (Pl.mul rad rad) = D) (eU : Pl.sub (Pl.mul B B) (Pl.mul A D) = U) (h : ¬ U < 0) (h2 : ¬ A = 0) (w : World)  : Calls Try.prog 145 #[.agg #[.int .i64 fx, .int .i64 fy, .int .i64 fz, .int .i64 dx, .int .i64 dy, .int .i64 dz, .int .i64 pt], .agg #[.int .i64 cx, .int .i64 cy, .int .i64 cz], .int .i64 rad] w fun e' w' => e' = .returned (.tuple #[.agg #[.int .i64 (Pl.div (Pl.sub (-Pl.held B) (Pl.root U)) A), .int .i64 (Pl.div (Pl.sub (Pl.root U) B) A)], .bool true]) ∧ Below w.heap.size w w' := by
  have Hh := Lib.hid h
  clear h
  have Hh2 := Lib.hid h2
  clear h2
  go_enter Try.func145, Try.ntmps145
  go_upto_region 1 with fail
  have hR := Au.rows3 w (.cells #[.int .i64 fx, .int .i64 fy, .int .i64 fz, .int .i64 dx, .int .i64 dy, .int .i64 dz, .int .i64 pt] 101) (.cells #[.int .i64 cx, .int .i64 cy, .int .i64 cz] 71) (.cells #[.int .i64 0, .int .i64 0] 239)
  have HUx := below_n3 w (.cells #[.int .i64 fx, .int .i64 fy, .int .i64 fz, .int .i64 dx, .int .i64 dy, .int .i64 dz, .int .i64 pt] 101) (.cells #[.int .i64 cx, .int .i64 cy, .int .i64 cz] 71) (.cells #[.int .i64 0, .int .i64 0] 239)
  obtain ⟨y0, hy0⟩ : ∃ y0, ((w.alloc (.cells #[.int .i64 fx, .int .i64 fy, .int .i64 fz, .int .i64 dx, .int .i64 dy, .int .i64 dz, .int .i64 pt] 101)).alloc (.cells #[.int .i64 cx, .int .i64 cy, .int .i64 cz] 71)).alloc (.cells #[.int .i64 0, .int .i64 0] 239) = y0 := ⟨_, rfl⟩
  rw [hy0] at hR HUx ⊢
  clear hy0
  have HU0 := Lib.hid HUx
  clear HUx
  obtain ⟨hr0_0, hr0_1, hr0_2⟩ := hR
  have c0_0 := cell_of_row _ _ 0 _ _ _ hr0_0
  have c0_1 := cell_of_row _ _ 1 _ _ _ hr0_0
  have c0_2 := cell_of_row _ _ 2 _ _ _ hr0_0
  have c0_3 := cell_of_row _ _ 3 _ _ _ hr0_0
  have c0_4 := cell_of_row _ _ 4 _ _ _ hr0_0
  have c0_5 := cell_of_row _ _ 5 _ _ _ hr0_0
  have c0_6 := cell_of_row _ _ 6 _ _ _ hr0_0
  have c1_0 := cell_of_row _ _ 0 _ _ _ hr0_1
  have c1_1 := cell_of_row _ _ 1 _ _ _ hr0_1
  have c1_2 := cell_of_row _ _ 2 _ _ _ hr0_1
  have c2_0 := cell_of_row _ _ 0 _ _ _ hr0_2
  have c2_1 := cell_of_row _ _ 1 _ _ _ hr0_2
  simp at c0_0 c0_1 c0_2 c0_3 c0_4 c0_5 c0_6 c1_0 c1_1 c1_2 c2_0 c2_1
  go_wp2_with fail
  refine (vsub_any _ _ _ _ _ _ _).mono ?_
  rintro e y1 ⟨rfl, hb1⟩
  clear c0_0 c0_1 c0_2 c0_3 c0_4 c0_5 c0_6 c1_0 c1_1 c1_2 c2_0 c2_1
  have hr1_0 := (hb1.block _ (lt_heap hr0_0)).trans hr0_0
  have hr1_1 := (hb1.block _ (lt_heap hr0_1)).trans hr0_1
  have hr1_2 := (hb1.block _ (lt_heap hr0_2)).trans hr0_2
  have HU1 := Lib.hid (HU0.out.trans (hb1.mono HU0.out.size))
  clear hr0_0 hr0_1 hr0_2 HU0
  try rw [egx, egy, egz]
  have c0_0 := cell_of_row _ _ 0 _ _ _ hr1_0
  have c0_1 := cell_of_row _ _ 1 _ _ _ hr1_0
  have c0_2 := cell_of_row _ _ 2 _ _ _ hr1_0
  have c0_3 := cell_of_row _ _ 3 _ _ _ hr1_0
  have c0_4 := cell_of_row _ _ 4 _ _ _ hr1_0
  have c0_5 := cell_of_row _ _ 5 _ _ _ hr1_0
  have c0_6 := cell_of_row _ _ 6 _ _ _ hr1_0
  have c1_0 := cell_of_row _ _ 0 _ _ _ hr1_1
  have c1_1 := cell_of_row _ _ 1 _ _ _ hr1_1
  have c1_2 := cell_of_row _ _ 2 _ _ _ hr1_1
  have c2_0 := cell_of_row _ _ 0 _ _ _ hr1_2
  have c2_1 := cell_of_row _ _ 1 _ _ _ hr1_2
  simp at c0_0 c0_1 c0_2 c0_3 c0_4 c0_5 c0_6 c1_0 c1_1 c1_2 c2_0 c2_1
  go_upto_region 2 with fail
  clear c0_0 c0_1 c0_2 c0_3 c0_4 c0_5 c0_6 c1_0 c1_1 c1_2 c2_0 c2_1
  have hb2 := below_n1 y1 (.cells #[.int .i64 gx, .int .i64 gy, .int .i64 gz] 71)
  have hN := heap_alloc_last y1 (.cells #[.int .i64 gx, .int .i64 gy, .int .i64 gz] 71)
  obtain ⟨y2, hy2⟩ : ∃ y, y1.alloc (.cells #[.int .i64 gx, .int .i64 gy, .int .i64 gz] 71) = y := ⟨_, rfl⟩
  have hs2 : y2.heap.size = y1.heap.size + 1 := by rw [← hy2]; simp
  rw [hy2] at hb2 hN ⊢
  clear hy2
  have hl2_0 := lt_heap hr1_0
  have hl2_1 := lt_heap hr1_1
  have hl2_2 := lt_heap hr1_2
  have hr2_0 := (hb2.block _ (lt_heap hr1_0)).trans hr1_0
  have hr2_1 := (hb2.block _ (lt_heap hr1_1)).trans hr1_1
  have hr2_2 := (hb2.block _ (lt_heap hr1_2)).trans hr1_2
  have HU2 := Lib.hid (HU1.out.trans (hb2.mono HU1.out.size))
  clear hr1_0 hr1_1 hr1_2 HU1
  have hr2_3 := hN
  clear hN
  refine wp_region_held_drew (S := fun y => y.heap[w.heap.size]? = some (.cells #[.int .i64 fx, .int .i64 fy, .int .i64 fz, .int .i64 dx, .int .i64 dy, .int .i64 dz, .int .i64 pt] 101 (0, 0)) ∧ y.heap[y1.heap.size]? = some (.cells #[.int .i64 gx, .int .i64 gy, .int .i64 gz] 71 (0, 0))) (by kernel_rfl) (⟨hr2_0, hr2_3⟩) (fun hS0 => ?_)
  obtain ⟨y3, hy3⟩ : ∃ y, y2.drew = y := ⟨_, rfl⟩
  have HU3 := Lib.hid (show Below w.heap.size w y3 by rw [← hy3]; exact HU2.out.drew)
  have hr3_0 : y3.heap[w.heap.size]? = some (.cells #[.int .i64 fx, .int .i64 fy, .int .i64 fz, .int .i64 dx, .int .i64 dy, .int .i64 dz, .int .i64 pt] 101 (0, 0)) := by rw [← hy3]; exact hr2_0
  have hr3_1 : y3.heap[w.heap.size + 1]? = some (.cells #[.int .i64 cx, .int .i64 cy, .int .i64 cz] 71 (0, 0)) := by rw [← hy3]; exact hr2_1
  have hr3_2 : y3.heap[w.heap.size + 1 + 1]? = some (.cells #[.int .i64 0, .int .i64 0] 239 (0, 0)) := by rw [← hy3]; exact hr2_2
  have hr3_3 : y3.heap[y1.heap.size]? = some (.cells #[.int .i64 gx, .int .i64 gy, .int .i64 gz] 71 (0, 0)) := by rw [← hy3]; exact hr2_3
  rw [hy3] at hS0 ⊢
  clear hy3
  refine wpAnyH_take (i := 0) (v := ?_) rfl (by kernel_rfl) (by kernel_rfl) (by kernel_rfl) (fun _ _ _ h => h) (Or.inl ⟨by kernel_rfl, by (intro wz hSz; go_simp; try with_reducible rfl)⟩) hS0 ?_
  go_simp
  refine wpAnyH_take (i := 1) (v := ?_) rfl (by kernel_rfl) (by kernel_rfl) (by kernel_rfl) (fun _ _ _ h => h) (Or.inl ⟨by kernel_rfl, by (intro wz hSz; have c0_0 := cell_of_row _ _ 0 _ _ _ hSz.1; have c0_1 := cell_of_row _ _ 1 _ _ _ hSz.1; have c0_2 := cell_of_row _ _ 2 _ _ _ hSz.1; have c0_3 := cell_of_row _ _ 3 _ _ _ hSz.1; have c0_4 := cell_of_row _ _ 4 _ _ _ hSz.1; have c0_5 := cell_of_row _ _ 5 _ _ _ hSz.1; have c0_6 := cell_of_row _ _ 6 _ _ _ hSz.1; have c3_0 := cell_of_row _ _ 0 _ _ _ hSz.2; have c3_1 := cell_of_row _ _ 1 _ _ _ hSz.2; have c3_2 := cell_of_row _ _ 2 _ _ _ hSz.2; simp at c0_0 c0_1 c0_2 c0_3 c0_4 c0_5 c0_6 c3_0 c3_1 c3_2; go_simp; try with_reducible rfl)⟩) hS0 ?_
  go_simp
  refine wpAnyH_take (i := 2) (v := ?_) rfl (by kernel_rfl) (by kernel_rfl) (by kernel_rfl) (fun _ _ _ h => h) (Or.inl ⟨by kernel_rfl, by (intro wz hSz; go_simp; try with_reducible rfl)⟩) hS0 ?_
  go_simp
  refine wpAnyH_take (i := 3) (v := ?_) rfl (by kernel_rfl) (by kernel_rfl) (by kernel_rfl) (fun _ _ _ h => h) (Or.inl ⟨by kernel_rfl, by (intro wz hSz; have c0_0 := cell_of_row _ _ 0 _ _ _ hSz.1; have c0_1 := cell_of_row _ _ 1 _ _ _ hSz.1; have c0_2 := cell_of_row _ _ 2 _ _ _ hSz.1; have c0_3 := cell_of_row _ _ 3 _ _ _ hSz.1; have c0_4 := cell_of_row _ _ 4 _ _ _ hSz.1; have c0_5 := cell_of_row _ _ 5 _ _ _ hSz.1; have c0_6 := cell_of_row _ _ 6 _ _ _ hSz.1; have c3_0 := cell_of_row _ _ 0 _ _ _ hSz.2; have c3_1 := cell_of_row _ _ 1 _ _ _ hSz.2; have c3_2 := cell_of_row _ _ 2 _ _ _ hSz.2; simp at c0_0 c0_1 c0_2 c0_3 c0_4 c0_5 c0_6 c3_0 c3_1 c3_2; go_simp; try with_reducible rfl)⟩) hS0 ?_
  go_simp
  refine wpAnyH_take (i := 5) (v := ?_) rfl (by kernel_rfl) (by kernel_rfl) (by kernel_rfl) (fun _ _ _ h => h) (Or.inl ⟨by kernel_rfl, by (intro wz hSz; have c0_0 := cell_of_row _ _ 0 _ _ _ hSz.1; have c0_1 := cell_of_row _ _ 1 _ _ _ hSz.1; have c0_2 := cell_of_row _ _ 2 _ _ _ hSz.1; have c0_3 := cell_of_row _ _ 3 _ _ _ hSz.1; have c0_4 := cell_of_row _ _ 4 _ _ _ hSz.1; have c0_5 := cell_of_row _ _ 5 _ _ _ hSz.1; have c0_6 := cell_of_row _ _ 6 _ _ _ hSz.1; have c3_0 := cell_of_row _ _ 0 _ _ _ hSz.2; have c3_1 := cell_of_row _ _ 1 _ _ _ hSz.2; have c3_2 := cell_of_row _ _ 2 _ _ _ hSz.2; simp at c0_0 c0_1 c0_2 c0_3 c0_4 c0_5 c0_6 c3_0 c3_1 c3_2; go_simp; try with_reducible rfl)⟩) hS0 ?_
  go_simp
  refine wpAnyH_take (i := 6) (v := ?_) rfl (by kernel_rfl) (by kernel_rfl) (by kernel_rfl) (fun _ _ _ h => h) (Or.inl ⟨by kernel_rfl, by (intro wz hSz; go_simp; try with_reducible rfl)⟩) hS0 ?_
  go_simp
  refine wpAnyH_take (i := 7) (v := ?_) rfl (by kernel_rfl) (by kernel_rfl) (by kernel_rfl) (fun _ _ _ h => h) (Or.inl ⟨by kernel_rfl, by (intro wz hSz; have c0_0 := cell_of_row _ _ 0 _ _ _ hSz.1; have c0_1 := cell_of_row _ _ 1 _ _ _ hSz.1; have c0_2 := cell_of_row _ _ 2 _ _ _ hSz.1; have c0_3 := cell_of_row _ _ 3 _ _ _ hSz.1; have c0_4 := cell_of_row _ _ 4 _ _ _ hSz.1; have c0_5 := cell_of_row _ _ 5 _ _ _ hSz.1; have c0_6 := cell_of_row _ _ 6 _ _ _ hSz.1; have c3_0 := cell_of_row _ _ 0 _ _ _ hSz.2; have c3_1 := cell_of_row _ _ 1 _ _ _ hSz.2; have c3_2 := cell_of_row _ _ 2 _ _ _ hSz.2; simp at c0_0 c0_1 c0_2 c0_3 c0_4 c0_5 c0_6 c3_0 c3_1 c3_2; go_simp; try with_reducible rfl)⟩) hS0 ?_
  go_simp
  refine wpAnyH_ready (rs := [4]) (by kernel_rfl) (by simp) ?_
  refine AllReadyH.cons rfl (fun K hK => ?_) AllReadyH.nil
  go_simp
  go_wp2_with (go_at_call 87; refine (dot_any _ _ _ _ _ _ _).mono ?_; rintro e y4 ⟨rfl, hb4⟩; rw [eA])
  have hr4_0 := (hb4.block _ (lt_heap hr3_0)).trans hr3_0
  have hr4_1 := (hb4.block _ (lt_heap hr3_1)).trans hr3_1
  have hr4_2 := (hb4.block _ (lt_heap hr3_2)).trans hr3_2
  have hr4_3 := (hb4.block _ (lt_heap hr3_3)).trans hr3_3
  have HU4 := Lib.hid (HU3.out.trans (hb4.mono HU3.out.size))
  refine hK.out _ _ (⟨(hb4.block _ (lt_heap hS0.1)).trans hS0.1, (hb4.block _ (lt_heap hS0.2)).trans hS0.2⟩) (fun hS4c => ?_)
  clear hK K
  refine wpAnyH_ready (rs := [8]) (by kernel_rfl) (by simp) ?_
  refine AllReadyH.cons rfl (fun K hK => ?_) AllReadyH.nil
  go_simp
  go_wp2_with (go_at_call 87; refine (dot_any _ _ _ _ _ _ _).mono ?_; rintro e y5 ⟨rfl, hb5⟩; rw [eB])
  have hr5_0 := (hb5.block _ (lt_heap hr4_0)).trans hr4_0
  have hr5_1 := (hb5.block _ (lt_heap hr4_1)).trans hr4_1
  have hr5_2 := (hb5.block _ (lt_heap hr4_2)).trans hr4_2
  have hr5_3 := (hb5.block _ (lt_heap hr4_3)).trans hr4_3
  have HU5 := Lib.hid (HU4.out.trans (hb5.mono HU4.out.size))
  refine hK.out _ _ (⟨(hb5.block _ (lt_heap hS4c.1)).trans hS4c.1, (hb5.block _ (lt_heap hS4c.2)).trans hS4c.2⟩) (fun hS5c => ?_)
  clear hK K
  refine wpAnyH_take (i := 9) (v := ?_) rfl (by kernel_rfl) (by kernel_rfl) (by kernel_rfl) (fun _ _ _ h => h) (Or.inl ⟨by kernel_rfl, by (intro wz hSz; go_simp; try with_reducible rfl)⟩) hS5c ?_
  go_simp
  refine wpAnyH_take (i := 10) (v := ?_) rfl (by kernel_rfl) (by kernel_rfl) (by kernel_rfl) (fun _ _ _ h => h) (Or.inl ⟨by kernel_rfl, by (intro wz hSz; go_simp; try with_reducible rfl)⟩) hS5c ?_
  go_simp
  refine wpAnyH_done (by kernel_rfl) ?_ _
  have c3_0 := cell_of_row _ _ 0 _ _ _ hr5_3
  have c3_1 := cell_of_row _ _ 1 _ _ _ hr5_3
  have c3_2 := cell_of_row _ _ 2 _ _ _ hr5_3
  simp at c3_0 c3_1 c3_2
  go_wp2_with fail
  refine (dot_any _ _ _ _ _ _ _).mono ?_
  rintro e y6 ⟨rfl, hb6⟩
  clear c3_0 c3_1 c3_2
  have hr6_0 := (hb6.block _ (lt_heap hr5_0)).trans hr5_0
  have hr6_1 := (hb6.block _ (lt_heap hr5_1)).trans hr5_1
  have hr6_2 := (hb6.block _ (lt_heap hr5_2)).trans hr5_2
  have hr6_3 := (hb6.block _ (lt_heap hr5_3)).trans hr5_3
  have HU6 := Lib.hid (HU5.out.trans (hb6.mono HU5.out.size))
  clear hr5_0 hr5_1 hr5_2 hr5_3 HU5
  try rw [eG]
  go_wp2_with fail
  refine (mul_any _ _ _).mono ?_
  rintro e ww ⟨rfl, rfl⟩
  go_wp2_with fail
  refine (sub_any _ _ _).mono ?_
  rintro e ww ⟨rfl, rfl⟩
  try rw [eD]
  go_wp2_with fail
  refine (mul_any _ _ _).mono ?_
  rintro e ww ⟨rfl, rfl⟩
  go_wp2_with fail
  refine (mul_any _ _ _).mono ?_
  rintro e ww ⟨rfl, rfl⟩
  go_wp2_with fail
  refine (sub_any _ _ _).mono ?_
  rintro e ww ⟨rfl, rfl⟩
  try rw [eU]
  have h := Hh.out
  have h2 := Hh2.out
  have d1 := decide_eq_false (show ¬ U < 0 by omega)
  have d2 : (A == 0) = false := by simpa using h2
  have d3 := decide_eq_false h2
  go_wp2_with fail
  refine (root_any _ _).mono ?_
  rintro e ww ⟨rfl, rfl⟩
  go_wp2_with fail
  refine (neg_any _ _).mono ?_
  rintro e ww ⟨rfl, rfl⟩
  go_wp2_with fail
  refine (sub_any _ _ _).mono ?_
  rintro e ww ⟨rfl, rfl⟩
  go_wp2_with fail
  refine (div_any _ _ _).mono ?_
  rintro e ww ⟨rfl, rfl⟩
  go_wp2_with fail
  refine (sub_any _ _ _).mono ?_
  rintro e ww ⟨rfl, rfl⟩
  go_wp2_with fail
  refine (div_any _ _ _).mono ?_
  rintro e ww ⟨rfl, rfl⟩
  have hHr := Lib.hid hr6_2
  have hHi := Lib.hid (show (Try.prog.info? 239).map (·.size) = some (#[.int .i64 (Pl.div (Pl.sub (-Pl.held B) (Pl.root U)) A), .int .i64 (Pl.div (Pl.sub (Pl.root U) B) A)] : Array Value).size by kernel_rfl)
  have hHz := Lib.hid (show (#[.int .i64 0, .int .i64 0] : Array Value).size = (#[.int .i64 (Pl.div (Pl.sub (-Pl.held B) (Pl.root U)) A), .int .i64 (Pl.div (Pl.sub (Pl.root U) B) A)] : Array Value).size from rfl)
  have hHo := Lib.hid (show (#[.int .i64 (Pl.div (Pl.sub (-Pl.held B) (Pl.root U)) A), .int .i64 (Pl.div (Pl.sub (Pl.root U) B) A)] : Array Value).all (·.oneCell') = true by simp [Value.oneCell'])
  go_wp2_with (first | (refine Au.wpList_store_row rfl 239 (.tmp 6) (.tmp 61) rfl y6 #[.int .i64 0, .int .i64 0] #[.int .i64 (Pl.div (Pl.sub (-Pl.held B) (Pl.root U)) A), .int .i64 (Pl.div (Pl.sub (Pl.root U) B) A)] (w.heap.size + 1 + 1) 239 hHr.out rfl rfl hHi.out hHz.out hHo.out ?_))
  clear hHr hHi hHz hHo
  have hN := setRow_heap _ (w.heap.size + 1 + 1) _ #[.int .i64 (Pl.div (Pl.sub (-Pl.held B) (Pl.root U)) A), .int .i64 (Pl.div (Pl.sub (Pl.root U) B) A)] _ _ hr6_2
  have hsz := HU6.out.size
  have HUx := below_setRow (g := w.heap.size + 1 + 1) HU6.out (by first | omega | (simp at *; omega)) #[.int .i64 (Pl.div (Pl.sub (-Pl.held B) (Pl.root U)) A), .int .i64 (Pl.div (Pl.sub (Pl.root U) B) A)]
  have hO : ∀ kk, kk ≠ w.heap.size + 1 + 1 → (y6.setRow (w.heap.size + 1 + 1) #[.int .i64 (Pl.div (Pl.sub (-Pl.held B) (Pl.root U)) A), .int .i64 (Pl.div (Pl.sub (Pl.root U) B) A)]).heap[kk]? = y6.heap[kk]? := fun kk hk => setRow_other _ _ _ _ hk
  obtain ⟨y7, hy7⟩ : ∃ y, y6.setRow (w.heap.size + 1 + 1) #[.int .i64 (Pl.div (Pl.sub (-Pl.held B) (Pl.root U)) A), .int .i64 (Pl.div (Pl.sub (Pl.root U) B) A)] = y := ⟨_, rfl⟩
  rw [hy7] at hN HUx hO ⊢
  clear hy7 hsz
  have HU7 := Lib.hid HUx
  clear HUx
  have hr7_0 := (hO _ (by omega)).trans hr6_0
  have hr7_1 := (hO _ (by omega)).trans hr6_1
  have hr7_2 := hN
  have hr7_3 := (hO _ (by omega)).trans hr6_3
  clear hN hO
  clear hr6_0 hr6_1 hr6_2 hr6_3 HU6
  have c2_0 := cell_of_row _ _ 0 _ _ _ hr7_2
  have c2_1 := cell_of_row _ _ 1 _ _ _ hr7_2
  simp at c2_0 c2_1
  go_wp2
  exact bodyPost_ret (v := .tuple #[.agg #[.int .i64 (Pl.div (Pl.sub (-Pl.held B) (Pl.root U)) A), .int .i64 (Pl.div (Pl.sub (Pl.root U) B) A)], .bool true]) (by simp [results, Try.results145, go_sem, c2_0, c2_1]) rfl ⟨rfl, HU7.out⟩

end Go.Proofs.Ythlcfhnlkpobhaa.Yr
