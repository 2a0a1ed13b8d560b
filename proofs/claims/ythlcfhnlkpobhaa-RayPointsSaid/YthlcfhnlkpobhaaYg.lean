/- Rays: what is thrown back, which hit comes ahead, by both sides; the document's box of two points. -/
import Derived.Test.YthlcfhnlkpobhaaYb
import Derived.Test.YthlcfhnlkpobhaaBp
import Derived.Test.YthlcfhnlkpobhaaBr
import Derived.Test.YthlcfhnlkpobhaaBl
import Derived.Test.YthlcfhnlkpobhaaVd
namespace Go.Proofs.Ythlcfhnlkpobhaa.Yr
open Go.RowKit Go.Proofs.Ythlcfhnlkpobhaa Go.Proofs.Ythlcfhnlkpobhaa.Wa Go.Proofs.Ythlcfhnlkpobhaa.Ve Go.Proofs.Ythlcfhnlkpobhaa.Au Go.Proofs.Ythlcfhnlkpobhaa.Bx
set_option linter.unusedVariables false
set_option linter.unusedSimpArgs false

set_option maxHeartbeats 4000000 in
set_option maxRecDepth 100000 in
theorem mirrored_any (ax ay az bx by_ bz : Int) (w : World)  : Calls Try.prog 35 #[.agg #[.int .i64 ax, .int .i64 ay, .int .i64 az], .agg #[.int .i64 bx, .int .i64 by_, .int .i64 bz]] w fun e' w' => e' = .returned (.agg #[.int .i64 (Pl.sub ax (Pl.mul bx (Pl.mul 131072 (Pl.add (Pl.add (Pl.add 0 (Pl.mul ax bx)) (Pl.mul ay by_)) (Pl.mul az bz))))), .int .i64 (Pl.sub ay (Pl.mul by_ (Pl.mul 131072 (Pl.add (Pl.add (Pl.add 0 (Pl.mul ax bx)) (Pl.mul ay by_)) (Pl.mul az bz))))), .int .i64 (Pl.sub az (Pl.mul bz (Pl.mul 131072 (Pl.add (Pl.add (Pl.add 0 (Pl.mul ax bx)) (Pl.mul ay by_)) (Pl.mul az bz)))))]) ∧ Below w.heap.size w w' := by
  go_enter Try.func35, Try.ntmps35
  go_upto_region 1 with fail
  have hR := Au.rows3 w (.cells #[.int .i64 ax, .int .i64 ay, .int .i64 az] 71) (.cells #[.int .i64 bx, .int .i64 by_, .int .i64 bz] 71) (.cells #[.int .i64 0, .int .i64 0, .int .i64 0] 71)
  have HUx := below_n3 w (.cells #[.int .i64 ax, .int .i64 ay, .int .i64 az] 71) (.cells #[.int .i64 bx, .int .i64 by_, .int .i64 bz] 71) (.cells #[.int .i64 0, .int .i64 0, .int .i64 0] 71)
  obtain ⟨y0, hy0⟩ : ∃ y0, ((w.alloc (.cells #[.int .i64 ax, .int .i64 ay, .int .i64 az] 71)).alloc (.cells #[.int .i64 bx, .int .i64 by_, .int .i64 bz] 71)).alloc (.cells #[.int .i64 0, .int .i64 0, .int .i64 0] 71) = y0 := ⟨_, rfl⟩
  rw [hy0] at hR HUx ⊢
  clear hy0
  have HU0 := Lib.hid HUx
  clear HUx
  obtain ⟨hr0_0, hr0_1, hr0_2⟩ := hR
  refine wp_region_held_drew (S := fun y => y.heap[w.heap.size]? = some (.cells #[.int .i64 ax, .int .i64 ay, .int .i64 az] 71 (0, 0)) ∧ y.heap[w.heap.size + 1]? = some (.cells #[.int .i64 bx, .int .i64 by_, .int .i64 bz] 71 (0, 0))) (by kernel_rfl) (⟨hr0_0, hr0_1⟩) (fun hS0 => ?_)
  obtain ⟨y1, hy1⟩ : ∃ y, y0.drew = y := ⟨_, rfl⟩
  have HU1 := Lib.hid (show Below w.heap.size w y1 by rw [← hy1]; exact HU0.out.drew)
  have hr1_0 : y1.heap[w.heap.size]? = some (.cells #[.int .i64 ax, .int .i64 ay, .int .i64 az] 71 (0, 0)) := by rw [← hy1]; exact hr0_0
  have hr1_1 : y1.heap[w.heap.size + 1]? = some (.cells #[.int .i64 bx, .int .i64 by_, .int .i64 bz] 71 (0, 0)) := by rw [← hy1]; exact hr0_1
  have hr1_2 : y1.heap[w.heap.size + 1 + 1]? = some (.cells #[.int .i64 0, .int .i64 0, .int .i64 0] 71 (0, 0)) := by rw [← hy1]; exact hr0_2
  rw [hy1] at hS0 ⊢
  clear hy1
  refine wpAnyH_take (i := 0) (v := ?_) rfl (by kernel_rfl) (by kernel_rfl) (by kernel_rfl) (fun _ _ _ h => h) (Or.inl ⟨by kernel_rfl, by (intro wz hSz; have c0_0 := cell_of_row _ _ 0 _ _ _ hSz.1; have c0_1 := cell_of_row _ _ 1 _ _ _ hSz.1; have c0_2 := cell_of_row _ _ 2 _ _ _ hSz.1; have c1_0 := cell_of_row _ _ 0 _ _ _ hSz.2; have c1_1 := cell_of_row _ _ 1 _ _ _ hSz.2; have c1_2 := cell_of_row _ _ 2 _ _ _ hSz.2; simp at c0_0 c0_1 c0_2 c1_0 c1_1 c1_2; go_simp; try with_reducible rfl)⟩) hS0 ?_
  go_simp
  refine wpAnyH_take (i := 1) (v := ?_) rfl (by kernel_rfl) (by kernel_rfl) (by kernel_rfl) (fun _ _ _ h => h) (Or.inl ⟨by kernel_rfl, by (intro wz hSz; have c0_0 := cell_of_row _ _ 0 _ _ _ hSz.1; have c0_1 := cell_of_row _ _ 1 _ _ _ hSz.1; have c0_2 := cell_of_row _ _ 2 _ _ _ hSz.1; have c1_0 := cell_of_row _ _ 0 _ _ _ hSz.2; have c1_1 := cell_of_row _ _ 1 _ _ _ hSz.2; have c1_2 := cell_of_row _ _ 2 _ _ _ hSz.2; simp at c0_0 c0_1 c0_2 c1_0 c1_1 c1_2; go_simp; try with_reducible rfl)⟩) hS0 ?_
  go_simp
  refine wpAnyH_take (i := 2) (v := ?_) rfl (by kernel_rfl) (by kernel_rfl) (by kernel_rfl) (fun _ _ _ h => h) (Or.inl ⟨by kernel_rfl, by (intro wz hSz; have c0_0 := cell_of_row _ _ 0 _ _ _ hSz.1; have c0_1 := cell_of_row _ _ 1 _ _ _ hSz.1; have c0_2 := cell_of_row _ _ 2 _ _ _ hSz.1; have c1_0 := cell_of_row _ _ 0 _ _ _ hSz.2; have c1_1 := cell_of_row _ _ 1 _ _ _ hSz.2; have c1_2 := cell_of_row _ _ 2 _ _ _ hSz.2; simp at c0_0 c0_1 c0_2 c1_0 c1_1 c1_2; go_simp; try with_reducible rfl)⟩) hS0 ?_
  go_simp
  refine wpAnyH_take (i := 3) (v := ?_) rfl (by kernel_rfl) (by kernel_rfl) (by kernel_rfl) (fun _ _ _ h => h) (Or.inl ⟨by kernel_rfl, by (intro wz hSz; have c0_0 := cell_of_row _ _ 0 _ _ _ hSz.1; have c0_1 := cell_of_row _ _ 1 _ _ _ hSz.1; have c0_2 := cell_of_row _ _ 2 _ _ _ hSz.1; have c1_0 := cell_of_row _ _ 0 _ _ _ hSz.2; have c1_1 := cell_of_row _ _ 1 _ _ _ hSz.2; have c1_2 := cell_of_row _ _ 2 _ _ _ hSz.2; simp at c0_0 c0_1 c0_2 c1_0 c1_1 c1_2; go_simp; try with_reducible rfl)⟩) hS0 ?_
  go_simp
  refine wpAnyH_ready (rs := [4]) (by kernel_rfl) (by simp) ?_
  refine AllReadyH.cons rfl (fun K hK => ?_) AllReadyH.nil
  go_simp
  go_wp2_with (go_at_call 87; refine (dot_any _ _ _ _ _ _ _).mono ?_; rintro e y2 ⟨rfl, hb2⟩)
  have hr2_0 := (hb2.block _ (lt_heap hr1_0)).trans hr1_0
  have hr2_1 := (hb2.block _ (lt_heap hr1_1)).trans hr1_1
  have hr2_2 := (hb2.block _ (lt_heap hr1_2)).trans hr1_2
  have HU2 := Lib.hid (HU1.out.trans (hb2.mono HU1.out.size))
  refine hK.out _ _ (⟨(hb2.block _ (lt_heap hS0.1)).trans hS0.1, (hb2.block _ (lt_heap hS0.2)).trans hS0.2⟩) (fun hS2c => ?_)
  clear hK K
  refine wpAnyH_ready (rs := [5]) (by kernel_rfl) (by simp) ?_
  refine AllReadyH.cons rfl (fun K hK => ?_) AllReadyH.nil
  go_simp
  go_wp2_with (go_at_call 79; refine (mul_any _ _ _).mono ?_; rintro e ww ⟨rfl, rfl⟩)
  refine hK.out _ _ (hS2c) (fun hS2q5 => ?_)
  clear hK K
  refine wpAnyH_ready (rs := [6]) (by kernel_rfl) (by simp) ?_
  refine AllReadyH.cons rfl (fun K hK => ?_) AllReadyH.nil
  go_simp
  go_wp2_with (go_at_call 81; refine (scale_any _ _ _ _ _).mono ?_; rintro e y3 ⟨rfl, hb3⟩)
  have hr3_0 := (hb3.block _ (lt_heap hr2_0)).trans hr2_0
  have hr3_1 := (hb3.block _ (lt_heap hr2_1)).trans hr2_1
  have hr3_2 := (hb3.block _ (lt_heap hr2_2)).trans hr2_2
  have HU3 := Lib.hid (HU2.out.trans (hb3.mono HU2.out.size))
  refine hK.out _ _ (⟨(hb3.block _ (lt_heap hS2q5.1)).trans hS2q5.1, (hb3.block _ (lt_heap hS2q5.2)).trans hS2q5.2⟩) (fun hS3c => ?_)
  clear hK K
  refine wpAnyH_ready (rs := [7]) (by kernel_rfl) (by simp) ?_
  refine AllReadyH.cons rfl (fun K hK => ?_) AllReadyH.nil
  go_simp
  go_wp2_with (go_at_call 86; refine (vsub_any _ _ _ _ _ _ _).mono ?_; rintro e y4 ⟨rfl, hb4⟩)
  have hr4_0 := (hb4.block _ (lt_heap hr3_0)).trans hr3_0
  have hr4_1 := (hb4.block _ (lt_heap hr3_1)).trans hr3_1
  have hr4_2 := (hb4.block _ (lt_heap hr3_2)).trans hr3_2
  have HU4 := Lib.hid (HU3.out.trans (hb4.mono HU3.out.size))
  refine hK.out _ _ (⟨(hb4.block _ (lt_heap hS3c.1)).trans hS3c.1, (hb4.block _ (lt_heap hS3c.2)).trans hS3c.2⟩) (fun hS4c => ?_)
  clear hK K
  refine wpAnyH_ready (rs := [8]) (by kernel_rfl) (by simp) ?_
  refine AllReadyH.cons rfl (fun K hK => ?_) AllReadyH.nil
  refine step_store_row rfl 71 (.tmp 4) (.tmp 12) rfl #[.int .i64 0, .int .i64 0, .int .i64 0] #[.int .i64 (Pl.sub ax (Pl.mul bx (Pl.mul 131072 (Pl.add (Pl.add (Pl.add 0 (Pl.mul ax bx)) (Pl.mul ay by_)) (Pl.mul az bz))))), .int .i64 (Pl.sub ay (Pl.mul by_ (Pl.mul 131072 (Pl.add (Pl.add (Pl.add 0 (Pl.mul ax bx)) (Pl.mul ay by_)) (Pl.mul az bz))))), .int .i64 (Pl.sub az (Pl.mul bz (Pl.mul 131072 (Pl.add (Pl.add (Pl.add 0 (Pl.mul ax bx)) (Pl.mul ay by_)) (Pl.mul az bz)))))] _ 71 hr4_2 rfl (by first | rfl | (go_simp; done) | (go_simp; rfl)) (by kernel_rfl) rfl (by simp [Value.oneCell']) ?_
  have hN := setRow_heap _ (w.heap.size + 1 + 1) _ #[.int .i64 (Pl.sub ax (Pl.mul bx (Pl.mul 131072 (Pl.add (Pl.add (Pl.add 0 (Pl.mul ax bx)) (Pl.mul ay by_)) (Pl.mul az bz))))), .int .i64 (Pl.sub ay (Pl.mul by_ (Pl.mul 131072 (Pl.add (Pl.add (Pl.add 0 (Pl.mul ax bx)) (Pl.mul ay by_)) (Pl.mul az bz))))), .int .i64 (Pl.sub az (Pl.mul bz (Pl.mul 131072 (Pl.add (Pl.add (Pl.add 0 (Pl.mul ax bx)) (Pl.mul ay by_)) (Pl.mul az bz)))))] _ _ hr4_2
  have hsz := HU4.out.size
  have HUx := below_setRow (g := w.heap.size + 1 + 1) HU4.out (by first | omega | (simp at *; omega)) #[.int .i64 (Pl.sub ax (Pl.mul bx (Pl.mul 131072 (Pl.add (Pl.add (Pl.add 0 (Pl.mul ax bx)) (Pl.mul ay by_)) (Pl.mul az bz))))), .int .i64 (Pl.sub ay (Pl.mul by_ (Pl.mul 131072 (Pl.add (Pl.add (Pl.add 0 (Pl.mul ax bx)) (Pl.mul ay by_)) (Pl.mul az bz))))), .int .i64 (Pl.sub az (Pl.mul bz (Pl.mul 131072 (Pl.add (Pl.add (Pl.add 0 (Pl.mul ax bx)) (Pl.mul ay by_)) (Pl.mul az bz)))))]
  obtain ⟨y5, hy5⟩ : ∃ y, y4.setRow (w.heap.size + 1 + 1) #[.int .i64 (Pl.sub ax (Pl.mul bx (Pl.mul 131072 (Pl.add (Pl.add (Pl.add 0 (Pl.mul ax bx)) (Pl.mul ay by_)) (Pl.mul az bz))))), .int .i64 (Pl.sub ay (Pl.mul by_ (Pl.mul 131072 (Pl.add (Pl.add (Pl.add 0 (Pl.mul ax bx)) (Pl.mul ay by_)) (Pl.mul az bz))))), .int .i64 (Pl.sub az (Pl.mul bz (Pl.mul 131072 (Pl.add (Pl.add (Pl.add 0 (Pl.mul ax bx)) (Pl.mul ay by_)) (Pl.mul az bz)))))] = y := ⟨_, rfl⟩
  have hO : ∀ k, k ≠ w.heap.size + 1 + 1 → y5.heap[k]? = y4.heap[k]? := fun k hk => by rw [← hy5]; exact setRow_other _ _ _ _ hk
  rw [hy5] at hN HUx ⊢
  clear hy5
  have HU5 := Lib.hid HUx
  clear HUx
  have hr5_0 := (hO _ (by omega)).trans hr4_0
  have hr5_1 := (hO _ (by omega)).trans hr4_1
  have hr5_2 := hN
  clear hN
  refine hK.out _ _ (⟨(hO _ (by omega)).trans hS4c.1, (hO _ (by omega)).trans hS4c.2⟩) (fun hS5s => ?_)
  clear hK K
  refine wpAnyH_done (by kernel_rfl) ?_ _
  have c2_0 := cell_of_row _ _ 0 _ _ _ hr5_2
  have c2_1 := cell_of_row _ _ 1 _ _ _ hr5_2
  have c2_2 := cell_of_row _ _ 2 _ _ _ hr5_2
  simp at c2_0 c2_1 c2_2
  go_wp2
  exact bodyPost_ret (v := .agg #[.int .i64 (Pl.sub ax (Pl.mul bx (Pl.mul 131072 (Pl.add (Pl.add (Pl.add 0 (Pl.mul ax bx)) (Pl.mul ay by_)) (Pl.mul az bz))))), .int .i64 (Pl.sub ay (Pl.mul by_ (Pl.mul 131072 (Pl.add (Pl.add (Pl.add 0 (Pl.mul ax bx)) (Pl.mul ay by_)) (Pl.mul az bz))))), .int .i64 (Pl.sub az (Pl.mul bz (Pl.mul 131072 (Pl.add (Pl.add (Pl.add 0 (Pl.mul ax bx)) (Pl.mul ay by_)) (Pl.mul az bz)))))]) (by simp [results, Try.results35, go_sem, c2_0, c2_1, c2_2]) rfl ⟨rfl, HU5.out⟩

set_option maxHeartbeats 4000000 in
set_option maxRecDepth 100000 in
theorem rmirrored_any (ax ay az bx by_ bz : Int) (w : World)  : Calls Try.prog 37 #[.agg #[.int .i64 ax, .int .i64 ay, .int .i64 az], .agg #[.int .i64 bx, .int .i64 by_, .int .i64 bz]] w fun e' w' => e' = .returned (.agg #[.int .i64 (Pl.sub ax (Pl.mul bx (Pl.mul 131072 (Pl.add (Pl.add (Pl.add 0 (Pl.mul ax bx)) (Pl.mul ay by_)) (Pl.mul az bz))))), .int .i64 (Pl.sub ay (Pl.mul by_ (Pl.mul 131072 (Pl.add (Pl.add (Pl.add 0 (Pl.mul ax bx)) (Pl.mul ay by_)) (Pl.mul az bz))))), .int .i64 (Pl.sub az (Pl.mul bz (Pl.mul 131072 (Pl.add (Pl.add (Pl.add 0 (Pl.mul ax bx)) (Pl.mul ay by_)) (Pl.mul az bz)))))]) ∧ Below w.heap.size w w' := by
  go_enter Try.func37, Try.ntmps37
  go_upto_region 1 with fail
  have hR := Au.rows3 w (.cells #[.int .i64 ax, .int .i64 ay, .int .i64 az] 59) (.cells #[.int .i64 bx, .int .i64 by_, .int .i64 bz] 59) (.cells #[.int .i64 0, .int .i64 0, .int .i64 0] 59)
  have HUx := below_n3 w (.cells #[.int .i64 ax, .int .i64 ay, .int .i64 az] 59) (.cells #[.int .i64 bx, .int .i64 by_, .int .i64 bz] 59) (.cells #[.int .i64 0, .int .i64 0, .int .i64 0] 59)
  obtain ⟨y0, hy0⟩ : ∃ y0, ((w.alloc (.cells #[.int .i64 ax, .int .i64 ay, .int .i64 az] 59)).alloc (.cells #[.int .i64 bx, .int .i64 by_, .int .i64 bz] 59)).alloc (.cells #[.int .i64 0, .int .i64 0, .int .i64 0] 59) = y0 := ⟨_, rfl⟩
  rw [hy0] at hR HUx ⊢
  clear hy0
  have HU0 := Lib.hid HUx
  clear HUx
  obtain ⟨hr0_0, hr0_1, hr0_2⟩ := hR
  refine wp_region_held_drew (S := fun y => y.heap[w.heap.size]? = some (.cells #[.int .i64 ax, .int .i64 ay, .int .i64 az] 59 (0, 0)) ∧ y.heap[w.heap.size + 1]? = some (.cells #[.int .i64 bx, .int .i64 by_, .int .i64 bz] 59 (0, 0))) (by kernel_rfl) (⟨hr0_0, hr0_1⟩) (fun hS0 => ?_)
  obtain ⟨y1, hy1⟩ : ∃ y, y0.drew = y := ⟨_, rfl⟩
  have HU1 := Lib.hid (show Below w.heap.size w y1 by rw [← hy1]; exact HU0.out.drew)
  have hr1_0 : y1.heap[w.heap.size]? = some (.cells #[.int .i64 ax, .int .i64 ay, .int .i64 az] 59 (0, 0)) := by rw [← hy1]; exact hr0_0
  have hr1_1 : y1.heap[w.heap.size + 1]? = some (.cells #[.int .i64 bx, .int .i64 by_, .int .i64 bz] 59 (0, 0)) := by rw [← hy1]; exact hr0_1
  have hr1_2 : y1.heap[w.heap.size + 1 + 1]? = some (.cells #[.int .i64 0, .int .i64 0, .int .i64 0] 59 (0, 0)) := by rw [← hy1]; exact hr0_2
  rw [hy1] at hS0 ⊢
  clear hy1
  refine wpAnyH_take (i := 0) (v := ?_) rfl (by kernel_rfl) (by kernel_rfl) (by kernel_rfl) (fun _ _ _ h => h) (Or.inl ⟨by kernel_rfl, by (intro wz hSz; have c0_0 := cell_of_row _ _ 0 _ _ _ hSz.1; have c0_1 := cell_of_row _ _ 1 _ _ _ hSz.1; have c0_2 := cell_of_row _ _ 2 _ _ _ hSz.1; have c1_0 := cell_of_row _ _ 0 _ _ _ hSz.2; have c1_1 := cell_of_row _ _ 1 _ _ _ hSz.2; have c1_2 := cell_of_row _ _ 2 _ _ _ hSz.2; simp at c0_0 c0_1 c0_2 c1_0 c1_1 c1_2; go_simp; try with_reducible rfl)⟩) hS0 ?_
  go_simp
  refine wpAnyH_take (i := 1) (v := ?_) rfl (by kernel_rfl) (by kernel_rfl) (by kernel_rfl) (fun _ _ _ h => h) (Or.inl ⟨by kernel_rfl, by (intro wz hSz; have c0_0 := cell_of_row _ _ 0 _ _ _ hSz.1; have c0_1 := cell_of_row _ _ 1 _ _ _ hSz.1; have c0_2 := cell_of_row _ _ 2 _ _ _ hSz.1; have c1_0 := cell_of_row _ _ 0 _ _ _ hSz.2; have c1_1 := cell_of_row _ _ 1 _ _ _ hSz.2; have c1_2 := cell_of_row _ _ 2 _ _ _ hSz.2; simp at c0_0 c0_1 c0_2 c1_0 c1_1 c1_2; go_simp; try with_reducible rfl)⟩) hS0 ?_
  go_simp
  refine wpAnyH_take (i := 2) (v := ?_) rfl (by kernel_rfl) (by kernel_rfl) (by kernel_rfl) (fun _ _ _ h => h) (Or.inl ⟨by kernel_rfl, by (intro wz hSz; have c0_0 := cell_of_row _ _ 0 _ _ _ hSz.1; have c0_1 := cell_of_row _ _ 1 _ _ _ hSz.1; have c0_2 := cell_of_row _ _ 2 _ _ _ hSz.1; have c1_0 := cell_of_row _ _ 0 _ _ _ hSz.2; have c1_1 := cell_of_row _ _ 1 _ _ _ hSz.2; have c1_2 := cell_of_row _ _ 2 _ _ _ hSz.2; simp at c0_0 c0_1 c0_2 c1_0 c1_1 c1_2; go_simp; try with_reducible rfl)⟩) hS0 ?_
  go_simp
  refine wpAnyH_take (i := 3) (v := ?_) rfl (by kernel_rfl) (by kernel_rfl) (by kernel_rfl) (fun _ _ _ h => h) (Or.inl ⟨by kernel_rfl, by (intro wz hSz; have c0_0 := cell_of_row _ _ 0 _ _ _ hSz.1; have c0_1 := cell_of_row _ _ 1 _ _ _ hSz.1; have c0_2 := cell_of_row _ _ 2 _ _ _ hSz.1; have c1_0 := cell_of_row _ _ 0 _ _ _ hSz.2; have c1_1 := cell_of_row _ _ 1 _ _ _ hSz.2; have c1_2 := cell_of_row _ _ 2 _ _ _ hSz.2; simp at c0_0 c0_1 c0_2 c1_0 c1_1 c1_2; go_simp; try with_reducible rfl)⟩) hS0 ?_
  go_simp
  refine wpAnyH_ready (rs := [4]) (by kernel_rfl) (by simp) ?_
  refine AllReadyH.cons rfl (fun K hK => ?_) AllReadyH.nil
  go_simp
  go_wp2_with (go_at_call 90; refine (rdot_any _ _ _ _ _ _ _).mono ?_; rintro e y2 ⟨rfl, hb2⟩)
  have hr2_0 := (hb2.block _ (lt_heap hr1_0)).trans hr1_0
  have hr2_1 := (hb2.block _ (lt_heap hr1_1)).trans hr1_1
  have hr2_2 := (hb2.block _ (lt_heap hr1_2)).trans hr1_2
  have HU2 := Lib.hid (HU1.out.trans (hb2.mono HU1.out.size))
  refine hK.out _ _ (⟨(hb2.block _ (lt_heap hS0.1)).trans hS0.1, (hb2.block _ (lt_heap hS0.2)).trans hS0.2⟩) (fun hS2c => ?_)
  clear hK K
  refine wpAnyH_ready (rs := [5]) (by kernel_rfl) (by simp) ?_
  refine AllReadyH.cons rfl (fun K hK => ?_) AllReadyH.nil
  go_simp
  go_wp2_with (go_at_call 89; refine (refMul_any _ _ _).mono ?_; rintro e ww ⟨rfl, rfl⟩)
  refine hK.out _ _ (hS2c) (fun hS2q5 => ?_)
  clear hK K
  refine wpAnyH_ready (rs := [6]) (by kernel_rfl) (by simp) ?_
  refine AllReadyH.cons rfl (fun K hK => ?_) AllReadyH.nil
  go_simp
  go_wp2_with (go_at_call 83; refine (rscale_any _ _ _ _ _).mono ?_; rintro e y3 ⟨rfl, hb3⟩)
  have hr3_0 := (hb3.block _ (lt_heap hr2_0)).trans hr2_0
  have hr3_1 := (hb3.block _ (lt_heap hr2_1)).trans hr2_1
  have hr3_2 := (hb3.block _ (lt_heap hr2_2)).trans hr2_2
  have HU3 := Lib.hid (HU2.out.trans (hb3.mono HU2.out.size))
  refine hK.out _ _ (⟨(hb3.block _ (lt_heap hS2q5.1)).trans hS2q5.1, (hb3.block _ (lt_heap hS2q5.2)).trans hS2q5.2⟩) (fun hS3c => ?_)
  clear hK K
  refine wpAnyH_ready (rs := [7]) (by kernel_rfl) (by simp) ?_
  refine AllReadyH.cons rfl (fun K hK => ?_) AllReadyH.nil
  go_simp
  go_wp2_with (go_at_call 88; refine (rsub_any _ _ _ _ _ _ _).mono ?_; rintro e y4 ⟨rfl, hb4⟩)
  have hr4_0 := (hb4.block _ (lt_heap hr3_0)).trans hr3_0
  have hr4_1 := (hb4.block _ (lt_heap hr3_1)).trans hr3_1
  have hr4_2 := (hb4.block _ (lt_heap hr3_2)).trans hr3_2
  have HU4 := Lib.hid (HU3.out.trans (hb4.mono HU3.out.size))
  refine hK.out _ _ (⟨(hb4.block _ (lt_heap hS3c.1)).trans hS3c.1, (hb4.block _ (lt_heap hS3c.2)).trans hS3c.2⟩) (fun hS4c => ?_)
  clear hK K
  refine wpAnyH_ready (rs := [8]) (by kernel_rfl) (by simp) ?_
  refine AllReadyH.cons rfl (fun K hK => ?_) AllReadyH.nil
  refine step_store_row rfl 59 (.tmp 4) (.tmp 12) rfl #[.int .i64 0, .int .i64 0, .int .i64 0] #[.int .i64 (Pl.sub ax (Pl.mul bx (Pl.mul 131072 (Pl.add (Pl.add (Pl.add 0 (Pl.mul ax bx)) (Pl.mul ay by_)) (Pl.mul az bz))))), .int .i64 (Pl.sub ay (Pl.mul by_ (Pl.mul 131072 (Pl.add (Pl.add (Pl.add 0 (Pl.mul ax bx)) (Pl.mul ay by_)) (Pl.mul az bz))))), .int .i64 (Pl.sub az (Pl.mul bz (Pl.mul 131072 (Pl.add (Pl.add (Pl.add 0 (Pl.mul ax bx)) (Pl.mul ay by_)) (Pl.mul az bz)))))] _ 59 hr4_2 rfl (by first | rfl | (go_simp; done) | (go_simp; rfl)) (by kernel_rfl) rfl (by simp [Value.oneCell']) ?_
  have hN := setRow_heap _ (w.heap.size + 1 + 1) _ #[.int .i64 (Pl.sub ax (Pl.mul bx (Pl.mul 131072 (Pl.add (Pl.add (Pl.add 0 (Pl.mul ax bx)) (Pl.mul ay by_)) (Pl.mul az bz))))), .int .i64 (Pl.sub ay (Pl.mul by_ (Pl.mul 131072 (Pl.add (Pl.add (Pl.add 0 (Pl.mul ax bx)) (Pl.mul ay by_)) (Pl.mul az bz))))), .int .i64 (Pl.sub az (Pl.mul bz (Pl.mul 131072 (Pl.add (Pl.add (Pl.add 0 (Pl.mul ax bx)) (Pl.mul ay by_)) (Pl.mul az bz)))))] _ _ hr4_2
  have hsz := HU4.out.size
  have HUx := below_setRow (g := w.heap.size + 1 + 1) HU4.out (by first | omega | (simp at *; omega)) #[.int .i64 (Pl.sub ax (Pl.mul bx (Pl.mul 131072 (Pl.add (Pl.add (Pl.add 0 (Pl.mul ax bx)) (Pl.mul ay by_)) (Pl.mul az bz))))), .int .i64 (Pl.sub ay (Pl.mul by_ (Pl.mul 131072 (Pl.add (Pl.add (Pl.add 0 (Pl.mul ax bx)) (Pl.mul ay by_)) (Pl.mul az bz))))), .int .i64 (Pl.sub az (Pl.mul bz (Pl.mul 131072 (Pl.add (Pl.add (Pl.add 0 (Pl.mul ax bx)) (Pl.mul ay by_)) (Pl.mul az bz)))))]
  obtain ⟨y5, hy5⟩ : ∃ y, y4.setRow (w.heap.size + 1 + 1) #[.int .i64 (Pl.sub ax (Pl.mul bx (Pl.mul 131072 (Pl.add (Pl.add (Pl.add 0 (Pl.mul ax bx)) (Pl.mul ay by_)) (Pl.mul az bz))))), .int .i64 (Pl.sub ay (Pl.mul by_ (Pl.mul 131072 (Pl.add (Pl.add (Pl.add 0 (Pl.mul ax bx)) (Pl.mul ay by_)) (Pl.mul az bz))))), .int .i64 (Pl.sub az (Pl.mul bz (Pl.mul 131072 (Pl.add (Pl.add (Pl.add 0 (Pl.mul ax bx)) (Pl.mul ay by_)) (Pl.mul az bz)))))] = y := ⟨_, rfl⟩
  have hO : ∀ k, k ≠ w.heap.size + 1 + 1 → y5.heap[k]? = y4.heap[k]? := fun k hk => by rw [← hy5]; exact setRow_other _ _ _ _ hk
  rw [hy5] at hN HUx ⊢
  clear hy5
  have HU5 := Lib.hid HUx
  clear HUx
  have hr5_0 := (hO _ (by omega)).trans hr4_0
  have hr5_1 := (hO _ (by omega)).trans hr4_1
  have hr5_2 := hN
  clear hN
  refine hK.out _ _ (⟨(hO _ (by omega)).trans hS4c.1, (hO _ (by omega)).trans hS4c.2⟩) (fun hS5s => ?_)
  clear hK K
  refine wpAnyH_done (by kernel_rfl) ?_ _
  have c2_0 := cell_of_row _ _ 0 _ _ _ hr5_2
  have c2_1 := cell_of_row _ _ 1 _ _ _ hr5_2
  have c2_2 := cell_of_row _ _ 2 _ _ _ hr5_2
  simp at c2_0 c2_1 c2_2
  go_wp2
  exact bodyPost_ret (v := .agg #[.int .i64 (Pl.sub ax (Pl.mul bx (Pl.mul 131072 (Pl.add (Pl.add (Pl.add 0 (Pl.mul ax bx)) (Pl.mul ay by_)) (Pl.mul az bz))))), .int .i64 (Pl.sub ay (Pl.mul by_ (Pl.mul 131072 (Pl.add (Pl.add (Pl.add 0 (Pl.mul ax bx)) (Pl.mul ay by_)) (Pl.mul az bz))))), .int .i64 (Pl.sub az (Pl.mul bz (Pl.mul 131072 (Pl.add (Pl.add (Pl.add 0 (Pl.mul ax bx)) (Pl.mul ay by_)) (Pl.mul az bz)))))]) (by simp [results, Try.results37, go_sem, c2_0, c2_1, c2_2]) rfl ⟨rfl, HU5.out⟩

/-- whether a hit comes ahead of another one -/
def bef (t s u z : Int) : Bool := if t = u then decide (s < z) else decide (t < u)

set_option maxHeartbeats 4000000 in
set_option maxRecDepth 100000 in
theorem before_any (t s x0 x1 x2 x3 x4 x5 u z y0_ y1_ y2_ y3_ y4_ y5_ : Int) (w : World)  : Calls Try.prog 38 #[.agg #[.int .i64 t, .int .i64 s, .int .i64 x0, .int .i64 x1, .int .i64 x2, .int .i64 x3, .int .i64 x4, .int .i64 x5], .agg #[.int .i64 u, .int .i64 z, .int .i64 y0_, .int .i64 y1_, .int .i64 y2_, .int .i64 y3_, .int .i64 y4_, .int .i64 y5_]] w fun e' w' => e' = .returned (.bool (bef t s u z)) ∧ Below w.heap.size w w' := by
  by_cases h1 : t = u
  · subst h1
    by_cases h2 : s < z
    · skip
      have d0 : decide (t < t) = false := decide_eq_false (by omega)
      have d1 : (t == t) = true := by simp
      have d2 : (t != t) = false := by simp
      have d3 := decide_eq_true h2
      go_enter Try.func38, Try.ntmps38
      go_upto_region 1 with fail
      have hR := Au.rows2 w (.cells #[.int .i64 t, .int .i64 s, .int .i64 x0, .int .i64 x1, .int .i64 x2, .int .i64 x3, .int .i64 x4, .int .i64 x5] 104) (.cells #[.int .i64 t, .int .i64 z, .int .i64 y0_, .int .i64 y1_, .int .i64 y2_, .int .i64 y3_, .int .i64 y4_, .int .i64 y5_] 104)
      have HUx := below_n2 w (.cells #[.int .i64 t, .int .i64 s, .int .i64 x0, .int .i64 x1, .int .i64 x2, .int .i64 x3, .int .i64 x4, .int .i64 x5] 104) (.cells #[.int .i64 t, .int .i64 z, .int .i64 y0_, .int .i64 y1_, .int .i64 y2_, .int .i64 y3_, .int .i64 y4_, .int .i64 y5_] 104)
      obtain ⟨y0, hy0⟩ : ∃ y0, (w.alloc (.cells #[.int .i64 t, .int .i64 s, .int .i64 x0, .int .i64 x1, .int .i64 x2, .int .i64 x3, .int .i64 x4, .int .i64 x5] 104)).alloc (.cells #[.int .i64 t, .int .i64 z, .int .i64 y0_, .int .i64 y1_, .int .i64 y2_, .int .i64 y3_, .int .i64 y4_, .int .i64 y5_] 104) = y0 := ⟨_, rfl⟩
      rw [hy0] at hR HUx ⊢
      clear hy0
      have HU0 := Lib.hid HUx
      clear HUx
      obtain ⟨hr0_0, hr0_1⟩ := hR
      have c0_0 := cell_of_row _ _ 0 _ _ _ hr0_0
      have c0_1 := cell_of_row _ _ 1 _ _ _ hr0_0
      have c0_2 := cell_of_row _ _ 2 _ _ _ hr0_0
      have c0_3 := cell_of_row _ _ 3 _ _ _ hr0_0
      have c0_4 := cell_of_row _ _ 4 _ _ _ hr0_0
      have c0_5 := cell_of_row _ _ 5 _ _ _ hr0_0
      have c0_6 := cell_of_row _ _ 6 _ _ _ hr0_0
      have c0_7 := cell_of_row _ _ 7 _ _ _ hr0_0
      have c1_0 := cell_of_row _ _ 0 _ _ _ hr0_1
      have c1_1 := cell_of_row _ _ 1 _ _ _ hr0_1
      have c1_2 := cell_of_row _ _ 2 _ _ _ hr0_1
      have c1_3 := cell_of_row _ _ 3 _ _ _ hr0_1
      have c1_4 := cell_of_row _ _ 4 _ _ _ hr0_1
      have c1_5 := cell_of_row _ _ 5 _ _ _ hr0_1
      have c1_6 := cell_of_row _ _ 6 _ _ _ hr0_1
      have c1_7 := cell_of_row _ _ 7 _ _ _ hr0_1
      simp at c0_0 c0_1 c0_2 c0_3 c0_4 c0_5 c0_6 c0_7 c1_0 c1_1 c1_2 c1_3 c1_4 c1_5 c1_6 c1_7
      go_wp2
      go_ret
      exact ⟨by simp [bef, h2], HU0.out⟩
    · skip
      have d0 : decide (t < t) = false := decide_eq_false (by omega)
      have d1 : (t == t) = true := by simp
      have d2 : (t != t) = false := by simp
      have d3 := decide_eq_false h2
      go_enter Try.func38, Try.ntmps38
      go_upto_region 1 with fail
      have hR := Au.rows2 w (.cells #[.int .i64 t, .int .i64 s, .int .i64 x0, .int .i64 x1, .int .i64 x2, .int .i64 x3, .int .i64 x4, .int .i64 x5] 104) (.cells #[.int .i64 t, .int .i64 z, .int .i64 y0_, .int .i64 y1_, .int .i64 y2_, .int .i64 y3_, .int .i64 y4_, .int .i64 y5_] 104)
      have HUx := below_n2 w (.cells #[.int .i64 t, .int .i64 s, .int .i64 x0, .int .i64 x1, .int .i64 x2, .int .i64 x3, .int .i64 x4, .int .i64 x5] 104) (.cells #[.int .i64 t, .int .i64 z, .int .i64 y0_, .int .i64 y1_, .int .i64 y2_, .int .i64 y3_, .int .i64 y4_, .int .i64 y5_] 104)
      obtain ⟨y0, hy0⟩ : ∃ y0, (w.alloc (.cells #[.int .i64 t, .int .i64 s, .int .i64 x0, .int .i64 x1, .int .i64 x2, .int .i64 x3, .int .i64 x4, .int .i64 x5] 104)).alloc (.cells #[.int .i64 t, .int .i64 z, .int .i64 y0_, .int .i64 y1_, .int .i64 y2_, .int .i64 y3_, .int .i64 y4_, .int .i64 y5_] 104) = y0 := ⟨_, rfl⟩
      rw [hy0] at hR HUx ⊢
      clear hy0
      have HU0 := Lib.hid HUx
      clear HUx
      obtain ⟨hr0_0, hr0_1⟩ := hR
      have c0_0 := cell_of_row _ _ 0 _ _ _ hr0_0
      have c0_1 := cell_of_row _ _ 1 _ _ _ hr0_0
      have c0_2 := cell_of_row _ _ 2 _ _ _ hr0_0
      have c0_3 := cell_of_row _ _ 3 _ _ _ hr0_0
      have c0_4 := cell_of_row _ _ 4 _ _ _ hr0_0
      have c0_5 := cell_of_row _ _ 5 _ _ _ hr0_0
      have c0_6 := cell_of_row _ _ 6 _ _ _ hr0_0
      have c0_7 := cell_of_row _ _ 7 _ _ _ hr0_0
      have c1_0 := cell_of_row _ _ 0 _ _ _ hr0_1
      have c1_1 := cell_of_row _ _ 1 _ _ _ hr0_1
      have c1_2 := cell_of_row _ _ 2 _ _ _ hr0_1
      have c1_3 := cell_of_row _ _ 3 _ _ _ hr0_1
      have c1_4 := cell_of_row _ _ 4 _ _ _ hr0_1
      have c1_5 := cell_of_row _ _ 5 _ _ _ hr0_1
      have c1_6 := cell_of_row _ _ 6 _ _ _ hr0_1
      have c1_7 := cell_of_row _ _ 7 _ _ _ hr0_1
      simp at c0_0 c0_1 c0_2 c0_3 c0_4 c0_5 c0_6 c0_7 c1_0 c1_1 c1_2 c1_3 c1_4 c1_5 c1_6 c1_7
      go_wp2
      go_ret
      exact ⟨by simp [bef, h2], HU0.out⟩
  · skip
    by_cases h2 : t < u
    · skip
      have d1 : (t == u) = false := by simpa using h1
      have d2 : (t != u) = true := by simp [h1]
      have d3 := decide_eq_true h2
      go_enter Try.func38, Try.ntmps38
      go_upto_region 1 with fail
      have hR := Au.rows2 w (.cells #[.int .i64 t, .int .i64 s, .int .i64 x0, .int .i64 x1, .int .i64 x2, .int .i64 x3, .int .i64 x4, .int .i64 x5] 104) (.cells #[.int .i64 u, .int .i64 z, .int .i64 y0_, .int .i64 y1_, .int .i64 y2_, .int .i64 y3_, .int .i64 y4_, .int .i64 y5_] 104)
      have HUx := below_n2 w (.cells #[.int .i64 t, .int .i64 s, .int .i64 x0, .int .i64 x1, .int .i64 x2, .int .i64 x3, .int .i64 x4, .int .i64 x5] 104) (.cells #[.int .i64 u, .int .i64 z, .int .i64 y0_, .int .i64 y1_, .int .i64 y2_, .int .i64 y3_, .int .i64 y4_, .int .i64 y5_] 104)
      obtain ⟨y0, hy0⟩ : ∃ y0, (w.alloc (.cells #[.int .i64 t, .int .i64 s, .int .i64 x0, .int .i64 x1, .int .i64 x2, .int .i64 x3, .int .i64 x4, .int .i64 x5] 104)).alloc (.cells #[.int .i64 u, .int .i64 z, .int .i64 y0_, .int .i64 y1_, .int .i64 y2_, .int .i64 y3_, .int .i64 y4_, .int .i64 y5_] 104) = y0 := ⟨_, rfl⟩
      rw [hy0] at hR HUx ⊢
      clear hy0
      have HU0 := Lib.hid HUx
      clear HUx
      obtain ⟨hr0_0, hr0_1⟩ := hR
      have c0_0 := cell_of_row _ _ 0 _ _ _ hr0_0
      have c0_1 := cell_of_row _ _ 1 _ _ _ hr0_0
      have c0_2 := cell_of_row _ _ 2 _ _ _ hr0_0
      have c0_3 := cell_of_row _ _ 3 _ _ _ hr0_0
      have c0_4 := cell_of_row _ _ 4 _ _ _ hr0_0
      have c0_5 := cell_of_row _ _ 5 _ _ _ hr0_0
      have c0_6 := cell_of_row _ _ 6 _ _ _ hr0_0
      have c0_7 := cell_of_row _ _ 7 _ _ _ hr0_0
      have c1_0 := cell_of_row _ _ 0 _ _ _ hr0_1
      have c1_1 := cell_of_row _ _ 1 _ _ _ hr0_1
      have c1_2 := cell_of_row _ _ 2 _ _ _ hr0_1
      have c1_3 := cell_of_row _ _ 3 _ _ _ hr0_1
      have c1_4 := cell_of_row _ _ 4 _ _ _ hr0_1
      have c1_5 := cell_of_row _ _ 5 _ _ _ hr0_1
      have c1_6 := cell_of_row _ _ 6 _ _ _ hr0_1
      have c1_7 := cell_of_row _ _ 7 _ _ _ hr0_1
      simp at c0_0 c0_1 c0_2 c0_3 c0_4 c0_5 c0_6 c0_7 c1_0 c1_1 c1_2 c1_3 c1_4 c1_5 c1_6 c1_7
      go_wp2
      go_ret
      exact ⟨by simp [bef, h1, h2], HU0.out⟩
    · skip
      have d1 : (t == u) = false := by simpa using h1
      have d2 : (t != u) = true := by simp [h1]
      have d3 := decide_eq_false h2
      go_enter Try.func38, Try.ntmps38
      go_upto_region 1 with fail
      have hR := Au.rows2 w (.cells #[.int .i64 t, .int .i64 s, .int .i64 x0, .int .i64 x1, .int .i64 x2, .int .i64 x3, .int .i64 x4, .int .i64 x5] 104) (.cells #[.int .i64 u, .int .i64 z, .int .i64 y0_, .int .i64 y1_, .int .i64 y2_, .int .i64 y3_, .int .i64 y4_, .int .i64 y5_] 104)
      have HUx := below_n2 w (.cells #[.int .i64 t, .int .i64 s, .int .i64 x0, .int .i64 x1, .int .i64 x2, .int .i64 x3, .int .i64 x4, .int .i64 x5] 104) (.cells #[.int .i64 u, .int .i64 z, .int .i64 y0_, .int .i64 y1_, .int .i64 y2_, .int .i64 y3_, .int .i64 y4_, .int .i64 y5_] 104)
      obtain ⟨y0, hy0⟩ : ∃ y0, (w.alloc (.cells #[.int .i64 t, .int .i64 s, .int .i64 x0, .int .i64 x1, .int .i64 x2, .int .i64 x3, .int .i64 x4, .int .i64 x5] 104)).alloc (.cells #[.int .i64 u, .int .i64 z, .int .i64 y0_, .int .i64 y1_, .int .i64 y2_, .int .i64 y3_, .int .i64 y4_, .int .i64 y5_] 104) = y0 := ⟨_, rfl⟩
      rw [hy0] at hR HUx ⊢
      clear hy0
      have HU0 := Lib.hid HUx
      clear HUx
      obtain ⟨hr0_0, hr0_1⟩ := hR
      have c0_0 := cell_of_row _ _ 0 _ _ _ hr0_0
      have c0_1 := cell_of_row _ _ 1 _ _ _ hr0_0
      have c0_2 := cell_of_row _ _ 2 _ _ _ hr0_0
      have c0_3 := cell_of_row _ _ 3 _ _ _ hr0_0
      have c0_4 := cell_of_row _ _ 4 _ _ _ hr0_0
      have c0_5 := cell_of_row _ _ 5 _ _ _ hr0_0
      have c0_6 := cell_of_row _ _ 6 _ _ _ hr0_0
      have c0_7 := cell_of_row _ _ 7 _ _ _ hr0_0
      have c1_0 := cell_of_row _ _ 0 _ _ _ hr0_1
      have c1_1 := cell_of_row _ _ 1 _ _ _ hr0_1
      have c1_2 := cell_of_row _ _ 2 _ _ _ hr0_1
      have c1_3 := cell_of_row _ _ 3 _ _ _ hr0_1
      have c1_4 := cell_of_row _ _ 4 _ _ _ hr0_1
      have c1_5 := cell_of_row _ _ 5 _ _ _ hr0_1
      have c1_6 := cell_of_row _ _ 6 _ _ _ hr0_1
      have c1_7 := cell_of_row _ _ 7 _ _ _ hr0_1
      simp at c0_0 c0_1 c0_2 c0_3 c0_4 c0_5 c0_6 c0_7 c1_0 c1_1 c1_2 c1_3 c1_4 c1_5 c1_6 c1_7
      go_wp2
      go_ret
      exact ⟨by simp [bef, h1, h2], HU0.out⟩

set_option maxHeartbeats 4000000 in
set_option maxRecDepth 100000 in
theorem rbefore_any (t s x0 x1 x2 x3 x4 x5 u z y0_ y1_ y2_ y3_ y4_ y5_ : Int) (w : World)  : Calls Try.prog 39 #[.agg #[.int .i64 t, .int .i64 s, .int .i64 x0, .int .i64 x1, .int .i64 x2, .int .i64 x3, .int .i64 x4, .int .i64 x5], .agg #[.int .i64 u, .int .i64 z, .int .i64 y0_, .int .i64 y1_, .int .i64 y2_, .int .i64 y3_, .int .i64 y4_, .int .i64 y5_]] w fun e' w' => e' = .returned (.bool (bef t s u z)) ∧ Below w.heap.size w w' := by
  by_cases h1 : t = u
  · subst h1
    by_cases h2 : s < z
    · skip
      have d0 : decide (t < t) = false := decide_eq_false (by omega)
      have d1 : (t == t) = true := by simp
      have d2 : (t != t) = false := by simp
      have d3 := decide_eq_true h2
      go_enter Try.func39, Try.ntmps39
      go_upto_region 1 with fail
      have hR := Au.rows2 w (.cells #[.int .i64 t, .int .i64 s, .int .i64 x0, .int .i64 x1, .int .i64 x2, .int .i64 x3, .int .i64 x4, .int .i64 x5] 99) (.cells #[.int .i64 t, .int .i64 z, .int .i64 y0_, .int .i64 y1_, .int .i64 y2_, .int .i64 y3_, .int .i64 y4_, .int .i64 y5_] 99)
      have HUx := below_n2 w (.cells #[.int .i64 t, .int .i64 s, .int .i64 x0, .int .i64 x1, .int .i64 x2, .int .i64 x3, .int .i64 x4, .int .i64 x5] 99) (.cells #[.int .i64 t, .int .i64 z, .int .i64 y0_, .int .i64 y1_, .int .i64 y2_, .int .i64 y3_, .int .i64 y4_, .int .i64 y5_] 99)
      obtain ⟨y0, hy0⟩ : ∃ y0, (w.alloc (.cells #[.int .i64 t, .int .i64 s, .int .i64 x0, .int .i64 x1, .int .i64 x2, .int .i64 x3, .int .i64 x4, .int .i64 x5] 99)).alloc (.cells #[.int .i64 t, .int .i64 z, .int .i64 y0_, .int .i64 y1_, .int .i64 y2_, .int .i64 y3_, .int .i64 y4_, .int .i64 y5_] 99) = y0 := ⟨_, rfl⟩
      rw [hy0] at hR HUx ⊢
      clear hy0
      have HU0 := Lib.hid HUx
      clear HUx
      obtain ⟨hr0_0, hr0_1⟩ := hR
      have c0_0 := cell_of_row _ _ 0 _ _ _ hr0_0
      have c0_1 := cell_of_row _ _ 1 _ _ _ hr0_0
      have c0_2 := cell_of_row _ _ 2 _ _ _ hr0_0
      have c0_3 := cell_of_row _ _ 3 _ _ _ hr0_0
      have c0_4 := cell_of_row _ _ 4 _ _ _ hr0_0
      have c0_5 := cell_of_row _ _ 5 _ _ _ hr0_0
      have c0_6 := cell_of_row _ _ 6 _ _ _ hr0_0
      have c0_7 := cell_of_row _ _ 7 _ _ _ hr0_0
      have c1_0 := cell_of_row _ _ 0 _ _ _ hr0_1
      have c1_1 := cell_of_row _ _ 1 _ _ _ hr0_1
      have c1_2 := cell_of_row _ _ 2 _ _ _ hr0_1
      have c1_3 := cell_of_row _ _ 3 _ _ _ hr0_1
      have c1_4 := cell_of_row _ _ 4 _ _ _ hr0_1
      have c1_5 := cell_of_row _ _ 5 _ _ _ hr0_1
      have c1_6 := cell_of_row _ _ 6 _ _ _ hr0_1
      have c1_7 := cell_of_row _ _ 7 _ _ _ hr0_1
      simp at c0_0 c0_1 c0_2 c0_3 c0_4 c0_5 c0_6 c0_7 c1_0 c1_1 c1_2 c1_3 c1_4 c1_5 c1_6 c1_7
      go_wp2
      go_ret
      exact ⟨by simp [bef, h2], HU0.out⟩
    · skip
      have d0 : decide (t < t) = false := decide_eq_false (by omega)
      have d1 : (t == t) = true := by simp
      have d2 : (t != t) = false := by simp
      have d3 := decide_eq_false h2
      go_enter Try.func39, Try.ntmps39
      go_upto_region 1 with fail
      have hR := Au.rows2 w (.cells #[.int .i64 t, .int .i64 s, .int .i64 x0, .int .i64 x1, .int .i64 x2, .int .i64 x3, .int .i64 x4, .int .i64 x5] 99) (.cells #[.int .i64 t, .int .i64 z, .int .i64 y0_, .int .i64 y1_, .int .i64 y2_, .int .i64 y3_, .int .i64 y4_, .int .i64 y5_] 99)
      have HUx := below_n2 w (.cells #[.int .i64 t, .int .i64 s, .int .i64 x0, .int .i64 x1, .int .i64 x2, .int .i64 x3, .int .i64 x4, .int .i64 x5] 99) (.cells #[.int .i64 t, .int .i64 z, .int .i64 y0_, .int .i64 y1_, .int .i64 y2_, .int .i64 y3_, .int .i64 y4_, .int .i64 y5_] 99)
      obtain ⟨y0, hy0⟩ : ∃ y0, (w.alloc (.cells #[.int .i64 t, .int .i64 s, .int .i64 x0, .int .i64 x1, .int .i64 x2, .int .i64 x3, .int .i64 x4, .int .i64 x5] 99)).alloc (.cells #[.int .i64 t, .int .i64 z, .int .i64 y0_, .int .i64 y1_, .int .i64 y2_, .int .i64 y3_, .int .i64 y4_, .int .i64 y5_] 99) = y0 := ⟨_, rfl⟩
      rw [hy0] at hR HUx ⊢
      clear hy0
      have HU0 := Lib.hid HUx
      clear HUx
      obtain ⟨hr0_0, hr0_1⟩ := hR
      have c0_0 := cell_of_row _ _ 0 _ _ _ hr0_0
      have c0_1 := cell_of_row _ _ 1 _ _ _ hr0_0
      have c0_2 := cell_of_row _ _ 2 _ _ _ hr0_0
      have c0_3 := cell_of_row _ _ 3 _ _ _ hr0_0
      have c0_4 := cell_of_row _ _ 4 _ _ _ hr0_0
      have c0_5 := cell_of_row _ _ 5 _ _ _ hr0_0
      have c0_6 := cell_of_row _ _ 6 _ _ _ hr0_0
      have c0_7 := cell_of_row _ _ 7 _ _ _ hr0_0
      have c1_0 := cell_of_row _ _ 0 _ _ _ hr0_1
      have c1_1 := cell_of_row _ _ 1 _ _ _ hr0_1
      have c1_2 := cell_of_row _ _ 2 _ _ _ hr0_1
      have c1_3 := cell_of_row _ _ 3 _ _ _ hr0_1
      have c1_4 := cell_of_row _ _ 4 _ _ _ hr0_1
      have c1_5 := cell_of_row _ _ 5 _ _ _ hr0_1
      have c1_6 := cell_of_row _ _ 6 _ _ _ hr0_1
      have c1_7 := cell_of_row _ _ 7 _ _ _ hr0_1
      simp at c0_0 c0_1 c0_2 c0_3 c0_4 c0_5 c0_6 c0_7 c1_0 c1_1 c1_2 c1_3 c1_4 c1_5 c1_6 c1_7
      go_wp2
      go_ret
      exact ⟨by simp [bef, h2], HU0.out⟩
  · skip
    by_cases h2 : t < u
    · skip
      have d1 : (t == u) = false := by simpa using h1
      have d2 : (t != u) = true := by simp [h1]
      have d3 := decide_eq_true h2
      go_enter Try.func39, Try.ntmps39
      go_upto_region 1 with fail
      have hR := Au.rows2 w (.cells #[.int .i64 t, .int .i64 s, .int .i64 x0, .int .i64 x1, .int .i64 x2, .int .i64 x3, .int .i64 x4, .int .i64 x5] 99) (.cells #[.int .i64 u, .int .i64 z, .int .i64 y0_, .int .i64 y1_, .int .i64 y2_, .int .i64 y3_, .int .i64 y4_, .int .i64 y5_] 99)
      have HUx := below_n2 w (.cells #[.int .i64 t, .int .i64 s, .int .i64 x0, .int .i64 x1, .int .i64 x2, .int .i64 x3, .int .i64 x4, .int .i64 x5] 99) (.cells #[.int .i64 u, .int .i64 z, .int .i64 y0_, .int .i64 y1_, .int .i64 y2_, .int .i64 y3_, .int .i64 y4_, .int .i64 y5_] 99)
      obtain ⟨y0, hy0⟩ : ∃ y0, (w.alloc (.cells #[.int .i64 t, .int .i64 s, .int .i64 x0, .int .i64 x1, .int .i64 x2, .int .i64 x3, .int .i64 x4, .int .i64 x5] 99)).alloc (.cells #[.int .i64 u, .int .i64 z, .int .i64 y0_, .int .i64 y1_, .int .i64 y2_, .int .i64 y3_, .int .i64 y4_, .int .i64 y5_] 99) = y0 := ⟨_, rfl⟩
      rw [hy0] at hR HUx ⊢
      clear hy0
      have HU0 := Lib.hid HUx
      clear HUx
      obtain ⟨hr0_0, hr0_1⟩ := hR
      have c0_0 := cell_of_row _ _ 0 _ _ _ hr0_0
      have c0_1 := cell_of_row _ _ 1 _ _ _ hr0_0
      have c0_2 := cell_of_row _ _ 2 _ _ _ hr0_0
      have c0_3 := cell_of_row _ _ 3 _ _ _ hr0_0
      have c0_4 := cell_of_row _ _ 4 _ _ _ hr0_0
      have c0_5 := cell_of_row _ _ 5 _ _ _ hr0_0
      have c0_6 := cell_of_row _ _ 6 _ _ _ hr0_0
      have c0_7 := cell_of_row _ _ 7 _ _ _ hr0_0
      have c1_0 := cell_of_row _ _ 0 _ _ _ hr0_1
      have c1_1 := cell_of_row _ _ 1 _ _ _ hr0_1
      have c1_2 := cell_of_row _ _ 2 _ _ _ hr0_1
      have c1_3 := cell_of_row _ _ 3 _ _ _ hr0_1
      have c1_4 := cell_of_row _ _ 4 _ _ _ hr0_1
      have c1_5 := cell_of_row _ _ 5 _ _ _ hr0_1
      have c1_6 := cell_of_row _ _ 6 _ _ _ hr0_1
      have c1_7 := cell_of_row _ _ 7 _ _ _ hr0_1
      simp at c0_0 c0_1 c0_2 c0_3 c0_4 c0_5 c0_6 c0_7 c1_0 c1_1 c1_2 c1_3 c1_4 c1_5 c1_6 c1_7
      go_wp2
      go_ret
      exact ⟨by simp [bef, h1, h2], HU0.out⟩
    · skip
      have d1 : (t == u) = false := by simpa using h1
      have d2 : (t != u) = true := by simp [h1]
      have d3 := decide_eq_false h2
      go_enter Try.func39, Try.ntmps39
      go_upto_region 1 with fail
      have hR := Au.rows2 w (.cells #[.int .i64 t, .int .i64 s, .int .i64 x0, .int .i64 x1, .int .i64 x2, .int .i64 x3, .int .i64 x4, .int .i64 x5] 99) (.cells #[.int .i64 u, .int .i64 z, .int .i64 y0_, .int .i64 y1_, .int .i64 y2_, .int .i64 y3_, .int .i64 y4_, .int .i64 y5_] 99)
      have HUx := below_n2 w (.cells #[.int .i64 t, .int .i64 s, .int .i64 x0, .int .i64 x1, .int .i64 x2, .int .i64 x3, .int .i64 x4, .int .i64 x5] 99) (.cells #[.int .i64 u, .int .i64 z, .int .i64 y0_, .int .i64 y1_, .int .i64 y2_, .int .i64 y3_, .int .i64 y4_, .int .i64 y5_] 99)
      obtain ⟨y0, hy0⟩ : ∃ y0, (w.alloc (.cells #[.int .i64 t, .int .i64 s, .int .i64 x0, .int .i64 x1, .int .i64 x2, .int .i64 x3, .int .i64 x4, .int .i64 x5] 99)).alloc (.cells #[.int .i64 u, .int .i64 z, .int .i64 y0_, .int .i64 y1_, .int .i64 y2_, .int .i64 y3_, .int .i64 y4_, .int .i64 y5_] 99) = y0 := ⟨_, rfl⟩
      rw [hy0] at hR HUx ⊢
      clear hy0
      have HU0 := Lib.hid HUx
      clear HUx
      obtain ⟨hr0_0, hr0_1⟩ := hR
      have c0_0 := cell_of_row _ _ 0 _ _ _ hr0_0
      have c0_1 := cell_of_row _ _ 1 _ _ _ hr0_0
      have c0_2 := cell_of_row _ _ 2 _ _ _ hr0_0
      have c0_3 := cell_of_row _ _ 3 _ _ _ hr0_0
      have c0_4 := cell_of_row _ _ 4 _ _ _ hr0_0
      have c0_5 := cell_of_row _ _ 5 _ _ _ hr0_0
      have c0_6 := cell_of_row _ _ 6 _ _ _ hr0_0
      have c0_7 := cell_of_row _ _ 7 _ _ _ hr0_0
      have c1_0 := cell_of_row _ _ 0 _ _ _ hr0_1
      have c1_1 := cell_of_row _ _ 1 _ _ _ hr0_1
      have c1_2 := cell_of_row _ _ 2 _ _ _ hr0_1
      have c1_3 := cell_of_row _ _ 3 _ _ _ hr0_1
      have c1_4 := cell_of_row _ _ 4 _ _ _ hr0_1
      have c1_5 := cell_of_row _ _ 5 _ _ _ hr0_1
      have c1_6 := cell_of_row _ _ 6 _ _ _ hr0_1
      have c1_7 := cell_of_row _ _ 7 _ _ _ hr0_1
      simp at c0_0 c0_1 c0_2 c0_3 c0_4 c0_5 c0_6 c0_7 c1_0 c1_1 c1_2 c1_3 c1_4 c1_5 c1_6 c1_7
      go_wp2
      go_ret
      exact ⟨by simp [bef, h1, h2], HU0.out⟩

theorem lo_two (L : Nat → Int) (i : Nat) : lo L i 2 = min (L i) (L (3 + i)) := by
  show min (min (L i) (L (0 * 3 + i))) (L (1 * 3 + i)) = _
  rw [show 0 * 3 + i = i by omega, show 1 * 3 + i = 3 + i by omega]
  omega

theorem hig_two (L : Nat → Int) (i : Nat) : hig L i 2 = max (L i) (L (3 + i)) := by
  show max (max (L i) (L (0 * 3 + i))) (L (1 * 3 + i)) = _
  rw [show 0 * 3 + i = i by omega, show 1 * 3 + i = 3 + i by omega]
  omega

/-- the document's box of two points -/
theorem rof_two (g cap : Nat) (a b c d e f : Int) (t : TypeId) (w : World) (hg : w.heap[g]? = some (.cells #[.int .i64 a, .int .i64 b, .int .i64 c, .int .i64 d, .int .i64 e, .int .i64 f] t (0, 0))) :
    Calls Try.prog 34 #[.slice (some ⟨g, 0, none⟩) 2 cap] w fun e' w' => e' = .returned (.agg #[.int .i64 (min a d), .int .i64 (min b e), .int .i64 (min c f), .int .i64 (max a d), .int .i64 (max b e), .int .i64 (max c f)]) ∧ Below w.heap.size w w' := by
  have h := rof_row g 0 2 cap (six a b c d e f) (by omega) (by omega) w (numsF_mk (lt_heap hg) (fun j hj => by
    rw [Nat.zero_add, cell_of_row _ _ j _ _ _ hg]
    match j, hj with
    | 0, _ => rfl
    | 1, _ => rfl
    | 2, _ => rfl
    | 3, _ => rfl
    | 4, _ => rfl
    | 5, _ => rfl))
  simp only [lo_two, hig_two] at h
  exact h

end Go.Proofs.Ythlcfhnlkpobhaa.Yr
