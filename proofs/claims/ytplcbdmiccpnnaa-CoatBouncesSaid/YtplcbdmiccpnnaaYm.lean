/- What is thrown back, by both sides. -/
import Derived.Test.YtplcbdmiccpnnaaAu
import Derived.Test.YtplcbdmiccpnnaaDo
namespace Go.Proofs.Ytplcbdmiccpnnaa.Yr
open Go.RowKit Go.Proofs.Ytplcbdmiccpnnaa Go.Proofs.Ytplcbdmiccpnnaa.Wa Go.Proofs.Ytplcbdmiccpnnaa.Ve Go.Proofs.Ytplcbdmiccpnnaa.Au
set_option linter.unusedVariables false
set_option linter.unusedSimpArgs false

set_option maxHeartbeats 4000000 in
set_option maxRecDepth 100000 in
theorem mirrored_any (ax ay az bx by_ bz : Int) (w : World)  : Calls Try.prog 33 #[.agg #[.int .i64 ax, .int .i64 ay, .int .i64 az], .agg #[.int .i64 bx, .int .i64 by_, .int .i64 bz]] w fun e' w' => e' = .returned (.agg #[.int .i64 (Pl.sub ax (Pl.mul bx (Pl.mul 131072 (Pl.add (Pl.add (Pl.add 0 (Pl.mul ax bx)) (Pl.mul ay by_)) (Pl.mul az bz))))), .int .i64 (Pl.sub ay (Pl.mul by_ (Pl.mul 131072 (Pl.add (Pl.add (Pl.add 0 (Pl.mul ax bx)) (Pl.mul ay by_)) (Pl.mul az bz))))), .int .i64 (Pl.sub az (Pl.mul bz (Pl.mul 131072 (Pl.add (Pl.add (Pl.add 0 (Pl.mul ax bx)) (Pl.mul ay by_)) (Pl.mul az bz)))))]) ∧ Below w.heap.size w w' := by
  go_enter Try.func33, Try.ntmps33
  go_upto_region 1 with fail
  have hR := Au.rows3 w (.cells #[.int .i64 ax, .int .i64 ay, .int .i64 az] 39) (.cells #[.int .i64 bx, .int .i64 by_, .int .i64 bz] 39) (.cells #[.int .i64 0, .int .i64 0, .int .i64 0] 39)
  have HUx := below_n3 w (.cells #[.int .i64 ax, .int .i64 ay, .int .i64 az] 39) (.cells #[.int .i64 bx, .int .i64 by_, .int .i64 bz] 39) (.cells #[.int .i64 0, .int .i64 0, .int .i64 0] 39)
  obtain ⟨y0, hy0⟩ : ∃ y0, ((w.alloc (.cells #[.int .i64 ax, .int .i64 ay, .int .i64 az] 39)).alloc (.cells #[.int .i64 bx, .int .i64 by_, .int .i64 bz] 39)).alloc (.cells #[.int .i64 0, .int .i64 0, .int .i64 0] 39) = y0 := ⟨_, rfl⟩
  rw [hy0] at hR HUx ⊢
  clear hy0
  have HU0 := Lib.hid HUx
  clear HUx
  obtain ⟨hr0_0, hr0_1, hr0_2⟩ := hR
  refine wp_region_held_drew (S := fun y => y.heap[w.heap.size]? = some (.cells #[.int .i64 ax, .int .i64 ay, .int .i64 az] 39 (0, 0)) ∧ y.heap[w.heap.size + 1]? = some (.cells #[.int .i64 bx, .int .i64 by_, .int .i64 bz] 39 (0, 0))) (by kernel_rfl) (⟨hr0_0, hr0_1⟩) (fun hS0 => ?_)
  obtain ⟨y1, hy1⟩ : ∃ y, y0.drew = y := ⟨_, rfl⟩
  have HU1 := Lib.hid (show Below w.heap.size w y1 by rw [← hy1]; exact HU0.out.drew)
  have hr1_0 : y1.heap[w.heap.size]? = some (.cells #[.int .i64 ax, .int .i64 ay, .int .i64 az] 39 (0, 0)) := by rw [← hy1]; exact hr0_0
  have hr1_1 : y1.heap[w.heap.size + 1]? = some (.cells #[.int .i64 bx, .int .i64 by_, .int .i64 bz] 39 (0, 0)) := by rw [← hy1]; exact hr0_1
  have hr1_2 : y1.heap[w.heap.size + 1 + 1]? = some (.cells #[.int .i64 0, .int .i64 0, .int .i64 0] 39 (0, 0)) := by rw [← hy1]; exact hr0_2
  rw [hy1] at hS0 ⊢
  clear hy1
  refine wpAnyH_take (i := 0) (v := ?_) rfl (by kernel_rfl) (by kernel_rfl) (by kernel_rfl) (fun _ _ _ h => h) (Or.inl ⟨by kernel_rfl, by (intro wz hSz; have c0_0 := cell_of_row _ _ 0 _ _ _ hSz.1; have c0_1 := cell_of_row _ _ 1 _ _ _ hSz.1; have c0_2 := cell_of_row _ _ 2 _ _ _ hSz.1; have c1_0 := cell_of_row _ _ 0 _ _ _ hSz.2; have c1_1 := cell_of_row _ _ 1 _ _ _ hSz.2; have c1_2 := cell_of_row _ _ 2 _ _ _ hSz.2; simp at c0_0 c0_1 c0_2 c1_0 c1_1 c1_2; go_simp; try with_reducible rfl)⟩) hS0 ?_
  go_simp
  refine wpAnyH_take (i := 1) (v := ?_) rfl (by kernel_rfl) (by kernel_rfl) (by kernel_rfl) (fun _ _ _ h => h) (Or.inl ⟨by kernel_rfl, by (intro wz hSz; have c0_0 := cell_of_row _ _ 0 _ _ _ hSz.1; have c0_1 := cell_of_row _ _ 1 _ _ _ hSz.1; have c0_2 := cell_of_row _ _ 2 _ _ _ hSz.1; have c1_0 := cell_of_row _ _ 0 _ _ _ hSz.2; have c1_1 := cell_of_row _ _ 1 _ _ _ hSz.2; have c1_2 := cell_of_row _ _ 2 _ _ _ hSz.2; simp at c0_0 c0_1 c0_2 c1_0 c1_1 c1_2; go_simp; try with_reducible rfl)⟩) hS0 ?_
  go_simp
  refine wpAnyH_take (i := 2) (v := ?_) rfl (by kernel_rfl) (by kernel_rfl) (by kernel_rfl) (fun _ _ _ h => h) (Or.inl ⟨by kernel_rfl, by (intro wz hSz; have c0_0 := cell_of_row _ _ 0 _ _ _ hSz.1; have c0_1 := cell_of_row _ _ 1 _ _ _ hSz.1; have c0_2 := cell_of_row _ _ 2 _ _ _ hSz.1; have c1_0 := cell_of_row _ _ 0 _ _ _ hSz.2; have c1_1 := cell_of_row _ _ 1 _ _ _ hSz.2; have c1_2 := cell_of_row _ _ 2 _ _ _ hSz.2; simp at c0_0 c0_1 c0_2 c1_0 c1_1 c1_2; go_simp; try with_reducible rfl)⟩) hS0 ?_
  go_simp
  refine wpAnyH_take (i := 3) (v := ?_) rfl (by kernel_rfl) (by kernel_rfl) (by kernel_rfl) (fun _ _ _ h => h) (Or.inl ⟨by kernel_rfl, by (intro wz hSz; have c0_0 := cell_of_row _ _ 0 _ _ _ hSz.1; have c0_1 := cell_of_row _ _ 1 _ _ _ hSz.1; have c0_2 := cell_of_row _ _ 2 _ _ _ hSz.1; have c1_0 := cell_of_row _ _ 0 _ _ _ hSz.2; have c1_1 := cell_of_row _ _ 1 _ _ _ hSz.2; have c1_2 := cell_of_row _ _ 2 _ _ _ hSz.2; simp at c0_0 c0_1 c0_2 c1_0 c1_1 c1_2; go_simp; try with_reducible rfl)⟩) hS0 ?_
  go_simp
  refine wpAnyH_ready (rs := [4]) (by kernel_rfl) (by simp) ?_
  refine AllReadyH.cons rfl (fun K hK => ?_) AllReadyH.nil
  go_simp
  go_wp2_with (go_at_call 23; refine (dot_any _ _ _ _ _ _ _).mono ?_; rintro e y2 ⟨rfl, hb2⟩)
  have hr2_0 := (hb2.block _ (lt_heap hr1_0)).trans hr1_0
  have hr2_1 := (hb2.block _ (lt_heap hr1_1)).trans hr1_1
  have hr2_2 := (hb2.block _ (lt_heap hr1_2)).trans hr1_2
  have HU2 := Lib.hid (HU1.out.trans (hb2.mono HU1.out.size))
  refine hK.out _ _ (⟨(hb2.block _ (lt_heap hS0.1)).trans hS0.1, (hb2.block _ (lt_heap hS0.2)).trans hS0.2⟩) (fun hS2c => ?_)
  clear hK K
  refine wpAnyH_ready (rs := [5]) (by kernel_rfl) (by simp) ?_
  refine AllReadyH.cons rfl (fun K hK => ?_) AllReadyH.nil
  go_simp
  go_wp2_with (go_at_call 44; refine (mul_any _ _ _).mono ?_; rintro e ww ⟨rfl, rfl⟩)
  refine hK.out _ _ (hS2c) (fun hS2q5 => ?_)
  clear hK K
  refine wpAnyH_ready (rs := [6]) (by kernel_rfl) (by simp) ?_
  refine AllReadyH.cons rfl (fun K hK => ?_) AllReadyH.nil
  go_simp
  go_wp2_with (go_at_call 34; refine (scale_any _ _ _ _ _).mono ?_; rintro e y3 ⟨rfl, hb3⟩)
  have hr3_0 := (hb3.block _ (lt_heap hr2_0)).trans hr2_0
  have hr3_1 := (hb3.block _ (lt_heap hr2_1)).trans hr2_1
  have hr3_2 := (hb3.block _ (lt_heap hr2_2)).trans hr2_2
  have HU3 := Lib.hid (HU2.out.trans (hb3.mono HU2.out.size))
  refine hK.out _ _ (⟨(hb3.block _ (lt_heap hS2q5.1)).trans hS2q5.1, (hb3.block _ (lt_heap hS2q5.2)).trans hS2q5.2⟩) (fun hS3c => ?_)
  clear hK K
  refine wpAnyH_ready (rs := [7]) (by kernel_rfl) (by simp) ?_
  refine AllReadyH.cons rfl (fun K hK => ?_) AllReadyH.nil
  go_simp
  go_wp2_with (go_at_call 58; refine (vsub_any _ _ _ _ _ _ _).mono ?_; rintro e y4 ⟨rfl, hb4⟩)
  have hr4_0 := (hb4.block _ (lt_heap hr3_0)).trans hr3_0
  have hr4_1 := (hb4.block _ (lt_heap hr3_1)).trans hr3_1
  have hr4_2 := (hb4.block _ (lt_heap hr3_2)).trans hr3_2
  have HU4 := Lib.hid (HU3.out.trans (hb4.mono HU3.out.size))
  refine hK.out _ _ (⟨(hb4.block _ (lt_heap hS3c.1)).trans hS3c.1, (hb4.block _ (lt_heap hS3c.2)).trans hS3c.2⟩) (fun hS4c => ?_)
  clear hK K
  refine wpAnyH_ready (rs := [8]) (by kernel_rfl) (by simp) ?_
  refine AllReadyH.cons rfl (fun K hK => ?_) AllReadyH.nil
  refine step_store_row rfl 39 (.tmp 4) (.tmp 12) rfl #[.int .i64 0, .int .i64 0, .int .i64 0] #[.int .i64 (Pl.sub ax (Pl.mul bx (Pl.mul 131072 (Pl.add (Pl.add (Pl.add 0 (Pl.mul ax bx)) (Pl.mul ay by_)) (Pl.mul az bz))))), .int .i64 (Pl.sub ay (Pl.mul by_ (Pl.mul 131072 (Pl.add (Pl.add (Pl.add 0 (Pl.mul ax bx)) (Pl.mul ay by_)) (Pl.mul az bz))))), .int .i64 (Pl.sub az (Pl.mul bz (Pl.mul 131072 (Pl.add (Pl.add (Pl.add 0 (Pl.mul ax bx)) (Pl.mul ay by_)) (Pl.mul az bz)))))] _ 39 hr4_2 rfl (by first | rfl | (go_simp; done) | (go_simp; rfl)) (by kernel_rfl) rfl (by simp [Value.oneCell']) ?_
  have hN := setRow_heap _ (w.heap.size + 1 + 1) _ #[.int .i64 (Pl.sub ax (Pl.mul bx (Pl.mul 131072 (Pl.add (Pl.add (Pl.add 0 (Pl.mul ax bx)) (Pl.mul ay by_)) (Pl.mul az bz))))), .int .i64 (Pl.sub ay (Pl.mul by_ (Pl.mul 131072 (Pl.add (Pl.add (Pl.add 0 (Pl.mul ax bx)) (Pl.mul ay by_)) (Pl.mul az bz))))), .int .i64 (Pl.sub az (Pl.mul bz (Pl.mul 131072 (Pl.add (Pl.add (Pl.add 0 (Pl.mul ax bx)) (Pl.mul ay by_)) (Pl.mul az bz)))))] _ _ hr4_2
  have hsz := HU4.out.size
  have HUx := below_setRow (g := w.heap.size + 1 + 1) HU4.out (by first | omega | (simp at *; omega)) #[.int .i64 (Pl.sub ax (Pl.mul bx (Pl.mul 131072 (Pl.add (Pl.add (Pl.add 0 (Pl.mul ax bx)) (Pl.mul ay by_)) (Pl.mul az bz))))), .int .i64 (Pl.sub ay (Pl.mul by_ (Pl.mul 131072 (Pl.add (Pl.add (Pl.add 0 (Pl.mul ax bx)) (Pl.mul ay by_)) (Pl.mul az bz))))), .int .i64 (Pl.sub az (Pl.mul bz (Pl.mul 131072 (Pl.add (Pl.add (Pl.add 0 (Pl.mul ax bx)) (Pl.mul ay by_)) (Pl.mul az bz)))))]
  obtain ⟨y5, hy5⟩ : ∃ y, y4.setRow (w.heap.size + 1 + 1) #[.int .i64 (Pl.sub ax (Pl.mul bx (Pl.mul 131072 (Pl.add (Pl.add (Pl.add 0 (Pl.mul ax bx)) (Pl.mul ay by_)) (Pl.mul az bz))))), .int .i64 (Pl.sub ay (Pl.mul by_ (Pl.mul 131072 (Pl.add (Pl.add (Pl.add 0 (Pl.mul ax bx)) (Pl.mul ay by_)) (Pl.mul az bz))))), .int .i64 (Pl.sub az (Pl.mul bz (Pl.mul 131072 (Pl.add (Pl.add (Pl.add 0 (Pl.mul ax bx)) (Pl.mul ay by_)) (Pl.mul az bz)))))] = y := ⟨_, rfl⟩
  have hO : ∀ k, k ≠ w.heap.size + 1 + 1 → y5.heap[k]? = y4.heap[k]? := fun k hk => by rw [← hy5]; exact setRow_other _ _ _ _ hk
  rw [hy5] at hN HUx ⊢
  clear hy5
  have HU5 := Lib.hid HUx
  clear HUx
  have hr5_0 := (hO _ (by omega)).trans hr4_0
  have hr5_1 := (hO _ (by omega)).trans hr4_1
  have hr5_2 := hN
  clear hN
  refine hK.out _ _ (⟨(hO _ (by omega)).trans hS4c.1, (hO _ (by omega)).trans hS4c.2⟩) (fun hS5s => ?_)
  clear hK K
  refine wpAnyH_done (by kernel_rfl) ?_ _
  have c2_0 := cell_of_row _ _ 0 _ _ _ hr5_2
  have c2_1 := cell_of_row _ _ 1 _ _ _ hr5_2
  have c2_2 := cell_of_row _ _ 2 _ _ _ hr5_2
  simp at c2_0 c2_1 c2_2
  go_wp2
  exact bodyPost_ret (v := .agg #[.int .i64 (Pl.sub ax (Pl.mul bx (Pl.mul 131072 (Pl.add (Pl.add (Pl.add 0 (Pl.mul ax bx)) (Pl.mul ay by_)) (Pl.mul az bz))))), .int .i64 (Pl.sub ay (Pl.mul by_ (Pl.mul 131072 (Pl.add (Pl.add (Pl.add 0 (Pl.mul ax bx)) (Pl.mul ay by_)) (Pl.mul az bz))))), .int .i64 (Pl.sub az (Pl.mul bz (Pl.mul 131072 (Pl.add (Pl.add (Pl.add 0 (Pl.mul ax bx)) (Pl.mul ay by_)) (Pl.mul az bz)))))]) (by simp [results, Try.results33, go_sem, c2_0, c2_1, c2_2]) rfl ⟨rfl, HU5.out⟩

set_option maxHeartbeats 4000000 in
set_option maxRecDepth 100000 in
theorem rmirrored_any (ax ay az bx by_ bz : Int) (w : World)  : Calls Try.prog 38 #[.agg #[.int .i64 ax, .int .i64 ay, .int .i64 az], .agg #[.int .i64 bx, .int .i64 by_, .int .i64 bz]] w fun e' w' => e' = .returned (.agg #[.int .i64 (Pl.sub ax (Pl.mul bx (Pl.mul 131072 (Pl.add (Pl.add (Pl.add 0 (Pl.mul ax bx)) (Pl.mul ay by_)) (Pl.mul az bz))))), .int .i64 (Pl.sub ay (Pl.mul by_ (Pl.mul 131072 (Pl.add (Pl.add (Pl.add 0 (Pl.mul ax bx)) (Pl.mul ay by_)) (Pl.mul az bz))))), .int .i64 (Pl.sub az (Pl.mul bz (Pl.mul 131072 (Pl.add (Pl.add (Pl.add 0 (Pl.mul ax bx)) (Pl.mul ay by_)) (Pl.mul az bz)))))]) ∧ Below w.heap.size w w' := by
  go_enter Try.func38, Try.ntmps38
  go_upto_region 1 with fail
  have hR := Au.rows3 w (.cells #[.int .i64 ax, .int .i64 ay, .int .i64 az] 47) (.cells #[.int .i64 bx, .int .i64 by_, .int .i64 bz] 47) (.cells #[.int .i64 0, .int .i64 0, .int .i64 0] 47)
  have HUx := below_n3 w (.cells #[.int .i64 ax, .int .i64 ay, .int .i64 az] 47) (.cells #[.int .i64 bx, .int .i64 by_, .int .i64 bz] 47) (.cells #[.int .i64 0, .int .i64 0, .int .i64 0] 47)
  obtain ⟨y0, hy0⟩ : ∃ y0, ((w.alloc (.cells #[.int .i64 ax, .int .i64 ay, .int .i64 az] 47)).alloc (.cells #[.int .i64 bx, .int .i64 by_, .int .i64 bz] 47)).alloc (.cells #[.int .i64 0, .int .i64 0, .int .i64 0] 47) = y0 := ⟨_, rfl⟩
  rw [hy0] at hR HUx ⊢
  clear hy0
  have HU0 := Lib.hid HUx
  clear HUx
  obtain ⟨hr0_0, hr0_1, hr0_2⟩ := hR
  refine wp_region_held_drew (S := fun y => y.heap[w.heap.size]? = some (.cells #[.int .i64 ax, .int .i64 ay, .int .i64 az] 47 (0, 0)) ∧ y.heap[w.heap.size + 1]? = some (.cells #[.int .i64 bx, .int .i64 by_, .int .i64 bz] 47 (0, 0))) (by kernel_rfl) (⟨hr0_0, hr0_1⟩) (fun hS0 => ?_)
  obtain ⟨y1, hy1⟩ : ∃ y, y0.drew = y := ⟨_, rfl⟩
  have HU1 := Lib.hid (show Below w.heap.size w y1 by rw [← hy1]; exact HU0.out.drew)
  have hr1_0 : y1.heap[w.heap.size]? = some (.cells #[.int .i64 ax, .int .i64 ay, .int .i64 az] 47 (0, 0)) := by rw [← hy1]; exact hr0_0
  have hr1_1 : y1.heap[w.heap.size + 1]? = some (.cells #[.int .i64 bx, .int .i64 by_, .int .i64 bz] 47 (0, 0)) := by rw [← hy1]; exact hr0_1
  have hr1_2 : y1.heap[w.heap.size + 1 + 1]? = some (.cells #[.int .i64 0, .int .i64 0, .int .i64 0] 47 (0, 0)) := by rw [← hy1]; exact hr0_2
  rw [hy1] at hS0 ⊢
  clear hy1
  refine wpAnyH_take (i := 0) (v := ?_) rfl (by kernel_rfl) (by kernel_rfl) (by kernel_rfl) (fun _ _ _ h => h) (Or.inl ⟨by kernel_rfl, by (intro wz hSz; have c0_0 := cell_of_row _ _ 0 _ _ _ hSz.1; have c0_1 := cell_of_row _ _ 1 _ _ _ hSz.1; have c0_2 := cell_of_row _ _ 2 _ _ _ hSz.1; have c1_0 := cell_of_row _ _ 0 _ _ _ hSz.2; have c1_1 := cell_of_row _ _ 1 _ _ _ hSz.2; have c1_2 := cell_of_row _ _ 2 _ _ _ hSz.2; simp at c0_0 c0_1 c0_2 c1_0 c1_1 c1_2; go_simp; try with_reducible rfl)⟩) hS0 ?_
  go_simp
  refine wpAnyH_take (i := 1) (v := ?_) rfl (by kernel_rfl) (by kernel_rfl) (by kernel_rfl) (fun _ _ _ h => h) (Or.inl ⟨by kernel_rfl, by (intro wz hSz; have c0_0 := cell_of_row _ _ 0 _ _ _ hSz.1; have c0_1 := cell_of_row _ _ 1 _ _ _ hSz.1; have c0_2 := cell_of_row _ _ 2 _ _ _ hSz.1; have c1_0 := cell_of_row _ _ 0 _ _ _ hSz.2; have c1_1 := cell_of_row _ _ 1 _ _ _ hSz.2; have c1_2 := cell_of_row _ _ 2 _ _ _ hSz.2; simp at c0_0 c0_1 c0_2 c1_0 c1_1 c1_2; go_simp; try with_reducible rfl)⟩) hS0 ?_
  go_simp
  refine wpAnyH_take (i := 2) (v := ?_) rfl (by kernel_rfl) (by kernel_rfl) (by kernel_rfl) (fun _ _ _ h => h) (Or.inl ⟨by kernel_rfl, by (intro wz hSz; have c0_0 := cell_of_row _ _ 0 _ _ _ hSz.1; have c0_1 := cell_of_row _ _ 1 _ _ _ hSz.1; have c0_2 := cell_of_row _ _ 2 _ _ _ hSz.1; have c1_0 := cell_of_row _ _ 0 _ _ _ hSz.2; have c1_1 := cell_of_row _ _ 1 _ _ _ hSz.2; have c1_2 := cell_of_row _ _ 2 _ _ _ hSz.2; simp at c0_0 c0_1 c0_2 c1_0 c1_1 c1_2; go_simp; try with_reducible rfl)⟩) hS0 ?_
  go_simp
  refine wpAnyH_take (i := 3) (v := ?_) rfl (by kernel_rfl) (by kernel_rfl) (by kernel_rfl) (fun _ _ _ h => h) (Or.inl ⟨by kernel_rfl, by (intro wz hSz; have c0_0 := cell_of_row _ _ 0 _ _ _ hSz.1; have c0_1 := cell_of_row _ _ 1 _ _ _ hSz.1; have c0_2 := cell_of_row _ _ 2 _ _ _ hSz.1; have c1_0 := cell_of_row _ _ 0 _ _ _ hSz.2; have c1_1 := cell_of_row _ _ 1 _ _ _ hSz.2; have c1_2 := cell_of_row _ _ 2 _ _ _ hSz.2; simp at c0_0 c0_1 c0_2 c1_0 c1_1 c1_2; go_simp; try with_reducible rfl)⟩) hS0 ?_
  go_simp
  refine wpAnyH_ready (rs := [4]) (by kernel_rfl) (by simp) ?_
  refine AllReadyH.cons rfl (fun K hK => ?_) AllReadyH.nil
  go_simp
  go_wp2_with (go_at_call 41; refine (rdot_any _ _ _ _ _ _ _).mono ?_; rintro e y2 ⟨rfl, hb2⟩)
  have hr2_0 := (hb2.block _ (lt_heap hr1_0)).trans hr1_0
  have hr2_1 := (hb2.block _ (lt_heap hr1_1)).trans hr1_1
  have hr2_2 := (hb2.block _ (lt_heap hr1_2)).trans hr1_2
  have HU2 := Lib.hid (HU1.out.trans (hb2.mono HU1.out.size))
  refine hK.out _ _ (⟨(hb2.block _ (lt_heap hS0.1)).trans hS0.1, (hb2.block _ (lt_heap hS0.2)).trans hS0.2⟩) (fun hS2c => ?_)
  clear hK K
  refine wpAnyH_ready (rs := [5]) (by kernel_rfl) (by simp) ?_
  refine AllReadyH.cons rfl (fun K hK => ?_) AllReadyH.nil
  go_simp
  go_wp2_with (go_at_call 63; refine (refMul_any _ _ _).mono ?_; rintro e ww ⟨rfl, rfl⟩)
  refine hK.out _ _ (hS2c) (fun hS2q5 => ?_)
  clear hK K
  refine wpAnyH_ready (rs := [6]) (by kernel_rfl) (by simp) ?_
  refine AllReadyH.cons rfl (fun K hK => ?_) AllReadyH.nil
  go_simp
  go_wp2_with (go_at_call 40; refine (rscale_any _ _ _ _ _).mono ?_; rintro e y3 ⟨rfl, hb3⟩)
  have hr3_0 := (hb3.block _ (lt_heap hr2_0)).trans hr2_0
  have hr3_1 := (hb3.block _ (lt_heap hr2_1)).trans hr2_1
  have hr3_2 := (hb3.block _ (lt_heap hr2_2)).trans hr2_2
  have HU3 := Lib.hid (HU2.out.trans (hb3.mono HU2.out.size))
  refine hK.out _ _ (⟨(hb3.block _ (lt_heap hS2q5.1)).trans hS2q5.1, (hb3.block _ (lt_heap hS2q5.2)).trans hS2q5.2⟩) (fun hS3c => ?_)
  clear hK K
  refine wpAnyH_ready (rs := [7]) (by kernel_rfl) (by simp) ?_
  refine AllReadyH.cons rfl (fun K hK => ?_) AllReadyH.nil
  go_simp
  go_wp2_with (go_at_call 62; refine (rsub_any _ _ _ _ _ _ _).mono ?_; rintro e y4 ⟨rfl, hb4⟩)
  have hr4_0 := (hb4.block _ (lt_heap hr3_0)).trans hr3_0
  have hr4_1 := (hb4.block _ (lt_heap hr3_1)).trans hr3_1
  have hr4_2 := (hb4.block _ (lt_heap hr3_2)).trans hr3_2
  have HU4 := Lib.hid (HU3.out.trans (hb4.mono HU3.out.size))
  refine hK.out _ _ (⟨(hb4.block _ (lt_heap hS3c.1)).trans hS3c.1, (hb4.block _ (lt_heap hS3c.2)).trans hS3c.2⟩) (fun hS4c => ?_)
  clear hK K
  refine wpAnyH_ready (rs := [8]) (by kernel_rfl) (by simp) ?_
  refine AllReadyH.cons rfl (fun K hK => ?_) AllReadyH.nil
  refine step_store_row rfl 47 (.tmp 4) (.tmp 12) rfl #[.int .i64 0, .int .i64 0, .int .i64 0] #[.int .i64 (Pl.sub ax (Pl.mul bx (Pl.mul 131072 (Pl.add (Pl.add (Pl.add 0 (Pl.mul ax bx)) (Pl.mul ay by_)) (Pl.mul az bz))))), .int .i64 (Pl.sub ay (Pl.mul by_ (Pl.mul 131072 (Pl.add (Pl.add (Pl.add 0 (Pl.mul ax bx)) (Pl.mul ay by_)) (Pl.mul az bz))))), .int .i64 (Pl.sub az (Pl.mul bz (Pl.mul 131072 (Pl.add (Pl.add (Pl.add 0 (Pl.mul ax bx)) (Pl.mul ay by_)) (Pl.mul az bz)))))] _ 47 hr4_2 rfl (by first | rfl | (go_simp; done) | (go_simp; rfl)) (by kernel_rfl) rfl (by simp [Value.oneCell']) ?_
  have hN := setRow_heap _ (w.heap.size + 1 + 1) _ #[.int .i64 (Pl.sub ax (Pl.mul bx (Pl.mul 131072 (Pl.add (Pl.add (Pl.add 0 (Pl.mul ax bx)) (Pl.mul ay by_)) (Pl.mul az bz))))), .int .i64 (Pl.sub ay (Pl.mul by_ (Pl.mul 131072 (Pl.add (Pl.add (Pl.add 0 (Pl.mul ax bx)) (Pl.mul ay by_)) (Pl.mul az bz))))), .int .i64 (Pl.sub az (Pl.mul bz (Pl.mul 131072 (Pl.add (Pl.add (Pl.add 0 (Pl.mul ax bx)) (Pl.mul ay by_)) (Pl.mul az bz)))))] _ _ hr4_2
  have hsz := HU4.out.size
  have HUx := below_setRow (g := w.heap.size + 1 + 1) HU4.out (by first | omega | (simp at *; omega)) #[.int .i64 (Pl.sub ax (Pl.mul bx (Pl.mul 131072 (Pl.add (Pl.add (Pl.add 0 (Pl.mul ax bx)) (Pl.mul ay by_)) (Pl.mul az bz))))), .int .i64 (Pl.sub ay (Pl.mul by_ (Pl.mul 131072 (Pl.add (Pl.add (Pl.add 0 (Pl.mul ax bx)) (Pl.mul ay by_)) (Pl.mul az bz))))), .int .i64 (Pl.sub az (Pl.mul bz (Pl.mul 131072 (Pl.add (Pl.add (Pl.add 0 (Pl.mul ax bx)) (Pl.mul ay by_)) (Pl.mul az bz)))))]
  obtain ⟨y5, hy5⟩ : ∃ y, y4.setRow (w.heap.size + 1 + 1) #[.int .i64 (Pl.sub ax (Pl.mul bx (Pl.mul 131072 (Pl.add (Pl.add (Pl.add 0 (Pl.mul ax bx)) (Pl.mul ay by_)) (Pl.mul az bz))))), .int .i64 (Pl.sub ay (Pl.mul by_ (Pl.mul 131072 (Pl.add (Pl.add (Pl.add 0 (Pl.mul ax bx)) (Pl.mul ay by_)) (Pl.mul az bz))))), .int .i64 (Pl.sub az (Pl.mul bz (Pl.mul 131072 (Pl.add (Pl.add (Pl.add 0 (Pl.mul ax bx)) (Pl.mul ay by_)) (Pl.mul az bz)))))] = y := ⟨_, rfl⟩
  have hO : ∀ k, k ≠ w.heap.size + 1 + 1 → y5.heap[k]? = y4.heap[k]? := fun k hk => by rw [← hy5]; exact setRow_other _ _ _ _ hk
  rw [hy5] at hN HUx ⊢
  clear hy5
  have HU5 := Lib.hid HUx
  clear HUx
  have hr5_0 := (hO _ (by omega)).trans hr4_0
  have hr5_1 := (hO _ (by omega)).trans hr4_1
  have hr5_2 := hN
  clear hN
  refine hK.out _ _ (⟨(hO _ (by omega)).trans hS4c.1, (hO _ (by omega)).trans hS4c.2⟩) (fun hS5s => ?_)
  clear hK K
  refine wpAnyH_done (by kernel_rfl) ?_ _
  have c2_0 := cell_of_row _ _ 0 _ _ _ hr5_2
  have c2_1 := cell_of_row _ _ 1 _ _ _ hr5_2
  have c2_2 := cell_of_row _ _ 2 _ _ _ hr5_2
  simp at c2_0 c2_1 c2_2
  go_wp2
  exact bodyPost_ret (v := .agg #[.int .i64 (Pl.sub ax (Pl.mul bx (Pl.mul 131072 (Pl.add (Pl.add (Pl.add 0 (Pl.mul ax bx)) (Pl.mul ay by_)) (Pl.mul az bz))))), .int .i64 (Pl.sub ay (Pl.mul by_ (Pl.mul 131072 (Pl.add (Pl.add (Pl.add 0 (Pl.mul ax bx)) (Pl.mul ay by_)) (Pl.mul az bz))))), .int .i64 (Pl.sub az (Pl.mul bz (Pl.mul 131072 (Pl.add (Pl.add (Pl.add 0 (Pl.mul ax bx)) (Pl.mul ay by_)) (Pl.mul az bz)))))]) (by simp [results, Try.results38, go_sem, c2_0, c2_1, c2_2]) rfl ⟨rfl, HU5.out⟩

end Go.Proofs.Ytplcbdmiccpnnaa.Yr
