/- BoxTells: the walk: the law returns true, whatever two boxes and whatever point come in; nothing that was there is written. -/
import Derived.Test.YtfeihojobmagnaaBd
namespace Go.Proofs.Ytfeihojobmagnaa.boxTellsW
open Go.RowKit Go.Proofs.Ytfeihojobmagnaa Go.Proofs.Ytfeihojobmagnaa.Wa Go.Proofs.Ytfeihojobmagnaa.Ve Go.Proofs.Ytfeihojobmagnaa.Au Go.Proofs.Ytfeihojobmagnaa.Bx
set_option linter.unusedVariables false
set_option linter.unusedSimpArgs false

set_option maxHeartbeats 8000000 in
set_option maxRecDepth 100000 in
theorem walk (a0 a1 a2 a3 a4 a5 b0 b1 b2 b3 b4 b5 px py pz : Int) (w : World)  : Calls Try.prog 6 #[.agg #[.int .i64 a0, .int .i64 a1, .int .i64 a2, .int .i64 a3, .int .i64 a4, .int .i64 a5], .agg #[.int .i64 b0, .int .i64 b1, .int .i64 b2, .int .i64 b3, .int .i64 b4, .int .i64 b5], .agg #[.int .i64 px, .int .i64 py, .int .i64 pz]] w fun e' w' => e' = .returned (.bool true) ∧ Below w.heap.size w w' := by
  have heq := eq_v3
  go_enter Try.func6, Try.ntmps6
  go_upto_region 1 with fail
  have hR := Au.rows3 w (.cells #[.int .i64 a0, .int .i64 a1, .int .i64 a2, .int .i64 a3, .int .i64 a4, .int .i64 a5] 82) (.cells #[.int .i64 b0, .int .i64 b1, .int .i64 b2, .int .i64 b3, .int .i64 b4, .int .i64 b5] 82) (.cells #[.int .i64 px, .int .i64 py, .int .i64 pz] 60)
  have HUx := below_n3 w (.cells #[.int .i64 a0, .int .i64 a1, .int .i64 a2, .int .i64 a3, .int .i64 a4, .int .i64 a5] 82) (.cells #[.int .i64 b0, .int .i64 b1, .int .i64 b2, .int .i64 b3, .int .i64 b4, .int .i64 b5] 82) (.cells #[.int .i64 px, .int .i64 py, .int .i64 pz] 60)
  obtain ⟨y0, hy0⟩ : ∃ y0, ((w.alloc (.cells #[.int .i64 a0, .int .i64 a1, .int .i64 a2, .int .i64 a3, .int .i64 a4, .int .i64 a5] 82)).alloc (.cells #[.int .i64 b0, .int .i64 b1, .int .i64 b2, .int .i64 b3, .int .i64 b4, .int .i64 b5] 82)).alloc (.cells #[.int .i64 px, .int .i64 py, .int .i64 pz] 60) = y0 := ⟨_, rfl⟩
  rw [hy0] at hR HUx ⊢
  clear hy0
  have HU0 := Lib.hid HUx
  clear HUx
  obtain ⟨hr0_0, hr0_1, hr0_2⟩ := hR
  go_cut [7, 8] (fun s7 s8 wx => ∃ g h : Nat, s7 = .pointer (some ⟨g, 0, none⟩) ∧ s8 = .pointer (some ⟨h, 0, none⟩) ∧ wx.heap[g]? = some (.cells #[.int .i64 a0, .int .i64 a1, .int .i64 a2, .int .i64 a3, .int .i64 a4, .int .i64 a5] 84 (0, 0)) ∧ wx.heap[h]? = some (.cells #[.int .i64 b0, .int .i64 b1, .int .i64 b2, .int .i64 b3, .int .i64 b4, .int .i64 b5] 84 (0, 0)) ∧ wx.heap[w.heap.size]? = some (.cells #[.int .i64 a0, .int .i64 a1, .int .i64 a2, .int .i64 a3, .int .i64 a4, .int .i64 a5] 82 (0, 0)) ∧ wx.heap[w.heap.size + 1]? = some (.cells #[.int .i64 b0, .int .i64 b1, .int .i64 b2, .int .i64 b3, .int .i64 b4, .int .i64 b5] 82 (0, 0)) ∧ wx.heap[w.heap.size + 1 + 1]? = some (.cells #[.int .i64 px, .int .i64 py, .int .i64 pz] 60 (0, 0)) ∧ Hid (Below w.heap.size w wx))
  case first =>
    refine wp_region_held_drew (S := fun y => y.heap[w.heap.size]? = some (.cells #[.int .i64 a0, .int .i64 a1, .int .i64 a2, .int .i64 a3, .int .i64 a4, .int .i64 a5] 82 (0, 0)) ∧ y.heap[w.heap.size + 1]? = some (.cells #[.int .i64 b0, .int .i64 b1, .int .i64 b2, .int .i64 b3, .int .i64 b4, .int .i64 b5] 82 (0, 0)) ∧ y.heap[w.heap.size + 1 + 1]? = some (.cells #[.int .i64 px, .int .i64 py, .int .i64 pz] 60 (0, 0))) (by kernel_rfl) (⟨hr0_0, hr0_1, hr0_2⟩) (fun hS0 => ?_)
    obtain ⟨y1, hy1⟩ : ∃ y, y0.drew = y := ⟨_, rfl⟩
    have HU1 := Lib.hid (show Below w.heap.size w y1 by rw [← hy1]; exact HU0.out.drew)
    have hr1_0 : y1.heap[w.heap.size]? = some (.cells #[.int .i64 a0, .int .i64 a1, .int .i64 a2, .int .i64 a3, .int .i64 a4, .int .i64 a5] 82 (0, 0)) := by rw [← hy1]; exact hr0_0
    have hr1_1 : y1.heap[w.heap.size + 1]? = some (.cells #[.int .i64 b0, .int .i64 b1, .int .i64 b2, .int .i64 b3, .int .i64 b4, .int .i64 b5] 82 (0, 0)) := by rw [← hy1]; exact hr0_1
    have hr1_2 : y1.heap[w.heap.size + 1 + 1]? = some (.cells #[.int .i64 px, .int .i64 py, .int .i64 pz] 60 (0, 0)) := by rw [← hy1]; exact hr0_2
    rw [hy1] at hS0 ⊢
    clear hy1
    refine wpAnyH_take (i := 0) (v := ?_) rfl (by kernel_rfl) (by kernel_rfl) (by kernel_rfl) (fun _ _ _ h => h) (Or.inl ⟨by kernel_rfl, by (intro wz hSz; have c0_0 := cell_of_row _ _ 0 _ _ _ hSz.1; have c0_1 := cell_of_row _ _ 1 _ _ _ hSz.1; have c0_2 := cell_of_row _ _ 2 _ _ _ hSz.1; have c0_3 := cell_of_row _ _ 3 _ _ _ hSz.1; have c0_4 := cell_of_row _ _ 4 _ _ _ hSz.1; have c0_5 := cell_of_row _ _ 5 _ _ _ hSz.1; have c1_0 := cell_of_row _ _ 0 _ _ _ hSz.2.1; have c1_1 := cell_of_row _ _ 1 _ _ _ hSz.2.1; have c1_2 := cell_of_row _ _ 2 _ _ _ hSz.2.1; have c1_3 := cell_of_row _ _ 3 _ _ _ hSz.2.1; have c1_4 := cell_of_row _ _ 4 _ _ _ hSz.2.1; have c1_5 := cell_of_row _ _ 5 _ _ _ hSz.2.1; have c2_0 := cell_of_row _ _ 0 _ _ _ hSz.2.2; have c2_1 := cell_of_row _ _ 1 _ _ _ hSz.2.2; have c2_2 := cell_of_row _ _ 2 _ _ _ hSz.2.2; simp at c0_0 c0_1 c0_2 c0_3 c0_4 c0_5 c1_0 c1_1 c1_2 c1_3 c1_4 c1_5 c2_0 c2_1 c2_2; go_simp; try with_reducible rfl)⟩) hS0 ?_
    go_simp
    refine wpAnyH_take (i := 2) (v := ?_) rfl (by kernel_rfl) (by kernel_rfl) (by kernel_rfl) (fun _ _ _ h => h) (Or.inl ⟨by kernel_rfl, by (intro wz hSz; have c0_0 := cell_of_row _ _ 0 _ _ _ hSz.1; have c0_1 := cell_of_row _ _ 1 _ _ _ hSz.1; have c0_2 := cell_of_row _ _ 2 _ _ _ hSz.1; have c0_3 := cell_of_row _ _ 3 _ _ _ hSz.1; have c0_4 := cell_of_row _ _ 4 _ _ _ hSz.1; have c0_5 := cell_of_row _ _ 5 _ _ _ hSz.1; have c1_0 := cell_of_row _ _ 0 _ _ _ hSz.2.1; have c1_1 := cell_of_row _ _ 1 _ _ _ hSz.2.1; have c1_2 := cell_of_row _ _ 2 _ _ _ hSz.2.1; have c1_3 := cell_of_row _ _ 3 _ _ _ hSz.2.1; have c1_4 := cell_of_row _ _ 4 _ _ _ hSz.2.1; have c1_5 := cell_of_row _ _ 5 _ _ _ hSz.2.1; have c2_0 := cell_of_row _ _ 0 _ _ _ hSz.2.2; have c2_1 := cell_of_row _ _ 1 _ _ _ hSz.2.2; have c2_2 := cell_of_row _ _ 2 _ _ _ hSz.2.2; simp at c0_0 c0_1 c0_2 c0_3 c0_4 c0_5 c1_0 c1_1 c1_2 c1_3 c1_4 c1_5 c2_0 c2_1 c2_2; go_simp; try with_reducible rfl)⟩) hS0 ?_
    go_simp
    refine wpAnyH_ready (rs := [1, 4, 5]) (by kernel_rfl) (by simp) ?_
    refine AllReadyH.cons rfl (fun K hK => ?_) (AllReadyH.cons rfl (fun K hK => ?_) (AllReadyH.cons rfl (fun K hK => ?_) AllReadyH.nil))
    · skip
      go_simp
      go_wp2_with (go_at_call 26; refine (bto_any _ _ _ _ _ _ _).mono ?_; rintro e y2 ⟨rfl, hb2⟩)
      have hr2_0 := (hb2.block _ (lt_heap hr1_0)).trans hr1_0
      have hr2_1 := (hb2.block _ (lt_heap hr1_1)).trans hr1_1
      have hr2_2 := (hb2.block _ (lt_heap hr1_2)).trans hr1_2
      have HU2 := Lib.hid (HU1.out.trans (hb2.mono HU1.out.size))
      refine hK.out _ _ (⟨(hb2.block _ (lt_heap hS0.1)).trans hS0.1, (hb2.block _ (lt_heap hS0.2.1)).trans hS0.2.1, (hb2.block _ (lt_heap hS0.2.2)).trans hS0.2.2⟩) (fun hS2c => ?_)
      clear hK K
      refine wpAnyH_ready (rs := [3, 4, 5]) (by kernel_rfl) (by simp) ?_
      refine AllReadyH.cons rfl (fun K hK => ?_) (AllReadyH.cons rfl (fun K hK => ?_) (AllReadyH.cons rfl (fun K hK => ?_) AllReadyH.nil))
      · skip
        go_simp
        go_wp2_with (go_at_call 26; refine (bto_any _ _ _ _ _ _ _).mono ?_; rintro e y3 ⟨rfl, hb3⟩)
        have hr3_0 := (hb3.block _ (lt_heap hr2_0)).trans hr2_0
        have hr3_1 := (hb3.block _ (lt_heap hr2_1)).trans hr2_1
        have hr3_2 := (hb3.block _ (lt_heap hr2_2)).trans hr2_2
        have HU3 := Lib.hid (HU2.out.trans (hb3.mono HU2.out.size))
        refine hK.out _ _ (⟨(hb3.block _ (lt_heap hS2c.1)).trans hS2c.1, (hb3.block _ (lt_heap hS2c.2.1)).trans hS2c.2.1, (hb3.block _ (lt_heap hS2c.2.2)).trans hS2c.2.2⟩) (fun hS3c => ?_)
        clear hK K
        refine wpAnyH_ready (rs := [4, 5]) (by kernel_rfl) (by simp) ?_
        refine AllReadyH.cons rfl (fun K hK => ?_) (AllReadyH.cons rfl (fun K hK => ?_) AllReadyH.nil)
        · skip
          go_simp
          have hb4 := below_n1 y3 (.cells #[.int .i64 0, .int .i64 0, .int .i64 0, .int .i64 0, .int .i64 0, .int .i64 0] 84)
          have hN := heap_alloc_last y3 (.cells #[.int .i64 0, .int .i64 0, .int .i64 0, .int .i64 0, .int .i64 0, .int .i64 0] 84)
          obtain ⟨y4, hy4⟩ : ∃ y, y3.alloc (.cells #[.int .i64 0, .int .i64 0, .int .i64 0, .int .i64 0, .int .i64 0, .int .i64 0] 84) = y := ⟨_, rfl⟩
          rw [hy4] at hb4 hN ⊢
          clear hy4
          have hl4_0 := lt_heap hr3_0
          have hr4_0 := (hb4.block _ (lt_heap hr3_0)).trans hr3_0
          have hl4_1 := lt_heap hr3_1
          have hr4_1 := (hb4.block _ (lt_heap hr3_1)).trans hr3_1
          have hl4_2 := lt_heap hr3_2
          have hr4_2 := (hb4.block _ (lt_heap hr3_2)).trans hr3_2
          have hr4_3 := hN
          clear hN
          have HU4 := Lib.hid (HU3.out.trans (hb4.mono HU3.out.size))
          refine hK.out _ _ (⟨(hb4.block _ (lt_heap hS3c.1)).trans hS3c.1, (hb4.block _ (lt_heap hS3c.2.1)).trans hS3c.2.1, (hb4.block _ (lt_heap hS3c.2.2)).trans hS3c.2.2⟩) (fun hS4a => ?_)
          clear hK K
          refine wpAnyH_ready (rs := [5]) (by kernel_rfl) (by simp) ?_
          refine AllReadyH.cons rfl (fun K hK => ?_) AllReadyH.nil
          go_simp
          have hb5 := below_n1 y4 (.cells #[.int .i64 0, .int .i64 0, .int .i64 0, .int .i64 0, .int .i64 0, .int .i64 0] 84)
          have hN := heap_alloc_last y4 (.cells #[.int .i64 0, .int .i64 0, .int .i64 0, .int .i64 0, .int .i64 0, .int .i64 0] 84)
          obtain ⟨y5, hy5⟩ : ∃ y, y4.alloc (.cells #[.int .i64 0, .int .i64 0, .int .i64 0, .int .i64 0, .int .i64 0, .int .i64 0] 84) = y := ⟨_, rfl⟩
          rw [hy5] at hb5 hN ⊢
          clear hy5
          have hl5_0 := lt_heap hr4_0
          have hr5_0 := (hb5.block _ (lt_heap hr4_0)).trans hr4_0
          have hl5_1 := lt_heap hr4_1
          have hr5_1 := (hb5.block _ (lt_heap hr4_1)).trans hr4_1
          have hl5_2 := lt_heap hr4_2
          have hr5_2 := (hb5.block _ (lt_heap hr4_2)).trans hr4_2
          have hl5_3 := lt_heap hr4_3
          have hr5_3 := (hb5.block _ (lt_heap hr4_3)).trans hr4_3
          have hr5_4 := hN
          clear hN
          have HU5 := Lib.hid (HU4.out.trans (hb5.mono HU4.out.size))
          refine hK.out _ _ (⟨(hb5.block _ (lt_heap hS4a.1)).trans hS4a.1, (hb5.block _ (lt_heap hS4a.2.1)).trans hS4a.2.1, (hb5.block _ (lt_heap hS4a.2.2)).trans hS4a.2.2⟩) (fun hS5a => ?_)
          clear hK K
          refine wpAnyH_ready (rs := [6]) (by kernel_rfl) (by simp) ?_
          refine AllReadyH.cons rfl (fun K hK => ?_) AllReadyH.nil
          refine step_store_row rfl 84 (.tmp 7) (.tmp 10) rfl #[.int .i64 0, .int .i64 0, .int .i64 0, .int .i64 0, .int .i64 0, .int .i64 0] #[.int .i64 a0, .int .i64 a1, .int .i64 a2, .int .i64 a3, .int .i64 a4, .int .i64 a5] _ 84 hr5_3 rfl (by first | rfl | (go_simp; done) | (go_simp; rfl)) (by kernel_rfl) rfl (by simp [Value.oneCell']) ?_
          have hN := setRow_heap _ (y3.heap.size) _ #[.int .i64 a0, .int .i64 a1, .int .i64 a2, .int .i64 a3, .int .i64 a4, .int .i64 a5] _ _ hr5_3
          have hsz := HU5.out.size
          have HUx := below_setRow (g := y3.heap.size) HU5.out (by first | omega | (simp at *; omega)) #[.int .i64 a0, .int .i64 a1, .int .i64 a2, .int .i64 a3, .int .i64 a4, .int .i64 a5]
          obtain ⟨y6, hy6⟩ : ∃ y, y5.setRow (y3.heap.size) #[.int .i64 a0, .int .i64 a1, .int .i64 a2, .int .i64 a3, .int .i64 a4, .int .i64 a5] = y := ⟨_, rfl⟩
          have hO : ∀ k, k ≠ y3.heap.size → y6.heap[k]? = y5.heap[k]? := fun k hk => by rw [← hy6]; exact setRow_other _ _ _ _ hk
          rw [hy6] at hN HUx ⊢
          clear hy6
          have HU6 := Lib.hid HUx
          clear HUx
          have hr6_0 := (hO _ (by omega)).trans hr5_0
          have hr6_1 := (hO _ (by omega)).trans hr5_1
          have hr6_2 := (hO _ (by omega)).trans hr5_2
          have hr6_3 := hN
          have hr6_4 := (hO _ (by omega)).trans hr5_4
          clear hN
          refine hK.out _ _ (⟨(hO _ (by omega)).trans hS5a.1, (hO _ (by omega)).trans hS5a.2.1, (hO _ (by omega)).trans hS5a.2.2⟩) (fun hS6s => ?_)
          clear hK K
          refine wpAnyH_ready (rs := [7]) (by kernel_rfl) (by simp) ?_
          refine AllReadyH.cons rfl (fun K hK => ?_) AllReadyH.nil
          refine step_store_row rfl 84 (.tmp 8) (.tmp 12) rfl #[.int .i64 0, .int .i64 0, .int .i64 0, .int .i64 0, .int .i64 0, .int .i64 0] #[.int .i64 b0, .int .i64 b1, .int .i64 b2, .int .i64 b3, .int .i64 b4, .int .i64 b5] _ 84 hr6_4 rfl (by first | rfl | (go_simp; done) | (go_simp; rfl)) (by kernel_rfl) rfl (by simp [Value.oneCell']) ?_
          have hN := setRow_heap _ (y4.heap.size) _ #[.int .i64 b0, .int .i64 b1, .int .i64 b2, .int .i64 b3, .int .i64 b4, .int .i64 b5] _ _ hr6_4
          have hsz := HU6.out.size
          have HUx := below_setRow (g := y4.heap.size) HU6.out (by first | omega | (simp at *; omega)) #[.int .i64 b0, .int .i64 b1, .int .i64 b2, .int .i64 b3, .int .i64 b4, .int .i64 b5]
          obtain ⟨y7, hy7⟩ : ∃ y, y6.setRow (y4.heap.size) #[.int .i64 b0, .int .i64 b1, .int .i64 b2, .int .i64 b3, .int .i64 b4, .int .i64 b5] = y := ⟨_, rfl⟩
          have hO : ∀ k, k ≠ y4.heap.size → y7.heap[k]? = y6.heap[k]? := fun k hk => by rw [← hy7]; exact setRow_other _ _ _ _ hk
          rw [hy7] at hN HUx ⊢
          clear hy7
          have HU7 := Lib.hid HUx
          clear HUx
          have hr7_0 := (hO _ (by omega)).trans hr6_0
          have hr7_1 := (hO _ (by omega)).trans hr6_1
          have hr7_2 := (hO _ (by omega)).trans hr6_2
          have hr7_3 := (hO _ (by omega)).trans hr6_3
          have hr7_4 := hN
          clear hN
          refine hK.out _ _ (⟨(hO _ (by omega)).trans hS6s.1, (hO _ (by omega)).trans hS6s.2.1, (hO _ (by omega)).trans hS6s.2.2⟩) (fun hS7s => ?_)
          clear hK K
          refine wpAnyH_done (by kernel_rfl) ?_ _
          go_wp2_with fail
          go_meet
          exact ⟨_, _, rfl, rfl, hr7_3, hr7_4, hr7_0, hr7_1, hr7_2, HU7⟩
        · skip
          go_simp
          have hb4 := below_n1 y3 (.cells #[.int .i64 0, .int .i64 0, .int .i64 0, .int .i64 0, .int .i64 0, .int .i64 0] 84)
          have hN := heap_alloc_last y3 (.cells #[.int .i64 0, .int .i64 0, .int .i64 0, .int .i64 0, .int .i64 0, .int .i64 0] 84)
          obtain ⟨y4, hy4⟩ : ∃ y, y3.alloc (.cells #[.int .i64 0, .int .i64 0, .int .i64 0, .int .i64 0, .int .i64 0, .int .i64 0] 84) = y := ⟨_, rfl⟩
          rw [hy4] at hb4 hN ⊢
          clear hy4
          have hl4_0 := lt_heap hr3_0
          have hr4_0 := (hb4.block _ (lt_heap hr3_0)).trans hr3_0
          have hl4_1 := lt_heap hr3_1
          have hr4_1 := (hb4.block _ (lt_heap hr3_1)).trans hr3_1
          have hl4_2 := lt_heap hr3_2
          have hr4_2 := (hb4.block _ (lt_heap hr3_2)).trans hr3_2
          have hr4_3 := hN
          clear hN
          have HU4 := Lib.hid (HU3.out.trans (hb4.mono HU3.out.size))
          refine hK.out _ _ (⟨(hb4.block _ (lt_heap hS3c.1)).trans hS3c.1, (hb4.block _ (lt_heap hS3c.2.1)).trans hS3c.2.1, (hb4.block _ (lt_heap hS3c.2.2)).trans hS3c.2.2⟩) (fun hS4a => ?_)
          clear hK K
          refine wpAnyH_ready (rs := [4]) (by kernel_rfl) (by simp) ?_
          refine AllReadyH.cons rfl (fun K hK => ?_) AllReadyH.nil
          go_simp
          have hb5 := below_n1 y4 (.cells #[.int .i64 0, .int .i64 0, .int .i64 0, .int .i64 0, .int .i64 0, .int .i64 0] 84)
          have hN := heap_alloc_last y4 (.cells #[.int .i64 0, .int .i64 0, .int .i64 0, .int .i64 0, .int .i64 0, .int .i64 0] 84)
          obtain ⟨y5, hy5⟩ : ∃ y, y4.alloc (.cells #[.int .i64 0, .int .i64 0, .int .i64 0, .int .i64 0, .int .i64 0, .int .i64 0] 84) = y := ⟨_, rfl⟩
          rw [hy5] at hb5 hN ⊢
          clear hy5
          have hl5_0 := lt_heap hr4_0
          have hr5_0 := (hb5.block _ (lt_heap hr4_0)).trans hr4_0
          have hl5_1 := lt_heap hr4_1
          have hr5_1 := (hb5.block _ (lt_heap hr4_1)).trans hr4_1
          have hl5_2 := lt_heap hr4_2
          have hr5_2 := (hb5.block _ (lt_heap hr4_2)).trans hr4_2
          have hl5_3 := lt_heap hr4_3
          have hr5_3 := (hb5.block _ (lt_heap hr4_3)).trans hr4_3
          have hr5_4 := hN
          clear hN
          have HU5 := Lib.hid (HU4.out.trans (hb5.mono HU4.out.size))
          refine hK.out _ _ (⟨(hb5.block _ (lt_heap hS4a.1)).trans hS4a.1, (hb5.block _ (lt_heap hS4a.2.1)).trans hS4a.2.1, (hb5.block _ (lt_heap hS4a.2.2)).trans hS4a.2.2⟩) (fun hS5a => ?_)
          clear hK K
          refine wpAnyH_ready (rs := [6]) (by kernel_rfl) (by simp) ?_
          refine AllReadyH.cons rfl (fun K hK => ?_) AllReadyH.nil
          refine step_store_row rfl 84 (.tmp 7) (.tmp 10) rfl #[.int .i64 0, .int .i64 0, .int .i64 0, .int .i64 0, .int .i64 0, .int .i64 0] #[.int .i64 a0, .int .i64 a1, .int .i64 a2, .int .i64 a3, .int .i64 a4, .int .i64 a5] _ 84 hr5_4 rfl (by first | rfl | (go_simp; done) | (go_simp; rfl)) (by kernel_rfl) rfl (by simp [Value.oneCell']) ?_
          have hN := setRow_heap _ (y4.heap.size) _ #[.int .i64 a0, .int .i64 a1, .int .i64 a2, .int .i64 a3, .int .i64 a4, .int .i64 a5] _ _ hr5_4
          have hsz := HU5.out.size
          have HUx := below_setRow (g := y4.heap.size) HU5.out (by first | omega | (simp at *; omega)) #[.int .i64 a0, .int .i64 a1, .int .i64 a2, .int .i64 a3, .int .i64 a4, .int .i64 a5]
          obtain ⟨y6, hy6⟩ : ∃ y, y5.setRow (y4.heap.size) #[.int .i64 a0, .int .i64 a1, .int .i64 a2, .int .i64 a3, .int .i64 a4, .int .i64 a5] = y := ⟨_, rfl⟩
          have hO : ∀ k, k ≠ y4.heap.size → y6.heap[k]? = y5.heap[k]? := fun k hk => by rw [← hy6]; exact setRow_other _ _ _ _ hk
          rw [hy6] at hN HUx ⊢
          clear hy6
          have HU6 := Lib.hid HUx
          clear HUx
          have hr6_0 := (hO _ (by omega)).trans hr5_0
          have hr6_1 := (hO _ (by omega)).trans hr5_1
          have hr6_2 := (hO _ (by omega)).trans hr5_2
          have hr6_3 := (hO _ (by omega)).trans hr5_3
          have hr6_4 := hN
          clear hN
          refine hK.out _ _ (⟨(hO _ (by omega)).trans hS5a.1, (hO _ (by omega)).trans hS5a.2.1, (hO _ (by omega)).trans hS5a.2.2⟩) (fun hS6s => ?_)
          clear hK K
          refine wpAnyH_ready (rs := [7]) (by kernel_rfl) (by simp) ?_
          refine AllReadyH.cons rfl (fun K hK => ?_) AllReadyH.nil
          refine step_store_row rfl 84 (.tmp 8) (.tmp 12) rfl #[.int .i64 0, .int .i64 0, .int .i64 0, .int .i64 0, .int .i64 0, .int .i64 0] #[.int .i64 b0, .int .i64 b1, .int .i64 b2, .int .i64 b3, .int .i64 b4, .int .i64 b5] _ 84 hr6_3 rfl (by first | rfl | (go_simp; done) | (go_simp; rfl)) (by kernel_rfl) rfl (by simp [Value.oneCell']) ?_
          have hN := setRow_heap _ (y3.heap.size) _ #[.int .i64 b0, .int .i64 b1, .int .i64 b2, .int .i64 b3, .int .i64 b4, .int .i64 b5] _ _ hr6_3
          have hsz := HU6.out.size
          have HUx := below_setRow (g := y3.heap.size) HU6.out (by first | omega | (simp at *; omega)) #[.int .i64 b0, .int .i64 b1, .int .i64 b2, .int .i64 b3, .int .i64 b4, .int .i64 b5]
          obtain ⟨y7, hy7⟩ : ∃ y, y6.setRow (y3.heap.size) #[.int .i64 b0, .int .i64 b1, .int .i64 b2, .int .i64 b3, .int .i64 b4, .int .i64 b5] = y := ⟨_, rfl⟩
          have hO : ∀ k, k ≠ y3.heap.size → y7.heap[k]? = y6.heap[k]? := fun k hk => by rw [← hy7]; exact setRow_other _ _ _ _ hk
          rw [hy7] at hN HUx ⊢
          clear hy7
          have HU7 := Lib.hid HUx
          clear HUx
          have hr7_0 := (hO _ (by omega)).trans hr6_0
          have hr7_1 := (hO _ (by omega)).trans hr6_1
          have hr7_2 := (hO _ (by omega)).trans hr6_2
          have hr7_3 := hN
          have hr7_4 := (hO _ (by omega)).trans hr6_4
          clear hN
          refine hK.out _ _ (⟨(hO _ (by omega)).trans hS6s.1, (hO _ (by omega)).trans hS6s.2.1, (hO _ (by omega)).trans hS6s.2.2⟩) (fun hS7s => ?_)
          clear hK K
          refine wpAnyH_done (by kernel_rfl) ?_ _
          go_wp2_with fail
          go_meet
          exact ⟨_, _, rfl, rfl, hr7_4, hr7_3, hr7_0, hr7_1, hr7_2, HU7⟩
      · skip
        go_simp
        have hb3 := below_n1 y2 (.cells #[.int .i64 0, .int .i64 0, .int .i64 0, .int .i64 0, .int .i64 0, .int .i64 0] 84)
        have hN := heap_alloc_last y2 (.cells #[.int .i64 0, .int .i64 0, .int .i64 0, .int .i64 0, .int .i64 0, .int .i64 0] 84)
        obtain ⟨y3, hy3⟩ : ∃ y, y2.alloc (.cells #[.int .i64 0, .int .i64 0, .int .i64 0, .int .i64 0, .int .i64 0, .int .i64 0] 84) = y := ⟨_, rfl⟩
        rw [hy3] at hb3 hN ⊢
        clear hy3
        have hl3_0 := lt_heap hr2_0
        have hr3_0 := (hb3.block _ (lt_heap hr2_0)).trans hr2_0
        have hl3_1 := lt_heap hr2_1
        have hr3_1 := (hb3.block _ (lt_heap hr2_1)).trans hr2_1
        have hl3_2 := lt_heap hr2_2
        have hr3_2 := (hb3.block _ (lt_heap hr2_2)).trans hr2_2
        have hr3_3 := hN
        clear hN
        have HU3 := Lib.hid (HU2.out.trans (hb3.mono HU2.out.size))
        refine hK.out _ _ (⟨(hb3.block _ (lt_heap hS2c.1)).trans hS2c.1, (hb3.block _ (lt_heap hS2c.2.1)).trans hS2c.2.1, (hb3.block _ (lt_heap hS2c.2.2)).trans hS2c.2.2⟩) (fun hS3a => ?_)
        clear hK K
        refine wpAnyH_ready (rs := [3, 5]) (by kernel_rfl) (by simp) ?_
        refine AllReadyH.cons rfl (fun K hK => ?_) (AllReadyH.cons rfl (fun K hK => ?_) AllReadyH.nil)
        · skip
          go_simp
          go_wp2_with (go_at_call 26; refine (bto_any _ _ _ _ _ _ _).mono ?_; rintro e y4 ⟨rfl, hb4⟩)
          have hr4_0 := (hb4.block _ (lt_heap hr3_0)).trans hr3_0
          have hr4_1 := (hb4.block _ (lt_heap hr3_1)).trans hr3_1
          have hr4_2 := (hb4.block _ (lt_heap hr3_2)).trans hr3_2
          have hr4_3 := (hb4.block _ (lt_heap hr3_3)).trans hr3_3
          have HU4 := Lib.hid (HU3.out.trans (hb4.mono HU3.out.size))
          refine hK.out _ _ (⟨(hb4.block _ (lt_heap hS3a.1)).trans hS3a.1, (hb4.block _ (lt_heap hS3a.2.1)).trans hS3a.2.1, (hb4.block _ (lt_heap hS3a.2.2)).trans hS3a.2.2⟩) (fun hS4c => ?_)
          clear hK K
          refine wpAnyH_ready (rs := [5]) (by kernel_rfl) (by simp) ?_
          refine AllReadyH.cons rfl (fun K hK => ?_) AllReadyH.nil
          go_simp
          have hb5 := below_n1 y4 (.cells #[.int .i64 0, .int .i64 0, .int .i64 0, .int .i64 0, .int .i64 0, .int .i64 0] 84)
          have hN := heap_alloc_last y4 (.cells #[.int .i64 0, .int .i64 0, .int .i64 0, .int .i64 0, .int .i64 0, .int .i64 0] 84)
          obtain ⟨y5, hy5⟩ : ∃ y, y4.alloc (.cells #[.int .i64 0, .int .i64 0, .int .i64 0, .int .i64 0, .int .i64 0, .int .i64 0] 84) = y := ⟨_, rfl⟩
          rw [hy5] at hb5 hN ⊢
          clear hy5
          have hl5_0 := lt_heap hr4_0
          have hr5_0 := (hb5.block _ (lt_heap hr4_0)).trans hr4_0
          have hl5_1 := lt_heap hr4_1
          have hr5_1 := (hb5.block _ (lt_heap hr4_1)).trans hr4_1
          have hl5_2 := lt_heap hr4_2
          have hr5_2 := (hb5.block _ (lt_heap hr4_2)).trans hr4_2
          have hl5_3 := lt_heap hr4_3
          have hr5_3 := (hb5.block _ (lt_heap hr4_3)).trans hr4_3
          have hr5_4 := hN
          clear hN
          have HU5 := Lib.hid (HU4.out.trans (hb5.mono HU4.out.size))
          refine hK.out _ _ (⟨(hb5.block _ (lt_heap hS4c.1)).trans hS4c.1, (hb5.block _ (lt_heap hS4c.2.1)).trans hS4c.2.1, (hb5.block _ (lt_heap hS4c.2.2)).trans hS4c.2.2⟩) (fun hS5a => ?_)
          clear hK K
          refine wpAnyH_ready (rs := [6]) (by kernel_rfl) (by simp) ?_
          refine AllReadyH.cons rfl (fun K hK => ?_) AllReadyH.nil
          refine step_store_row rfl 84 (.tmp 7) (.tmp 10) rfl #[.int .i64 0, .int .i64 0, .int .i64 0, .int .i64 0, .int .i64 0, .int .i64 0] #[.int .i64 a0, .int .i64 a1, .int .i64 a2, .int .i64 a3, .int .i64 a4, .int .i64 a5] _ 84 hr5_3 rfl (by first | rfl | (go_simp; done) | (go_simp; rfl)) (by kernel_rfl) rfl (by simp [Value.oneCell']) ?_
          have hN := setRow_heap _ (y2.heap.size) _ #[.int .i64 a0, .int .i64 a1, .int .i64 a2, .int .i64 a3, .int .i64 a4, .int .i64 a5] _ _ hr5_3
          have hsz := HU5.out.size
          have HUx := below_setRow (g := y2.heap.size) HU5.out (by first | omega | (simp at *; omega)) #[.int .i64 a0, .int .i64 a1, .int .i64 a2, .int .i64 a3, .int .i64 a4, .int .i64 a5]
          obtain ⟨y6, hy6⟩ : ∃ y, y5.setRow (y2.heap.size) #[.int .i64 a0, .int .i64 a1, .int .i64 a2, .int .i64 a3, .int .i64 a4, .int .i64 a5] = y := ⟨_, rfl⟩
          have hO : ∀ k, k ≠ y2.heap.size → y6.heap[k]? = y5.heap[k]? := fun k hk => by rw [← hy6]; exact setRow_other _ _ _ _ hk
          rw [hy6] at hN HUx ⊢
          clear hy6
          have HU6 := Lib.hid HUx
          clear HUx
          have hr6_0 := (hO _ (by omega)).trans hr5_0
          have hr6_1 := (hO _ (by omega)).trans hr5_1
          have hr6_2 := (hO _ (by omega)).trans hr5_2
          have hr6_3 := hN
          have hr6_4 := (hO _ (by omega)).trans hr5_4
          clear hN
          refine hK.out _ _ (⟨(hO _ (by omega)).trans hS5a.1, (hO _ (by omega)).trans hS5a.2.1, (hO _ (by omega)).trans hS5a.2.2⟩) (fun hS6s => ?_)
          clear hK K
          refine wpAnyH_ready (rs := [7]) (by kernel_rfl) (by simp) ?_
          refine AllReadyH.cons rfl (fun K hK => ?_) AllReadyH.nil
          refine step_store_row rfl 84 (.tmp 8) (.tmp 12) rfl #[.int .i64 0, .int .i64 0, .int .i64 0, .int .i64 0, .int .i64 0, .int .i64 0] #[.int .i64 b0, .int .i64 b1, .int .i64 b2, .int .i64 b3, .int .i64 b4, .int .i64 b5] _ 84 hr6_4 rfl (by first | rfl | (go_simp; done) | (go_simp; rfl)) (by kernel_rfl) rfl (by simp [Value.oneCell']) ?_
          have hN := setRow_heap _ (y4.heap.size) _ #[.int .i64 b0, .int .i64 b1, .int .i64 b2, .int .i64 b3, .int .i64 b4, .int .i64 b5] _ _ hr6_4
          have hsz := HU6.out.size
          have HUx := below_setRow (g := y4.heap.size) HU6.out (by first | omega | (simp at *; omega)) #[.int .i64 b0, .int .i64 b1, .int .i64 b2, .int .i64 b3, .int .i64 b4, .int .i64 b5]
          obtain ⟨y7, hy7⟩ : ∃ y, y6.setRow (y4.heap.size) #[.int .i64 b0, .int .i64 b1, .int .i64 b2, .int .i64 b3, .int .i64 b4, .int .i64 b5] = y := ⟨_, rfl⟩
          have hO : ∀ k, k ≠ y4.heap.size → y7.heap[k]? = y6.heap[k]? := fun k hk => by rw [← hy7]; exact setRow_other _ _ _ _ hk
          rw [hy7] at hN HUx ⊢
          clear hy7
          have HU7 := Lib.hid HUx
          clear HUx
          have hr7_0 := (hO _ (by omega)).trans hr6_0
          have hr7_1 := (hO _ (by omega)).trans hr6_1
          have hr7_2 := (hO _ (by omega)).trans hr6_2
          have hr7_3 := (hO _ (by omega)).trans hr6_3
          have hr7_4 := hN
          clear hN
          refine hK.out _ _ (⟨(hO _ (by omega)).trans hS6s.1, (hO _ (by omega)).trans hS6s.2.1, (hO _ (by omega)).trans hS6s.2.2⟩) (fun hS7s => ?_)
          clear hK K
          refine wpAnyH_done (by kernel_rfl) ?_ _
          go_wp2_with fail
          go_meet
          exact ⟨_, _, rfl, rfl, hr7_3, hr7_4, hr7_0, hr7_1, hr7_2, HU7⟩
        · skip
          go_simp
          have hb4 := below_n1 y3 (.cells #[.int .i64 0, .int .i64 0, .int .i64 0, .int .i64 0, .int .i64 0, .int .i64 0] 84)
          have hN := heap_alloc_last y3 (.cells #[.int .i64 0, .int .i64 0, .int .i64 0, .int .i64 0, .int .i64 0, .int .i64 0] 84)
          obtain ⟨y4, hy4⟩ : ∃ y, y3.alloc (.cells #[.int .i64 0, .int .i64 0, .int .i64 0, .int .i64 0, .int .i64 0, .int .i64 0] 84) = y := ⟨_, rfl⟩
          rw [hy4] at hb4 hN ⊢
          clear hy4
          have hl4_0 := lt_heap hr3_0
          have hr4_0 := (hb4.block _ (lt_heap hr3_0)).trans hr3_0
          have hl4_1 := lt_heap hr3_1
          have hr4_1 := (hb4.block _ (lt_heap hr3_1)).trans hr3_1
          have hl4_2 := lt_heap hr3_2
          have hr4_2 := (hb4.block _ (lt_heap hr3_2)).trans hr3_2
          have hl4_3 := lt_heap hr3_3
          have hr4_3 := (hb4.block _ (lt_heap hr3_3)).trans hr3_3
          have hr4_4 := hN
          clear hN
          have HU4 := Lib.hid (HU3.out.trans (hb4.mono HU3.out.size))
          refine hK.out _ _ (⟨(hb4.block _ (lt_heap hS3a.1)).trans hS3a.1, (hb4.block _ (lt_heap hS3a.2.1)).trans hS3a.2.1, (hb4.block _ (lt_heap hS3a.2.2)).trans hS3a.2.2⟩) (fun hS4a => ?_)
          clear hK K
          refine wpAnyH_ready (rs := [3]) (by kernel_rfl) (by simp) ?_
          refine AllReadyH.cons rfl (fun K hK => ?_) AllReadyH.nil
          go_simp
          go_wp2_with (go_at_call 26; refine (bto_any _ _ _ _ _ _ _).mono ?_; rintro e y5 ⟨rfl, hb5⟩)
          have hr5_0 := (hb5.block _ (lt_heap hr4_0)).trans hr4_0
          have hr5_1 := (hb5.block _ (lt_heap hr4_1)).trans hr4_1
          have hr5_2 := (hb5.block _ (lt_heap hr4_2)).trans hr4_2
          have hr5_3 := (hb5.block _ (lt_heap hr4_3)).trans hr4_3
          have hr5_4 := (hb5.block _ (lt_heap hr4_4)).trans hr4_4
          have HU5 := Lib.hid (HU4.out.trans (hb5.mono HU4.out.size))
          refine hK.out _ _ (⟨(hb5.block _ (lt_heap hS4a.1)).trans hS4a.1, (hb5.block _ (lt_heap hS4a.2.1)).trans hS4a.2.1, (hb5.block _ (lt_heap hS4a.2.2)).trans hS4a.2.2⟩) (fun hS5c => ?_)
          clear hK K
          refine wpAnyH_ready (rs := [6]) (by kernel_rfl) (by simp) ?_
          refine AllReadyH.cons rfl (fun K hK => ?_) AllReadyH.nil
          refine step_store_row rfl 84 (.tmp 7) (.tmp 10) rfl #[.int .i64 0, .int .i64 0, .int .i64 0, .int .i64 0, .int .i64 0, .int .i64 0] #[.int .i64 a0, .int .i64 a1, .int .i64 a2, .int .i64 a3, .int .i64 a4, .int .i64 a5] _ 84 hr5_3 rfl (by first | rfl | (go_simp; done) | (go_simp; rfl)) (by kernel_rfl) rfl (by simp [Value.oneCell']) ?_
          have hN := setRow_heap _ (y2.heap.size) _ #[.int .i64 a0, .int .i64 a1, .int .i64 a2, .int .i64 a3, .int .i64 a4, .int .i64 a5] _ _ hr5_3
          have hsz := HU5.out.size
          have HUx := below_setRow (g := y2.heap.size) HU5.out (by first | omega | (simp at *; omega)) #[.int .i64 a0, .int .i64 a1, .int .i64 a2, .int .i64 a3, .int .i64 a4, .int .i64 a5]
          obtain ⟨y6, hy6⟩ : ∃ y, y5.setRow (y2.heap.size) #[.int .i64 a0, .int .i64 a1, .int .i64 a2, .int .i64 a3, .int .i64 a4, .int .i64 a5] = y := ⟨_, rfl⟩
          have hO : ∀ k, k ≠ y2.heap.size → y6.heap[k]? = y5.heap[k]? := fun k hk => by rw [← hy6]; exact setRow_other _ _ _ _ hk
          rw [hy6] at hN HUx ⊢
          clear hy6
          have HU6 := Lib.hid HUx
          clear HUx
          have hr6_0 := (hO _ (by omega)).trans hr5_0
          have hr6_1 := (hO _ (by omega)).trans hr5_1
          have hr6_2 := (hO _ (by omega)).trans hr5_2
          have hr6_3 := hN
          have hr6_4 := (hO _ (by omega)).trans hr5_4
          clear hN
          refine hK.out _ _ (⟨(hO _ (by omega)).trans hS5c.1, (hO _ (by omega)).trans hS5c.2.1, (hO _ (by omega)).trans hS5c.2.2⟩) (fun hS6s => ?_)
          clear hK K
          refine wpAnyH_ready (rs := [7]) (by kernel_rfl) (by simp) ?_
          refine AllReadyH.cons rfl (fun K hK => ?_) AllReadyH.nil
          refine step_store_row rfl 84 (.tmp 8) (.tmp 12) rfl #[.int .i64 0, .int .i64 0, .int .i64 0, .int .i64 0, .int .i64 0, .int .i64 0] #[.int .i64 b0, .int .i64 b1, .int .i64 b2, .int .i64 b3, .int .i64 b4, .int .i64 b5] _ 84 hr6_4 rfl (by first | rfl | (go_simp; done) | (go_simp; rfl)) (by kernel_rfl) rfl (by simp [Value.oneCell']) ?_
          have hN := setRow_heap _ (y3.heap.size) _ #[.int .i64 b0, .int .i64 b1, .int .i64 b2, .int .i64 b3, .int .i64 b4, .int .i64 b5] _ _ hr6_4
          have hsz := HU6.out.size
          have HUx := below_setRow (g := y3.heap.size) HU6.out (by first | omega | (simp at *; omega)) #[.int .i64 b0, .int .i64 b1, .int .i64 b2, .int .i64 b3, .int .i64 b4, .int .i64 b5]
          obtain ⟨y7, hy7⟩ : ∃ y, y6.setRow (y3.heap.size) #[.int .i64 b0, .int .i64 b1, .int .i64 b2, .int .i64 b3, .int .i64 b4, .int .i64 b5] = y := ⟨_, rfl⟩
          have hO : ∀ k, k ≠ y3.heap.size → y7.heap[k]? = y6.heap[k]? := fun k hk => by rw [← hy7]; exact setRow_other _ _ _ _ hk
          rw [hy7] at hN HUx ⊢
          clear hy7
          have HU7 := Lib.hid HUx
          clear HUx
          have hr7_0 := (hO _ (by omega)).trans hr6_0
          have hr7_1 := (hO _ (by omega)).trans hr6_1
          have hr7_2 := (hO _ (by omega)).trans hr6_2
          have hr7_3 := (hO _ (by omega)).trans hr6_3
          have hr7_4 := hN
          clear hN
          refine hK.out _ _ (⟨(hO _ (by omega)).trans hS6s.1, (hO _ (by omega)).trans hS6s.2.1, (hO _ (by omega)).trans hS6s.2.2⟩) (fun hS7s => ?_)
          clear hK K
          refine wpAnyH_done (by kernel_rfl) ?_ _
          go_wp2_with fail
          go_meet
          exact ⟨_, _, rfl, rfl, hr7_3, hr7_4, hr7_0, hr7_1, hr7_2, HU7⟩
      · skip
        go_simp
        have hb3 := below_n1 y2 (.cells #[.int .i64 0, .int .i64 0, .int .i64 0, .int .i64 0, .int .i64 0, .int .i64 0] 84)
        have hN := heap_alloc_last y2 (.cells #[.int .i64 0, .int .i64 0, .int .i64 0, .int .i64 0, .int .i64 0, .int .i64 0] 84)
        obtain ⟨y3, hy3⟩ : ∃ y, y2.alloc (.cells #[.int .i64 0, .int .i64 0, .int .i64 0, .int .i64 0, .int .i64 0, .int .i64 0] 84) = y := ⟨_, rfl⟩
        rw [hy3] at hb3 hN ⊢
        clear hy3
        have hl3_0 := lt_heap hr2_0
        have hr3_0 := (hb3.block _ (lt_heap hr2_0)).trans hr2_0
        have hl3_1 := lt_heap hr2_1
        have hr3_1 := (hb3.block _ (lt_heap hr2_1)).trans hr2_1
        have hl3_2 := lt_heap hr2_2
        have hr3_2 := (hb3.block _ (lt_heap hr2_2)).trans hr2_2
        have hr3_3 := hN
        clear hN
        have HU3 := Lib.hid (HU2.out.trans (hb3.mono HU2.out.size))
        refine hK.out _ _ (⟨(hb3.block _ (lt_heap hS2c.1)).trans hS2c.1, (hb3.block _ (lt_heap hS2c.2.1)).trans hS2c.2.1, (hb3.block _ (lt_heap hS2c.2.2)).trans hS2c.2.2⟩) (fun hS3a => ?_)
        clear hK K
        refine wpAnyH_ready (rs := [3, 4]) (by kernel_rfl) (by simp) ?_
        refine AllReadyH.cons rfl (fun K hK => ?_) (AllReadyH.cons rfl (fun K hK => ?_) AllReadyH.nil)
        · skip
          go_simp
          go_wp2_with (go_at_call 26; refine (bto_any _ _ _ _ _ _ _).mono ?_; rintro e y4 ⟨rfl, hb4⟩)
          have hr4_0 := (hb4.block _ (lt_heap hr3_0)).trans hr3_0
          have hr4_1 := (hb4.block _ (lt_heap hr3_1)).trans hr3_1
          have hr4_2 := (hb4.block _ (lt_heap hr3_2)).trans hr3_2
          have hr4_3 := (hb4.block _ (lt_heap hr3_3)).trans hr3_3
          have HU4 := Lib.hid (HU3.out.trans (hb4.mono HU3.out.size))
          refine hK.out _ _ (⟨(hb4.block _ (lt_heap hS3a.1)).trans hS3a.1, (hb4.block _ (lt_heap hS3a.2.1)).trans hS3a.2.1, (hb4.block _ (lt_heap hS3a.2.2)).trans hS3a.2.2⟩) (fun hS4c => ?_)
          clear hK K
          refine wpAnyH_ready (rs := [4]) (by kernel_rfl) (by simp) ?_
          refine AllReadyH.cons rfl (fun K hK => ?_) AllReadyH.nil
          go_simp
          have hb5 := below_n1 y4 (.cells #[.int .i64 0, .int .i64 0, .int .i64 0, .int .i64 0, .int .i64 0, .int .i64 0] 84)
          have hN := heap_alloc_last y4 (.cells #[.int .i64 0, .int .i64 0, .int .i64 0, .int .i64 0, .int .i64 0, .int .i64 0] 84)
          obtain ⟨y5, hy5⟩ : ∃ y, y4.alloc (.cells #[.int .i64 0, .int .i64 0, .int .i64 0, .int .i64 0, .int .i64 0, .int .i64 0] 84) = y := ⟨_, rfl⟩
          rw [hy5] at hb5 hN ⊢
          clear hy5
          have hl5_0 := lt_heap hr4_0
          have hr5_0 := (hb5.block _ (lt_heap hr4_0)).trans hr4_0
          have hl5_1 := lt_heap hr4_1
          have hr5_1 := (hb5.block _ (lt_heap hr4_1)).trans hr4_1
          have hl5_2 := lt_heap hr4_2
          have hr5_2 := (hb5.block _ (lt_heap hr4_2)).trans hr4_2
          have hl5_3 := lt_heap hr4_3
          have hr5_3 := (hb5.block _ (lt_heap hr4_3)).trans hr4_3
          have hr5_4 := hN
          clear hN
          have HU5 := Lib.hid (HU4.out.trans (hb5.mono HU4.out.size))
          refine hK.out _ _ (⟨(hb5.block _ (lt_heap hS4c.1)).trans hS4c.1, (hb5.block _ (lt_heap hS4c.2.1)).trans hS4c.2.1, (hb5.block _ (lt_heap hS4c.2.2)).trans hS4c.2.2⟩) (fun hS5a => ?_)
          clear hK K
          refine wpAnyH_ready (rs := [6]) (by kernel_rfl) (by simp) ?_
          refine AllReadyH.cons rfl (fun K hK => ?_) AllReadyH.nil
          refine step_store_row rfl 84 (.tmp 7) (.tmp 10) rfl #[.int .i64 0, .int .i64 0, .int .i64 0, .int .i64 0, .int .i64 0, .int .i64 0] #[.int .i64 a0, .int .i64 a1, .int .i64 a2, .int .i64 a3, .int .i64 a4, .int .i64 a5] _ 84 hr5_4 rfl (by first | rfl | (go_simp; done) | (go_simp; rfl)) (by kernel_rfl) rfl (by simp [Value.oneCell']) ?_
          have hN := setRow_heap _ (y4.heap.size) _ #[.int .i64 a0, .int .i64 a1, .int .i64 a2, .int .i64 a3, .int .i64 a4, .int .i64 a5] _ _ hr5_4
          have hsz := HU5.out.size
          have HUx := below_setRow (g := y4.heap.size) HU5.out (by first | omega | (simp at *; omega)) #[.int .i64 a0, .int .i64 a1, .int .i64 a2, .int .i64 a3, .int .i64 a4, .int .i64 a5]
          obtain ⟨y6, hy6⟩ : ∃ y, y5.setRow (y4.heap.size) #[.int .i64 a0, .int .i64 a1, .int .i64 a2, .int .i64 a3, .int .i64 a4, .int .i64 a5] = y := ⟨_, rfl⟩
          have hO : ∀ k, k ≠ y4.heap.size → y6.heap[k]? = y5.heap[k]? := fun k hk => by rw [← hy6]; exact setRow_other _ _ _ _ hk
          rw [hy6] at hN HUx ⊢
          clear hy6
          have HU6 := Lib.hid HUx
          clear HUx
          have hr6_0 := (hO _ (by omega)).trans hr5_0
          have hr6_1 := (hO _ (by omega)).trans hr5_1
          have hr6_2 := (hO _ (by omega)).trans hr5_2
          have hr6_3 := (hO _ (by omega)).trans hr5_3
          have hr6_4 := hN
          clear hN
          refine hK.out _ _ (⟨(hO _ (by omega)).trans hS5a.1, (hO _ (by omega)).trans hS5a.2.1, (hO _ (by omega)).trans hS5a.2.2⟩) (fun hS6s => ?_)
          clear hK K
          refine wpAnyH_ready (rs := [7]) (by kernel_rfl) (by simp) ?_
          refine AllReadyH.cons rfl (fun K hK => ?_) AllReadyH.nil
          refine step_store_row rfl 84 (.tmp 8) (.tmp 12) rfl #[.int .i64 0, .int .i64 0, .int .i64 0, .int .i64 0, .int .i64 0, .int .i64 0] #[.int .i64 b0, .int .i64 b1, .int .i64 b2, .int .i64 b3, .int .i64 b4, .int .i64 b5] _ 84 hr6_3 rfl (by first | rfl | (go_simp; done) | (go_simp; rfl)) (by kernel_rfl) rfl (by simp [Value.oneCell']) ?_
          have hN := setRow_heap _ (y2.heap.size) _ #[.int .i64 b0, .int .i64 b1, .int .i64 b2, .int .i64 b3, .int .i64 b4, .int .i64 b5] _ _ hr6_3
          have hsz := HU6.out.size
          have HUx := below_setRow (g := y2.heap.size) HU6.out (by first | omega | (simp at *; omega)) #[.int .i64 b0, .int .i64 b1, .int .i64 b2, .int .i64 b3, .int .i64 b4, .int .i64 b5]
          obtain ⟨y7, hy7⟩ : ∃ y, y6.setRow (y2.heap.size) #[.int .i64 b0, .int .i64 b1, .int .i64 b2, .int .i64 b3, .int .i64 b4, .int .i64 b5] = y := ⟨_, rfl⟩
          have hO : ∀ k, k ≠ y2.heap.size → y7.heap[k]? = y6.heap[k]? := fun k hk => by rw [← hy7]; exact setRow_other _ _ _ _ hk
          rw [hy7] at hN HUx ⊢
          clear hy7
          have HU7 := Lib.hid HUx
          clear HUx
          have hr7_0 := (hO _ (by omega)).trans hr6_0
          have hr7_1 := (hO _ (by omega)).trans hr6_1
          have hr7_2 := (hO _ (by omega)).trans hr6_2
          have hr7_3 := hN
          have hr7_4 := (hO _ (by omega)).trans hr6_4
          clear hN
          refine hK.out _ _ (⟨(hO _ (by omega)).trans hS6s.1, (hO _ (by omega)).trans hS6s.2.1, (hO _ (by omega)).trans hS6s.2.2⟩) (fun hS7s => ?_)
          clear hK K
          refine wpAnyH_done (by kernel_rfl) ?_ _
          go_wp2_with fail
          go_meet
          exact ⟨_, _, rfl, rfl, hr7_4, hr7_3, hr7_0, hr7_1, hr7_2, HU7⟩
        · skip
          go_simp
          have hb4 := below_n1 y3 (.cells #[.int .i64 0, .int .i64 0, .int .i64 0, .int .i64 0, .int .i64 0, .int .i64 0] 84)
          have hN := heap_alloc_last y3 (.cells #[.int .i64 0, .int .i64 0, .int .i64 0, .int .i64 0, .int .i64 0, .int .i64 0] 84)
          obtain ⟨y4, hy4⟩ : ∃ y, y3.alloc (.cells #[.int .i64 0, .int .i64 0, .int .i64 0, .int .i64 0, .int .i64 0, .int .i64 0] 84) = y := ⟨_, rfl⟩
          rw [hy4] at hb4 hN ⊢
          clear hy4
          have hl4_0 := lt_heap hr3_0
          have hr4_0 := (hb4.block _ (lt_heap hr3_0)).trans hr3_0
          have hl4_1 := lt_heap hr3_1
          have hr4_1 := (hb4.block _ (lt_heap hr3_1)).trans hr3_1
          have hl4_2 := lt_heap hr3_2
          have hr4_2 := (hb4.block _ (lt_heap hr3_2)).trans hr3_2
          have hl4_3 := lt_heap hr3_3
          have hr4_3 := (hb4.block _ (lt_heap hr3_3)).trans hr3_3
          have hr4_4 := hN
          clear hN
          have HU4 := Lib.hid (HU3.out.trans (hb4.mono HU3.out.size))
          refine hK.out _ _ (⟨(hb4.block _ (lt_heap hS3a.1)).trans hS3a.1, (hb4.block _ (lt_heap hS3a.2.1)).trans hS3a.2.1, (hb4.block _ (lt_heap hS3a.2.2)).trans hS3a.2.2⟩) (fun hS4a => ?_)
          clear hK K
          refine wpAnyH_ready (rs := [3]) (by kernel_rfl) (by simp) ?_
          refine AllReadyH.cons rfl (fun K hK => ?_) AllReadyH.nil
          go_simp
          go_wp2_with (go_at_call 26; refine (bto_any _ _ _ _ _ _ _).mono ?_; rintro e y5 ⟨rfl, hb5⟩)
          have hr5_0 := (hb5.block _ (lt_heap hr4_0)).trans hr4_0
          have hr5_1 := (hb5.block _ (lt_heap hr4_1)).trans hr4_1
          have hr5_2 := (hb5.block _ (lt_heap hr4_2)).trans hr4_2
          have hr5_3 := (hb5.block _ (lt_heap hr4_3)).trans hr4_3
          have hr5_4 := (hb5.block _ (lt_heap hr4_4)).trans hr4_4
          have HU5 := Lib.hid (HU4.out.trans (hb5.mono HU4.out.size))
          refine hK.out _ _ (⟨(hb5.block _ (lt_heap hS4a.1)).trans hS4a.1, (hb5.block _ (lt_heap hS4a.2.1)).trans hS4a.2.1, (hb5.block _ (lt_heap hS4a.2.2)).trans hS4a.2.2⟩) (fun hS5c => ?_)
          clear hK K
          refine wpAnyH_ready (rs := [6]) (by kernel_rfl) (by simp) ?_
          refine AllReadyH.cons rfl (fun K hK => ?_) AllReadyH.nil
          refine step_store_row rfl 84 (.tmp 7) (.tmp 10) rfl #[.int .i64 0, .int .i64 0, .int .i64 0, .int .i64 0, .int .i64 0, .int .i64 0] #[.int .i64 a0, .int .i64 a1, .int .i64 a2, .int .i64 a3, .int .i64 a4, .int .i64 a5] _ 84 hr5_4 rfl (by first | rfl | (go_simp; done) | (go_simp; rfl)) (by kernel_rfl) rfl (by simp [Value.oneCell']) ?_
          have hN := setRow_heap _ (y3.heap.size) _ #[.int .i64 a0, .int .i64 a1, .int .i64 a2, .int .i64 a3, .int .i64 a4, .int .i64 a5] _ _ hr5_4
          have hsz := HU5.out.size
          have HUx := below_setRow (g := y3.heap.size) HU5.out (by first | omega | (simp at *; omega)) #[.int .i64 a0, .int .i64 a1, .int .i64 a2, .int .i64 a3, .int .i64 a4, .int .i64 a5]
          obtain ⟨y6, hy6⟩ : ∃ y, y5.setRow (y3.heap.size) #[.int .i64 a0, .int .i64 a1, .int .i64 a2, .int .i64 a3, .int .i64 a4, .int .i64 a5] = y := ⟨_, rfl⟩
          have hO : ∀ k, k ≠ y3.heap.size → y6.heap[k]? = y5.heap[k]? := fun k hk => by rw [← hy6]; exact setRow_other _ _ _ _ hk
          rw [hy6] at hN HUx ⊢
          clear hy6
          have HU6 := Lib.hid HUx
          clear HUx
          have hr6_0 := (hO _ (by omega)).trans hr5_0
          have hr6_1 := (hO _ (by omega)).trans hr5_1
          have hr6_2 := (hO _ (by omega)).trans hr5_2
          have hr6_3 := (hO _ (by omega)).trans hr5_3
          have hr6_4 := hN
          clear hN
          refine hK.out _ _ (⟨(hO _ (by omega)).trans hS5c.1, (hO _ (by omega)).trans hS5c.2.1, (hO _ (by omega)).trans hS5c.2.2⟩) (fun hS6s => ?_)
          clear hK K
          refine wpAnyH_ready (rs := [7]) (by kernel_rfl) (by simp) ?_
          refine AllReadyH.cons rfl (fun K hK => ?_) AllReadyH.nil
          refine step_store_row rfl 84 (.tmp 8) (.tmp 12) rfl #[.int .i64 0, .int .i64 0, .int .i64 0, .int .i64 0, .int .i64 0, .int .i64 0] #[.int .i64 b0, .int .i64 b1, .int .i64 b2, .int .i64 b3, .int .i64 b4, .int .i64 b5] _ 84 hr6_3 rfl (by first | rfl | (go_simp; done) | (go_simp; rfl)) (by kernel_rfl) rfl (by simp [Value.oneCell']) ?_
          have hN := setRow_heap _ (y2.heap.size) _ #[.int .i64 b0, .int .i64 b1, .int .i64 b2, .int .i64 b3, .int .i64 b4, .int .i64 b5] _ _ hr6_3
          have hsz := HU6.out.size
          have HUx := below_setRow (g := y2.heap.size) HU6.out (by first | omega | (simp at *; omega)) #[.int .i64 b0, .int .i64 b1, .int .i64 b2, .int .i64 b3, .int .i64 b4, .int .i64 b5]
          obtain ⟨y7, hy7⟩ : ∃ y, y6.setRow (y2.heap.size) #[.int .i64 b0, .int .i64 b1, .int .i64 b2, .int .i64 b3, .int .i64 b4, .int .i64 b5] = y := ⟨_, rfl⟩
          have hO : ∀ k, k ≠ y2.heap.size → y7.heap[k]? = y6.heap[k]? := fun k hk => by rw [← hy7]; exact setRow_other _ _ _ _ hk
          rw [hy7] at hN HUx ⊢
          clear hy7
          have HU7 := Lib.hid HUx
          clear HUx
          have hr7_0 := (hO _ (by omega)).trans hr6_0
          have hr7_1 := (hO _ (by omega)).trans hr6_1
          have hr7_2 := (hO _ (by omega)).trans hr6_2
          have hr7_3 := hN
          have hr7_4 := (hO _ (by omega)).trans hr6_4
          clear hN
          refine hK.out _ _ (⟨(hO _ (by omega)).trans hS6s.1, (hO _ (by omega)).trans hS6s.2.1, (hO _ (by omega)).trans hS6s.2.2⟩) (fun hS7s => ?_)
          clear hK K
          refine wpAnyH_done (by kernel_rfl) ?_ _
          go_wp2_with fail
          go_meet
          exact ⟨_, _, rfl, rfl, hr7_4, hr7_3, hr7_0, hr7_1, hr7_2, HU7⟩
    · skip
      go_simp
      have hb2 := below_n1 y1 (.cells #[.int .i64 0, .int .i64 0, .int .i64 0, .int .i64 0, .int .i64 0, .int .i64 0] 84)
      have hN := heap_alloc_last y1 (.cells #[.int .i64 0, .int .i64 0, .int .i64 0, .int .i64 0, .int .i64 0, .int .i64 0] 84)
      obtain ⟨y2, hy2⟩ : ∃ y, y1.alloc (.cells #[.int .i64 0, .int .i64 0, .int .i64 0, .int .i64 0, .int .i64 0, .int .i64 0] 84) = y := ⟨_, rfl⟩
      rw [hy2] at hb2 hN ⊢
      clear hy2
      have hl2_0 := lt_heap hr1_0
      have hr2_0 := (hb2.block _ (lt_heap hr1_0)).trans hr1_0
      have hl2_1 := lt_heap hr1_1
      have hr2_1 := (hb2.block _ (lt_heap hr1_1)).trans hr1_1
      have hl2_2 := lt_heap hr1_2
      have hr2_2 := (hb2.block _ (lt_heap hr1_2)).trans hr1_2
      have hr2_3 := hN
      clear hN
      have HU2 := Lib.hid (HU1.out.trans (hb2.mono HU1.out.size))
      refine hK.out _ _ (⟨(hb2.block _ (lt_heap hS0.1)).trans hS0.1, (hb2.block _ (lt_heap hS0.2.1)).trans hS0.2.1, (hb2.block _ (lt_heap hS0.2.2)).trans hS0.2.2⟩) (fun hS2a => ?_)
      clear hK K
      refine wpAnyH_ready (rs := [1, 5]) (by kernel_rfl) (by simp) ?_
      refine AllReadyH.cons rfl (fun K hK => ?_) (AllReadyH.cons rfl (fun K hK => ?_) AllReadyH.nil)
      · skip
        go_simp
        go_wp2_with (go_at_call 26; refine (bto_any _ _ _ _ _ _ _).mono ?_; rintro e y3 ⟨rfl, hb3⟩)
        have hr3_0 := (hb3.block _ (lt_heap hr2_0)).trans hr2_0
        have hr3_1 := (hb3.block _ (lt_heap hr2_1)).trans hr2_1
        have hr3_2 := (hb3.block _ (lt_heap hr2_2)).trans hr2_2
        have hr3_3 := (hb3.block _ (lt_heap hr2_3)).trans hr2_3
        have HU3 := Lib.hid (HU2.out.trans (hb3.mono HU2.out.size))
        refine hK.out _ _ (⟨(hb3.block _ (lt_heap hS2a.1)).trans hS2a.1, (hb3.block _ (lt_heap hS2a.2.1)).trans hS2a.2.1, (hb3.block _ (lt_heap hS2a.2.2)).trans hS2a.2.2⟩) (fun hS3c => ?_)
        clear hK K
        refine wpAnyH_ready (rs := [3, 5]) (by kernel_rfl) (by simp) ?_
        refine AllReadyH.cons rfl (fun K hK => ?_) (AllReadyH.cons rfl (fun K hK => ?_) AllReadyH.nil)
        · skip
          go_simp
          go_wp2_with (go_at_call 26; refine (bto_any _ _ _ _ _ _ _).mono ?_; rintro e y4 ⟨rfl, hb4⟩)
          have hr4_0 := (hb4.block _ (lt_heap hr3_0)).trans hr3_0
          have hr4_1 := (hb4.block _ (lt_heap hr3_1)).trans hr3_1
          have hr4_2 := (hb4.block _ (lt_heap hr3_2)).trans hr3_2
          have hr4_3 := (hb4.block _ (lt_heap hr3_3)).trans hr3_3
          have HU4 := Lib.hid (HU3.out.trans (hb4.mono HU3.out.size))
          refine hK.out _ _ (⟨(hb4.block _ (lt_heap hS3c.1)).trans hS3c.1, (hb4.block _ (lt_heap hS3c.2.1)).trans hS3c.2.1, (hb4.block _ (lt_heap hS3c.2.2)).trans hS3c.2.2⟩) (fun hS4c => ?_)
          clear hK K
          refine wpAnyH_ready (rs := [5]) (by kernel_rfl) (by simp) ?_
          refine AllReadyH.cons rfl (fun K hK => ?_) AllReadyH.nil
          go_simp
          have hb5 := below_n1 y4 (.cells #[.int .i64 0, .int .i64 0, .int .i64 0, .int .i64 0, .int .i64 0, .int .i64 0] 84)
          have hN := heap_alloc_last y4 (.cells #[.int .i64 0, .int .i64 0, .int .i64 0, .int .i64 0, .int .i64 0, .int .i64 0] 84)
          obtain ⟨y5, hy5⟩ : ∃ y, y4.alloc (.cells #[.int .i64 0, .int .i64 0, .int .i64 0, .int .i64 0, .int .i64 0, .int .i64 0] 84) = y := ⟨_, rfl⟩
          rw [hy5] at hb5 hN ⊢
          clear hy5
          have hl5_0 := lt_heap hr4_0
          have hr5_0 := (hb5.block _ (lt_heap hr4_0)).trans hr4_0
          have hl5_1 := lt_heap hr4_1
          have hr5_1 := (hb5.block _ (lt_heap hr4_1)).trans hr4_1
          have hl5_2 := lt_heap hr4_2
          have hr5_2 := (hb5.block _ (lt_heap hr4_2)).trans hr4_2
          have hl5_3 := lt_heap hr4_3
          have hr5_3 := (hb5.block _ (lt_heap hr4_3)).trans hr4_3
          have hr5_4 := hN
          clear hN
          have HU5 := Lib.hid (HU4.out.trans (hb5.mono HU4.out.size))
          refine hK.out _ _ (⟨(hb5.block _ (lt_heap hS4c.1)).trans hS4c.1, (hb5.block _ (lt_heap hS4c.2.1)).trans hS4c.2.1, (hb5.block _ (lt_heap hS4c.2.2)).trans hS4c.2.2⟩) (fun hS5a => ?_)
          clear hK K
          refine wpAnyH_ready (rs := [6]) (by kernel_rfl) (by simp) ?_
          refine AllReadyH.cons rfl (fun K hK => ?_) AllReadyH.nil
          refine step_store_row rfl 84 (.tmp 7) (.tmp 10) rfl #[.int .i64 0, .int .i64 0, .int .i64 0, .int .i64 0, .int .i64 0, .int .i64 0] #[.int .i64 a0, .int .i64 a1, .int .i64 a2, .int .i64 a3, .int .i64 a4, .int .i64 a5] _ 84 hr5_3 rfl (by first | rfl | (go_simp; done) | (go_simp; rfl)) (by kernel_rfl) rfl (by simp [Value.oneCell']) ?_
          have hN := setRow_heap _ (y1.heap.size) _ #[.int .i64 a0, .int .i64 a1, .int .i64 a2, .int .i64 a3, .int .i64 a4, .int .i64 a5] _ _ hr5_3
          have hsz := HU5.out.size
          have HUx := below_setRow (g := y1.heap.size) HU5.out (by first | omega | (simp at *; omega)) #[.int .i64 a0, .int .i64 a1, .int .i64 a2, .int .i64 a3, .int .i64 a4, .int .i64 a5]
          obtain ⟨y6, hy6⟩ : ∃ y, y5.setRow (y1.heap.size) #[.int .i64 a0, .int .i64 a1, .int .i64 a2, .int .i64 a3, .int .i64 a4, .int .i64 a5] = y := ⟨_, rfl⟩
          have hO : ∀ k, k ≠ y1.heap.size → y6.heap[k]? = y5.heap[k]? := fun k hk => by rw [← hy6]; exact setRow_other _ _ _ _ hk
          rw [hy6] at hN HUx ⊢
          clear hy6
          have HU6 := Lib.hid HUx
          clear HUx
          have hr6_0 := (hO _ (by omega)).trans hr5_0
          have hr6_1 := (hO _ (by omega)).trans hr5_1
          have hr6_2 := (hO _ (by omega)).trans hr5_2
          have hr6_3 := hN
          have hr6_4 := (hO _ (by omega)).trans hr5_4
          clear hN
          refine hK.out _ _ (⟨(hO _ (by omega)).trans hS5a.1, (hO _ (by omega)).trans hS5a.2.1, (hO _ (by omega)).trans hS5a.2.2⟩) (fun hS6s => ?_)
          clear hK K
          refine wpAnyH_ready (rs := [7]) (by kernel_rfl) (by simp) ?_
          refine AllReadyH.cons rfl (fun K hK => ?_) AllReadyH.nil
          refine step_store_row rfl 84 (.tmp 8) (.tmp 12) rfl #[.int .i64 0, .int .i64 0, .int .i64 0, .int .i64 0, .int .i64 0, .int .i64 0] #[.int .i64 b0, .int .i64 b1, .int .i64 b2, .int .i64 b3, .int .i64 b4, .int .i64 b5] _ 84 hr6_4 rfl (by first | rfl | (go_simp; done) | (go_simp; rfl)) (by kernel_rfl) rfl (by simp [Value.oneCell']) ?_
          have hN := setRow_heap _ (y4.heap.size) _ #[.int .i64 b0, .int .i64 b1, .int .i64 b2, .int .i64 b3, .int .i64 b4, .int .i64 b5] _ _ hr6_4
          have hsz := HU6.out.size
          have HUx := below_setRow (g := y4.heap.size) HU6.out (by first | omega | (simp at *; omega)) #[.int .i64 b0, .int .i64 b1, .int .i64 b2, .int .i64 b3, .int .i64 b4, .int .i64 b5]
          obtain ⟨y7, hy7⟩ : ∃ y, y6.setRow (y4.heap.size) #[.int .i64 b0, .int .i64 b1, .int .i64 b2, .int .i64 b3, .int .i64 b4, .int .i64 b5] = y := ⟨_, rfl⟩
          have hO : ∀ k, k ≠ y4.heap.size → y7.heap[k]? = y6.heap[k]? := fun k hk => by rw [← hy7]; exact setRow_other _ _ _ _ hk
          rw [hy7] at hN HUx ⊢
          clear hy7
          have HU7 := Lib.hid HUx
          clear HUx
          have hr7_0 := (hO _ (by omega)).trans hr6_0
          have hr7_1 := (hO _ (by omega)).trans hr6_1
          have hr7_2 := (hO _ (by omega)).trans hr6_2
          have hr7_3 := (hO _ (by omega)).trans hr6_3
          have hr7_4 := hN
          clear hN
          refine hK.out _ _ (⟨(hO _ (by omega)).trans hS6s.1, (hO _ (by omega)).trans hS6s.2.1, (hO _ (by omega)).trans hS6s.2.2⟩) (fun hS7s => ?_)
          clear hK K
          refine wpAnyH_done (by kernel_rfl) ?_ _
          go_wp2_with fail
          go_meet
          exact ⟨_, _, rfl, rfl, hr7_3, hr7_4, hr7_0, hr7_1, hr7_2, HU7⟩
        · skip
          go_simp
          have hb4 := below_n1 y3 (.cells #[.int .i64 0, .int .i64 0, .int .i64 0, .int .i64 0, .int .i64 0, .int .i64 0] 84)
          have hN := heap_alloc_last y3 (.cells #[.int .i64 0, .int .i64 0, .int .i64 0, .int .i64 0, .int .i64 0, .int .i64 0] 84)
          obtain ⟨y4, hy4⟩ : ∃ y, y3.alloc (.cells #[.int .i64 0, .int .i64 0, .int .i64 0, .int .i64 0, .int .i64 0, .int .i64 0] 84) = y := ⟨_, rfl⟩
          rw [hy4] at hb4 hN ⊢
          clear hy4
          have hl4_0 := lt_heap hr3_0
          have hr4_0 := (hb4.block _ (lt_heap hr3_0)).trans hr3_0
          have hl4_1 := lt_heap hr3_1
          have hr4_1 := (hb4.block _ (lt_heap hr3_1)).trans hr3_1
          have hl4_2 := lt_heap hr3_2
          have hr4_2 := (hb4.block _ (lt_heap hr3_2)).trans hr3_2
          have hl4_3 := lt_heap hr3_3
          have hr4_3 := (hb4.block _ (lt_heap hr3_3)).trans hr3_3
          have hr4_4 := hN
          clear hN
          have HU4 := Lib.hid (HU3.out.trans (hb4.mono HU3.out.size))
          refine hK.out _ _ (⟨(hb4.block _ (lt_heap hS3c.1)).trans hS3c.1, (hb4.block _ (lt_heap hS3c.2.1)).trans hS3c.2.1, (hb4.block _ (lt_heap hS3c.2.2)).trans hS3c.2.2⟩) (fun hS4a => ?_)
          clear hK K
          refine wpAnyH_ready (rs := [3]) (by kernel_rfl) (by simp) ?_
          refine AllReadyH.cons rfl (fun K hK => ?_) AllReadyH.nil
          go_simp
          go_wp2_with (go_at_call 26; refine (bto_any _ _ _ _ _ _ _).mono ?_; rintro e y5 ⟨rfl, hb5⟩)
          have hr5_0 := (hb5.block _ (lt_heap hr4_0)).trans hr4_0
          have hr5_1 := (hb5.block _ (lt_heap hr4_1)).trans hr4_1
          have hr5_2 := (hb5.block _ (lt_heap hr4_2)).trans hr4_2
          have hr5_3 := (hb5.block _ (lt_heap hr4_3)).trans hr4_3
          have hr5_4 := (hb5.block _ (lt_heap hr4_4)).trans hr4_4
          have HU5 := Lib.hid (HU4.out.trans (hb5.mono HU4.out.size))
          refine hK.out _ _ (⟨(hb5.block _ (lt_heap hS4a.1)).trans hS4a.1, (hb5.block _ (lt_heap hS4a.2.1)).trans hS4a.2.1, (hb5.block _ (lt_heap hS4a.2.2)).trans hS4a.2.2⟩) (fun hS5c => ?_)
          clear hK K
          refine wpAnyH_ready (rs := [6]) (by kernel_rfl) (by simp) ?_
          refine AllReadyH.cons rfl (fun K hK => ?_) AllReadyH.nil
          refine step_store_row rfl 84 (.tmp 7) (.tmp 10) rfl #[.int .i64 0, .int .i64 0, .int .i64 0, .int .i64 0, .int .i64 0, .int .i64 0] #[.int .i64 a0, .int .i64 a1, .int .i64 a2, .int .i64 a3, .int .i64 a4, .int .i64 a5] _ 84 hr5_3 rfl (by first | rfl | (go_simp; done) | (go_simp; rfl)) (by kernel_rfl) rfl (by simp [Value.oneCell']) ?_
          have hN := setRow_heap _ (y1.heap.size) _ #[.int .i64 a0, .int .i64 a1, .int .i64 a2, .int .i64 a3, .int .i64 a4, .int .i64 a5] _ _ hr5_3
          have hsz := HU5.out.size
          have HUx := below_setRow (g := y1.heap.size) HU5.out (by first | omega | (simp at *; omega)) #[.int .i64 a0, .int .i64 a1, .int .i64 a2, .int .i64 a3, .int .i64 a4, .int .i64 a5]
          obtain ⟨y6, hy6⟩ : ∃ y, y5.setRow (y1.heap.size) #[.int .i64 a0, .int .i64 a1, .int .i64 a2, .int .i64 a3, .int .i64 a4, .int .i64 a5] = y := ⟨_, rfl⟩
          have hO : ∀ k, k ≠ y1.heap.size → y6.heap[k]? = y5.heap[k]? := fun k hk => by rw [← hy6]; exact setRow_other _ _ _ _ hk
          rw [hy6] at hN HUx ⊢
          clear hy6
          have HU6 := Lib.hid HUx
          clear HUx
          have hr6_0 := (hO _ (by omega)).trans hr5_0
          have hr6_1 := (hO _ (by omega)).trans hr5_1
          have hr6_2 := (hO _ (by omega)).trans hr5_2
          have hr6_3 := hN
          have hr6_4 := (hO _ (by omega)).trans hr5_4
          clear hN
          refine hK.out _ _ (⟨(hO _ (by omega)).trans hS5c.1, (hO _ (by omega)).trans hS5c.2.1, (hO _ (by omega)).trans hS5c.2.2⟩) (fun hS6s => ?_)
          clear hK K
          refine wpAnyH_ready (rs := [7]) (by kernel_rfl) (by simp) ?_
          refine AllReadyH.cons rfl (fun K hK => ?_) AllReadyH.nil
          refine step_store_row rfl 84 (.tmp 8) (.tmp 12) rfl #[.int .i64 0, .int .i64 0, .int .i64 0, .int .i64 0, .int .i64 0, .int .i64 0] #[.int .i64 b0, .int .i64 b1, .int .i64 b2, .int .i64 b3, .int .i64 b4, .int .i64 b5] _ 84 hr6_4 rfl (by first | rfl | (go_simp; done) | (go_simp; rfl)) (by kernel_rfl) rfl (by simp [Value.oneCell']) ?_
          have hN := setRow_heap _ (y3.heap.size) _ #[.int .i64 b0, .int .i64 b1, .int .i64 b2, .int .i64 b3, .int .i64 b4, .int .i64 b5] _ _ hr6_4
          have hsz := HU6.out.size
          have HUx := below_setRow (g := y3.heap.size) HU6.out (by first | omega | (simp at *; omega)) #[.int .i64 b0, .int .i64 b1, .int .i64 b2, .int .i64 b3, .int .i64 b4, .int .i64 b5]
          obtain ⟨y7, hy7⟩ : ∃ y, y6.setRow (y3.heap.size) #[.int .i64 b0, .int .i64 b1, .int .i64 b2, .int .i64 b3, .int .i64 b4, .int .i64 b5] = y := ⟨_, rfl⟩
          have hO : ∀ k, k ≠ y3.heap.size → y7.heap[k]? = y6.heap[k]? := fun k hk => by rw [← hy7]; exact setRow_other _ _ _ _ hk
          rw [hy7] at hN HUx ⊢
          clear hy7
          have HU7 := Lib.hid HUx
          clear HUx
          have hr7_0 := (hO _ (by omega)).trans hr6_0
          have hr7_1 := (hO _ (by omega)).trans hr6_1
          have hr7_2 := (hO _ (by omega)).trans hr6_2
          have hr7_3 := (hO _ (by omega)).trans hr6_3
          have hr7_4 := hN
          clear hN
          refine hK.out _ _ (⟨(hO _ (by omega)).trans hS6s.1, (hO _ (by omega)).trans hS6s.2.1, (hO _ (by omega)).trans hS6s.2.2⟩) (fun hS7s => ?_)
          clear hK K
          refine wpAnyH_done (by kernel_rfl) ?_ _
          go_wp2_with fail
          go_meet
          exact ⟨_, _, rfl, rfl, hr7_3, hr7_4, hr7_0, hr7_1, hr7_2, HU7⟩
      · skip
        go_simp
        have hb3 := below_n1 y2 (.cells #[.int .i64 0, .int .i64 0, .int .i64 0, .int .i64 0, .int .i64 0, .int .i64 0] 84)
        have hN := heap_alloc_last y2 (.cells #[.int .i64 0, .int .i64 0, .int .i64 0, .int .i64 0, .int .i64 0, .int .i64 0] 84)
        obtain ⟨y3, hy3⟩ : ∃ y, y2.alloc (.cells #[.int .i64 0, .int .i64 0, .int .i64 0, .int .i64 0, .int .i64 0, .int .i64 0] 84) = y := ⟨_, rfl⟩
        rw [hy3] at hb3 hN ⊢
        clear hy3
        have hl3_0 := lt_heap hr2_0
        have hr3_0 := (hb3.block _ (lt_heap hr2_0)).trans hr2_0
        have hl3_1 := lt_heap hr2_1
        have hr3_1 := (hb3.block _ (lt_heap hr2_1)).trans hr2_1
        have hl3_2 := lt_heap hr2_2
        have hr3_2 := (hb3.block _ (lt_heap hr2_2)).trans hr2_2
        have hl3_3 := lt_heap hr2_3
        have hr3_3 := (hb3.block _ (lt_heap hr2_3)).trans hr2_3
        have hr3_4 := hN
        clear hN
        have HU3 := Lib.hid (HU2.out.trans (hb3.mono HU2.out.size))
        refine hK.out _ _ (⟨(hb3.block _ (lt_heap hS2a.1)).trans hS2a.1, (hb3.block _ (lt_heap hS2a.2.1)).trans hS2a.2.1, (hb3.block _ (lt_heap hS2a.2.2)).trans hS2a.2.2⟩) (fun hS3a => ?_)
        clear hK K
        refine wpAnyH_ready (rs := [1]) (by kernel_rfl) (by simp) ?_
        refine AllReadyH.cons rfl (fun K hK => ?_) AllReadyH.nil
        go_simp
        go_wp2_with (go_at_call 26; refine (bto_any _ _ _ _ _ _ _).mono ?_; rintro e y4 ⟨rfl, hb4⟩)
        have hr4_0 := (hb4.block _ (lt_heap hr3_0)).trans hr3_0
        have hr4_1 := (hb4.block _ (lt_heap hr3_1)).trans hr3_1
        have hr4_2 := (hb4.block _ (lt_heap hr3_2)).trans hr3_2
        have hr4_3 := (hb4.block _ (lt_heap hr3_3)).trans hr3_3
        have hr4_4 := (hb4.block _ (lt_heap hr3_4)).trans hr3_4
        have HU4 := Lib.hid (HU3.out.trans (hb4.mono HU3.out.size))
        refine hK.out _ _ (⟨(hb4.block _ (lt_heap hS3a.1)).trans hS3a.1, (hb4.block _ (lt_heap hS3a.2.1)).trans hS3a.2.1, (hb4.block _ (lt_heap hS3a.2.2)).trans hS3a.2.2⟩) (fun hS4c => ?_)
        clear hK K
        refine wpAnyH_ready (rs := [3]) (by kernel_rfl) (by simp) ?_
        refine AllReadyH.cons rfl (fun K hK => ?_) AllReadyH.nil
        go_simp
        go_wp2_with (go_at_call 26; refine (bto_any _ _ _ _ _ _ _).mono ?_; rintro e y5 ⟨rfl, hb5⟩)
        have hr5_0 := (hb5.block _ (lt_heap hr4_0)).trans hr4_0
        have hr5_1 := (hb5.block _ (lt_heap hr4_1)).trans hr4_1
        have hr5_2 := (hb5.block _ (lt_heap hr4_2)).trans hr4_2
        have hr5_3 := (hb5.block _ (lt_heap hr4_3)).trans hr4_3
        have hr5_4 := (hb5.block _ (lt_heap hr4_4)).trans hr4_4
        have HU5 := Lib.hid (HU4.out.trans (hb5.mono HU4.out.size))
        refine hK.out _ _ (⟨(hb5.block _ (lt_heap hS4c.1)).trans hS4c.1, (hb5.block _ (lt_heap hS4c.2.1)).trans hS4c.2.1, (hb5.block _ (lt_heap hS4c.2.2)).trans hS4c.2.2⟩) (fun hS5c => ?_)
        clear hK K
        refine wpAnyH_ready (rs := [6]) (by kernel_rfl) (by simp) ?_
        refine AllReadyH.cons rfl (fun K hK => ?_) AllReadyH.nil
        refine step_store_row rfl 84 (.tmp 7) (.tmp 10) rfl #[.int .i64 0, .int .i64 0, .int .i64 0, .int .i64 0, .int .i64 0, .int .i64 0] #[.int .i64 a0, .int .i64 a1, .int .i64 a2, .int .i64 a3, .int .i64 a4, .int .i64 a5] _ 84 hr5_3 rfl (by first | rfl | (go_simp; done) | (go_simp; rfl)) (by kernel_rfl) rfl (by simp [Value.oneCell']) ?_
        have hN := setRow_heap _ (y1.heap.size) _ #[.int .i64 a0, .int .i64 a1, .int .i64 a2, .int .i64 a3, .int .i64 a4, .int .i64 a5] _ _ hr5_3
        have hsz := HU5.out.size
        have HUx := below_setRow (g := y1.heap.size) HU5.out (by first | omega | (simp at *; omega)) #[.int .i64 a0, .int .i64 a1, .int .i64 a2, .int .i64 a3, .int .i64 a4, .int .i64 a5]
        obtain ⟨y6, hy6⟩ : ∃ y, y5.setRow (y1.heap.size) #[.int .i64 a0, .int .i64 a1, .int .i64 a2, .int .i64 a3, .int .i64 a4, .int .i64 a5] = y := ⟨_, rfl⟩
        have hO : ∀ k, k ≠ y1.heap.size → y6.heap[k]? = y5.heap[k]? := fun k hk => by rw [← hy6]; exact setRow_other _ _ _ _ hk
        rw [hy6] at hN HUx ⊢
        clear hy6
        have HU6 := Lib.hid HUx
        clear HUx
        have hr6_0 := (hO _ (by omega)).trans hr5_0
        have hr6_1 := (hO _ (by omega)).trans hr5_1
        have hr6_2 := (hO _ (by omega)).trans hr5_2
        have hr6_3 := hN
        have hr6_4 := (hO _ (by omega)).trans hr5_4
        clear hN
        refine hK.out _ _ (⟨(hO _ (by omega)).trans hS5c.1, (hO _ (by omega)).trans hS5c.2.1, (hO _ (by omega)).trans hS5c.2.2⟩) (fun hS6s => ?_)
        clear hK K
        refine wpAnyH_ready (rs := [7]) (by kernel_rfl) (by simp) ?_
        refine AllReadyH.cons rfl (fun K hK => ?_) AllReadyH.nil
        refine step_store_row rfl 84 (.tmp 8) (.tmp 12) rfl #[.int .i64 0, .int .i64 0, .int .i64 0, .int .i64 0, .int .i64 0, .int .i64 0] #[.int .i64 b0, .int .i64 b1, .int .i64 b2, .int .i64 b3, .int .i64 b4, .int .i64 b5] _ 84 hr6_4 rfl (by first | rfl | (go_simp; done) | (go_simp; rfl)) (by kernel_rfl) rfl (by simp [Value.oneCell']) ?_
        have hN := setRow_heap _ (y2.heap.size) _ #[.int .i64 b0, .int .i64 b1, .int .i64 b2, .int .i64 b3, .int .i64 b4, .int .i64 b5] _ _ hr6_4
        have hsz := HU6.out.size
        have HUx := below_setRow (g := y2.heap.size) HU6.out (by first | omega | (simp at *; omega)) #[.int .i64 b0, .int .i64 b1, .int .i64 b2, .int .i64 b3, .int .i64 b4, .int .i64 b5]
        obtain ⟨y7, hy7⟩ : ∃ y, y6.setRow (y2.heap.size) #[.int .i64 b0, .int .i64 b1, .int .i64 b2, .int .i64 b3, .int .i64 b4, .int .i64 b5] = y := ⟨_, rfl⟩
        have hO : ∀ k, k ≠ y2.heap.size → y7.heap[k]? = y6.heap[k]? := fun k hk => by rw [← hy7]; exact setRow_other _ _ _ _ hk
        rw [hy7] at hN HUx ⊢
        clear hy7
        have HU7 := Lib.hid HUx
        clear HUx
        have hr7_0 := (hO _ (by omega)).trans hr6_0
        have hr7_1 := (hO _ (by omega)).trans hr6_1
        have hr7_2 := (hO _ (by omega)).trans hr6_2
        have hr7_3 := (hO _ (by omega)).trans hr6_3
        have hr7_4 := hN
        clear hN
        refine hK.out _ _ (⟨(hO _ (by omega)).trans hS6s.1, (hO _ (by omega)).trans hS6s.2.1, (hO _ (by omega)).trans hS6s.2.2⟩) (fun hS7s => ?_)
        clear hK K
        refine wpAnyH_done (by kernel_rfl) ?_ _
        go_wp2_with fail
        go_meet
        exact ⟨_, _, rfl, rfl, hr7_3, hr7_4, hr7_0, hr7_1, hr7_2, HU7⟩
    · skip
      go_simp
      have hb2 := below_n1 y1 (.cells #[.int .i64 0, .int .i64 0, .int .i64 0, .int .i64 0, .int .i64 0, .int .i64 0] 84)
      have hN := heap_alloc_last y1 (.cells #[.int .i64 0, .int .i64 0, .int .i64 0, .int .i64 0, .int .i64 0, .int .i64 0] 84)
      obtain ⟨y2, hy2⟩ : ∃ y, y1.alloc (.cells #[.int .i64 0, .int .i64 0, .int .i64 0, .int .i64 0, .int .i64 0, .int .i64 0] 84) = y := ⟨_, rfl⟩
      rw [hy2] at hb2 hN ⊢
      clear hy2
      have hl2_0 := lt_heap hr1_0
      have hr2_0 := (hb2.block _ (lt_heap hr1_0)).trans hr1_0
      have hl2_1 := lt_heap hr1_1
      have hr2_1 := (hb2.block _ (lt_heap hr1_1)).trans hr1_1
      have hl2_2 := lt_heap hr1_2
      have hr2_2 := (hb2.block _ (lt_heap hr1_2)).trans hr1_2
      have hr2_3 := hN
      clear hN
      have HU2 := Lib.hid (HU1.out.trans (hb2.mono HU1.out.size))
      refine hK.out _ _ (⟨(hb2.block _ (lt_heap hS0.1)).trans hS0.1, (hb2.block _ (lt_heap hS0.2.1)).trans hS0.2.1, (hb2.block _ (lt_heap hS0.2.2)).trans hS0.2.2⟩) (fun hS2a => ?_)
      clear hK K
      refine wpAnyH_ready (rs := [1, 4]) (by kernel_rfl) (by simp) ?_
      refine AllReadyH.cons rfl (fun K hK => ?_) (AllReadyH.cons rfl (fun K hK => ?_) AllReadyH.nil)
      · skip
        go_simp
        go_wp2_with (go_at_call 26; refine (bto_any _ _ _ _ _ _ _).mono ?_; rintro e y3 ⟨rfl, hb3⟩)
        have hr3_0 := (hb3.block _ (lt_heap hr2_0)).trans hr2_0
        have hr3_1 := (hb3.block _ (lt_heap hr2_1)).trans hr2_1
        have hr3_2 := (hb3.block _ (lt_heap hr2_2)).trans hr2_2
        have hr3_3 := (hb3.block _ (lt_heap hr2_3)).trans hr2_3
        have HU3 := Lib.hid (HU2.out.trans (hb3.mono HU2.out.size))
        refine hK.out _ _ (⟨(hb3.block _ (lt_heap hS2a.1)).trans hS2a.1, (hb3.block _ (lt_heap hS2a.2.1)).trans hS2a.2.1, (hb3.block _ (lt_heap hS2a.2.2)).trans hS2a.2.2⟩) (fun hS3c => ?_)
        clear hK K
        refine wpAnyH_ready (rs := [3, 4]) (by kernel_rfl) (by simp) ?_
        refine AllReadyH.cons rfl (fun K hK => ?_) (AllReadyH.cons rfl (fun K hK => ?_) AllReadyH.nil)
        · skip
          go_simp
          go_wp2_with (go_at_call 26; refine (bto_any _ _ _ _ _ _ _).mono ?_; rintro e y4 ⟨rfl, hb4⟩)
          have hr4_0 := (hb4.block _ (lt_heap hr3_0)).trans hr3_0
          have hr4_1 := (hb4.block _ (lt_heap hr3_1)).trans hr3_1
          have hr4_2 := (hb4.block _ (lt_heap hr3_2)).trans hr3_2
          have hr4_3 := (hb4.block _ (lt_heap hr3_3)).trans hr3_3
          have HU4 := Lib.hid (HU3.out.trans (hb4.mono HU3.out.size))
          refine hK.out _ _ (⟨(hb4.block _ (lt_heap hS3c.1)).trans hS3c.1, (hb4.block _ (lt_heap hS3c.2.1)).trans hS3c.2.1, (hb4.block _ (lt_heap hS3c.2.2)).trans hS3c.2.2⟩) (fun hS4c => ?_)
          clear hK K
          refine wpAnyH_ready (rs := [4]) (by kernel_rfl) (by simp) ?_
          refine AllReadyH.cons rfl (fun K hK => ?_) AllReadyH.nil
          go_simp
          have hb5 := below_n1 y4 (.cells #[.int .i64 0, .int .i64 0, .int .i64 0, .int .i64 0, .int .i64 0, .int .i64 0] 84)
          have hN := heap_alloc_last y4 (.cells #[.int .i64 0, .int .i64 0, .int .i64 0, .int .i64 0, .int .i64 0, .int .i64 0] 84)
          obtain ⟨y5, hy5⟩ : ∃ y, y4.alloc (.cells #[.int .i64 0, .int .i64 0, .int .i64 0, .int .i64 0, .int .i64 0, .int .i64 0] 84) = y := ⟨_, rfl⟩
          rw [hy5] at hb5 hN ⊢
          clear hy5
          have hl5_0 := lt_heap hr4_0
          have hr5_0 := (hb5.block _ (lt_heap hr4_0)).trans hr4_0
          have hl5_1 := lt_heap hr4_1
          have hr5_1 := (hb5.block _ (lt_heap hr4_1)).trans hr4_1
          have hl5_2 := lt_heap hr4_2
          have hr5_2 := (hb5.block _ (lt_heap hr4_2)).trans hr4_2
          have hl5_3 := lt_heap hr4_3
          have hr5_3 := (hb5.block _ (lt_heap hr4_3)).trans hr4_3
          have hr5_4 := hN
          clear hN
          have HU5 := Lib.hid (HU4.out.trans (hb5.mono HU4.out.size))
          refine hK.out _ _ (⟨(hb5.block _ (lt_heap hS4c.1)).trans hS4c.1, (hb5.block _ (lt_heap hS4c.2.1)).trans hS4c.2.1, (hb5.block _ (lt_heap hS4c.2.2)).trans hS4c.2.2⟩) (fun hS5a => ?_)
          clear hK K
          refine wpAnyH_ready (rs := [6]) (by kernel_rfl) (by simp) ?_
          refine AllReadyH.cons rfl (fun K hK => ?_) AllReadyH.nil
          refine step_store_row rfl 84 (.tmp 7) (.tmp 10) rfl #[.int .i64 0, .int .i64 0, .int .i64 0, .int .i64 0, .int .i64 0, .int .i64 0] #[.int .i64 a0, .int .i64 a1, .int .i64 a2, .int .i64 a3, .int .i64 a4, .int .i64 a5] _ 84 hr5_4 rfl (by first | rfl | (go_simp; done) | (go_simp; rfl)) (by kernel_rfl) rfl (by simp [Value.oneCell']) ?_
          have hN := setRow_heap _ (y4.heap.size) _ #[.int .i64 a0, .int .i64 a1, .int .i64 a2, .int .i64 a3, .int .i64 a4, .int .i64 a5] _ _ hr5_4
          have hsz := HU5.out.size
          have HUx := below_setRow (g := y4.heap.size) HU5.out (by first | omega | (simp at *; omega)) #[.int .i64 a0, .int .i64 a1, .int .i64 a2, .int .i64 a3, .int .i64 a4, .int .i64 a5]
          obtain ⟨y6, hy6⟩ : ∃ y, y5.setRow (y4.heap.size) #[.int .i64 a0, .int .i64 a1, .int .i64 a2, .int .i64 a3, .int .i64 a4, .int .i64 a5] = y := ⟨_, rfl⟩
          have hO : ∀ k, k ≠ y4.heap.size → y6.heap[k]? = y5.heap[k]? := fun k hk => by rw [← hy6]; exact setRow_other _ _ _ _ hk
          rw [hy6] at hN HUx ⊢
          clear hy6
          have HU6 := Lib.hid HUx
          clear HUx
          have hr6_0 := (hO _ (by omega)).trans hr5_0
          have hr6_1 := (hO _ (by omega)).trans hr5_1
          have hr6_2 := (hO _ (by omega)).trans hr5_2
          have hr6_3 := (hO _ (by omega)).trans hr5_3
          have hr6_4 := hN
          clear hN
          refine hK.out _ _ (⟨(hO _ (by omega)).trans hS5a.1, (hO _ (by omega)).trans hS5a.2.1, (hO _ (by omega)).trans hS5a.2.2⟩) (fun hS6s => ?_)
          clear hK K
          refine wpAnyH_ready (rs := [7]) (by kernel_rfl) (by simp) ?_
          refine AllReadyH.cons rfl (fun K hK => ?_) AllReadyH.nil
          refine step_store_row rfl 84 (.tmp 8) (.tmp 12) rfl #[.int .i64 0, .int .i64 0, .int .i64 0, .int .i64 0, .int .i64 0, .int .i64 0] #[.int .i64 b0, .int .i64 b1, .int .i64 b2, .int .i64 b3, .int .i64 b4, .int .i64 b5] _ 84 hr6_3 rfl (by first | rfl | (go_simp; done) | (go_simp; rfl)) (by kernel_rfl) rfl (by simp [Value.oneCell']) ?_
          have hN := setRow_heap _ (y1.heap.size) _ #[.int .i64 b0, .int .i64 b1, .int .i64 b2, .int .i64 b3, .int .i64 b4, .int .i64 b5] _ _ hr6_3
          have hsz := HU6.out.size
          have HUx := below_setRow (g := y1.heap.size) HU6.out (by first | omega | (simp at *; omega)) #[.int .i64 b0, .int .i64 b1, .int .i64 b2, .int .i64 b3, .int .i64 b4, .int .i64 b5]
          obtain ⟨y7, hy7⟩ : ∃ y, y6.setRow (y1.heap.size) #[.int .i64 b0, .int .i64 b1, .int .i64 b2, .int .i64 b3, .int .i64 b4, .int .i64 b5] = y := ⟨_, rfl⟩
          have hO : ∀ k, k ≠ y1.heap.size → y7.heap[k]? = y6.heap[k]? := fun k hk => by rw [← hy7]; exact setRow_other _ _ _ _ hk
          rw [hy7] at hN HUx ⊢
          clear hy7
          have HU7 := Lib.hid HUx
          clear HUx
          have hr7_0 := (hO _ (by omega)).trans hr6_0
          have hr7_1 := (hO _ (by omega)).trans hr6_1
          have hr7_2 := (hO _ (by omega)).trans hr6_2
          have hr7_3 := hN
          have hr7_4 := (hO _ (by omega)).trans hr6_4
          clear hN
          refine hK.out _ _ (⟨(hO _ (by omega)).trans hS6s.1, (hO _ (by omega)).trans hS6s.2.1, (hO _ (by omega)).trans hS6s.2.2⟩) (fun hS7s => ?_)
          clear hK K
          refine wpAnyH_done (by kernel_rfl) ?_ _
          go_wp2_with fail
          go_meet
          exact ⟨_, _, rfl, rfl, hr7_4, hr7_3, hr7_0, hr7_1, hr7_2, HU7⟩
        · skip
          go_simp
          have hb4 := below_n1 y3 (.cells #[.int .i64 0, .int .i64 0, .int .i64 0, .int .i64 0, .int .i64 0, .int .i64 0] 84)
          have hN := heap_alloc_last y3 (.cells #[.int .i64 0, .int .i64 0, .int .i64 0, .int .i64 0, .int .i64 0, .int .i64 0] 84)
          obtain ⟨y4, hy4⟩ : ∃ y, y3.alloc (.cells #[.int .i64 0, .int .i64 0, .int .i64 0, .int .i64 0, .int .i64 0, .int .i64 0] 84) = y := ⟨_, rfl⟩
          rw [hy4] at hb4 hN ⊢
          clear hy4
          have hl4_0 := lt_heap hr3_0
          have hr4_0 := (hb4.block _ (lt_heap hr3_0)).trans hr3_0
          have hl4_1 := lt_heap hr3_1
          have hr4_1 := (hb4.block _ (lt_heap hr3_1)).trans hr3_1
          have hl4_2 := lt_heap hr3_2
          have hr4_2 := (hb4.block _ (lt_heap hr3_2)).trans hr3_2
          have hl4_3 := lt_heap hr3_3
          have hr4_3 := (hb4.block _ (lt_heap hr3_3)).trans hr3_3
          have hr4_4 := hN
          clear hN
          have HU4 := Lib.hid (HU3.out.trans (hb4.mono HU3.out.size))
          refine hK.out _ _ (⟨(hb4.block _ (lt_heap hS3c.1)).trans hS3c.1, (hb4.block _ (lt_heap hS3c.2.1)).trans hS3c.2.1, (hb4.block _ (lt_heap hS3c.2.2)).trans hS3c.2.2⟩) (fun hS4a => ?_)
          clear hK K
          refine wpAnyH_ready (rs := [3]) (by kernel_rfl) (by simp) ?_
          refine AllReadyH.cons rfl (fun K hK => ?_) AllReadyH.nil
          go_simp
          go_wp2_with (go_at_call 26; refine (bto_any _ _ _ _ _ _ _).mono ?_; rintro e y5 ⟨rfl, hb5⟩)
          have hr5_0 := (hb5.block _ (lt_heap hr4_0)).trans hr4_0
          have hr5_1 := (hb5.block _ (lt_heap hr4_1)).trans hr4_1
          have hr5_2 := (hb5.block _ (lt_heap hr4_2)).trans hr4_2
          have hr5_3 := (hb5.block _ (lt_heap hr4_3)).trans hr4_3
          have hr5_4 := (hb5.block _ (lt_heap hr4_4)).trans hr4_4
          have HU5 := Lib.hid (HU4.out.trans (hb5.mono HU4.out.size))
          refine hK.out _ _ (⟨(hb5.block _ (lt_heap hS4a.1)).trans hS4a.1, (hb5.block _ (lt_heap hS4a.2.1)).trans hS4a.2.1, (hb5.block _ (lt_heap hS4a.2.2)).trans hS4a.2.2⟩) (fun hS5c => ?_)
          clear hK K
          refine wpAnyH_ready (rs := [6]) (by kernel_rfl) (by simp) ?_
          refine AllReadyH.cons rfl (fun K hK => ?_) AllReadyH.nil
          refine step_store_row rfl 84 (.tmp 7) (.tmp 10) rfl #[.int .i64 0, .int .i64 0, .int .i64 0, .int .i64 0, .int .i64 0, .int .i64 0] #[.int .i64 a0, .int .i64 a1, .int .i64 a2, .int .i64 a3, .int .i64 a4, .int .i64 a5] _ 84 hr5_4 rfl (by first | rfl | (go_simp; done) | (go_simp; rfl)) (by kernel_rfl) rfl (by simp [Value.oneCell']) ?_
          have hN := setRow_heap _ (y3.heap.size) _ #[.int .i64 a0, .int .i64 a1, .int .i64 a2, .int .i64 a3, .int .i64 a4, .int .i64 a5] _ _ hr5_4
          have hsz := HU5.out.size
          have HUx := below_setRow (g := y3.heap.size) HU5.out (by first | omega | (simp at *; omega)) #[.int .i64 a0, .int .i64 a1, .int .i64 a2, .int .i64 a3, .int .i64 a4, .int .i64 a5]
          obtain ⟨y6, hy6⟩ : ∃ y, y5.setRow (y3.heap.size) #[.int .i64 a0, .int .i64 a1, .int .i64 a2, .int .i64 a3, .int .i64 a4, .int .i64 a5] = y := ⟨_, rfl⟩
          have hO : ∀ k, k ≠ y3.heap.size → y6.heap[k]? = y5.heap[k]? := fun k hk => by rw [← hy6]; exact setRow_other _ _ _ _ hk
          rw [hy6] at hN HUx ⊢
          clear hy6
          have HU6 := Lib.hid HUx
          clear HUx
          have hr6_0 := (hO _ (by omega)).trans hr5_0
          have hr6_1 := (hO _ (by omega)).trans hr5_1
          have hr6_2 := (hO _ (by omega)).trans hr5_2
          have hr6_3 := (hO _ (by omega)).trans hr5_3
          have hr6_4 := hN
          clear hN
          refine hK.out _ _ (⟨(hO _ (by omega)).trans hS5c.1, (hO _ (by omega)).trans hS5c.2.1, (hO _ (by omega)).trans hS5c.2.2⟩) (fun hS6s => ?_)
          clear hK K
          refine wpAnyH_ready (rs := [7]) (by kernel_rfl) (by simp) ?_
          refine AllReadyH.cons rfl (fun K hK => ?_) AllReadyH.nil
          refine step_store_row rfl 84 (.tmp 8) (.tmp 12) rfl #[.int .i64 0, .int .i64 0, .int .i64 0, .int .i64 0, .int .i64 0, .int .i64 0] #[.int .i64 b0, .int .i64 b1, .int .i64 b2, .int .i64 b3, .int .i64 b4, .int .i64 b5] _ 84 hr6_3 rfl (by first | rfl | (go_simp; done) | (go_simp; rfl)) (by kernel_rfl) rfl (by simp [Value.oneCell']) ?_
          have hN := setRow_heap _ (y1.heap.size) _ #[.int .i64 b0, .int .i64 b1, .int .i64 b2, .int .i64 b3, .int .i64 b4, .int .i64 b5] _ _ hr6_3
          have hsz := HU6.out.size
          have HUx := below_setRow (g := y1.heap.size) HU6.out (by first | omega | (simp at *; omega)) #[.int .i64 b0, .int .i64 b1, .int .i64 b2, .int .i64 b3, .int .i64 b4, .int .i64 b5]
          obtain ⟨y7, hy7⟩ : ∃ y, y6.setRow (y1.heap.size) #[.int .i64 b0, .int .i64 b1, .int .i64 b2, .int .i64 b3, .int .i64 b4, .int .i64 b5] = y := ⟨_, rfl⟩
          have hO : ∀ k, k ≠ y1.heap.size → y7.heap[k]? = y6.heap[k]? := fun k hk => by rw [← hy7]; exact setRow_other _ _ _ _ hk
          rw [hy7] at hN HUx ⊢
          clear hy7
          have HU7 := Lib.hid HUx
          clear HUx
          have hr7_0 := (hO _ (by omega)).trans hr6_0
          have hr7_1 := (hO _ (by omega)).trans hr6_1
          have hr7_2 := (hO _ (by omega)).trans hr6_2
          have hr7_3 := hN
          have hr7_4 := (hO _ (by omega)).trans hr6_4
          clear hN
          refine hK.out _ _ (⟨(hO _ (by omega)).trans hS6s.1, (hO _ (by omega)).trans hS6s.2.1, (hO _ (by omega)).trans hS6s.2.2⟩) (fun hS7s => ?_)
          clear hK K
          refine wpAnyH_done (by kernel_rfl) ?_ _
          go_wp2_with fail
          go_meet
          exact ⟨_, _, rfl, rfl, hr7_4, hr7_3, hr7_0, hr7_1, hr7_2, HU7⟩
      · skip
        go_simp
        have hb3 := below_n1 y2 (.cells #[.int .i64 0, .int .i64 0, .int .i64 0, .int .i64 0, .int .i64 0, .int .i64 0] 84)
        have hN := heap_alloc_last y2 (.cells #[.int .i64 0, .int .i64 0, .int .i64 0, .int .i64 0, .int .i64 0, .int .i64 0] 84)
        obtain ⟨y3, hy3⟩ : ∃ y, y2.alloc (.cells #[.int .i64 0, .int .i64 0, .int .i64 0, .int .i64 0, .int .i64 0, .int .i64 0] 84) = y := ⟨_, rfl⟩
        rw [hy3] at hb3 hN ⊢
        clear hy3
        have hl3_0 := lt_heap hr2_0
        have hr3_0 := (hb3.block _ (lt_heap hr2_0)).trans hr2_0
        have hl3_1 := lt_heap hr2_1
        have hr3_1 := (hb3.block _ (lt_heap hr2_1)).trans hr2_1
        have hl3_2 := lt_heap hr2_2
        have hr3_2 := (hb3.block _ (lt_heap hr2_2)).trans hr2_2
        have hl3_3 := lt_heap hr2_3
        have hr3_3 := (hb3.block _ (lt_heap hr2_3)).trans hr2_3
        have hr3_4 := hN
        clear hN
        have HU3 := Lib.hid (HU2.out.trans (hb3.mono HU2.out.size))
        refine hK.out _ _ (⟨(hb3.block _ (lt_heap hS2a.1)).trans hS2a.1, (hb3.block _ (lt_heap hS2a.2.1)).trans hS2a.2.1, (hb3.block _ (lt_heap hS2a.2.2)).trans hS2a.2.2⟩) (fun hS3a => ?_)
        clear hK K
        refine wpAnyH_ready (rs := [1]) (by kernel_rfl) (by simp) ?_
        refine AllReadyH.cons rfl (fun K hK => ?_) AllReadyH.nil
        go_simp
        go_wp2_with (go_at_call 26; refine (bto_any _ _ _ _ _ _ _).mono ?_; rintro e y4 ⟨rfl, hb4⟩)
        have hr4_0 := (hb4.block _ (lt_heap hr3_0)).trans hr3_0
        have hr4_1 := (hb4.block _ (lt_heap hr3_1)).trans hr3_1
        have hr4_2 := (hb4.block _ (lt_heap hr3_2)).trans hr3_2
        have hr4_3 := (hb4.block _ (lt_heap hr3_3)).trans hr3_3
        have hr4_4 := (hb4.block _ (lt_heap hr3_4)).trans hr3_4
        have HU4 := Lib.hid (HU3.out.trans (hb4.mono HU3.out.size))
        refine hK.out _ _ (⟨(hb4.block _ (lt_heap hS3a.1)).trans hS3a.1, (hb4.block _ (lt_heap hS3a.2.1)).trans hS3a.2.1, (hb4.block _ (lt_heap hS3a.2.2)).trans hS3a.2.2⟩) (fun hS4c => ?_)
        clear hK K
        refine wpAnyH_ready (rs := [3]) (by kernel_rfl) (by simp) ?_
        refine AllReadyH.cons rfl (fun K hK => ?_) AllReadyH.nil
        go_simp
        go_wp2_with (go_at_call 26; refine (bto_any _ _ _ _ _ _ _).mono ?_; rintro e y5 ⟨rfl, hb5⟩)
        have hr5_0 := (hb5.block _ (lt_heap hr4_0)).trans hr4_0
        have hr5_1 := (hb5.block _ (lt_heap hr4_1)).trans hr4_1
        have hr5_2 := (hb5.block _ (lt_heap hr4_2)).trans hr4_2
        have hr5_3 := (hb5.block _ (lt_heap hr4_3)).trans hr4_3
        have hr5_4 := (hb5.block _ (lt_heap hr4_4)).trans hr4_4
        have HU5 := Lib.hid (HU4.out.trans (hb5.mono HU4.out.size))
        refine hK.out _ _ (⟨(hb5.block _ (lt_heap hS4c.1)).trans hS4c.1, (hb5.block _ (lt_heap hS4c.2.1)).trans hS4c.2.1, (hb5.block _ (lt_heap hS4c.2.2)).trans hS4c.2.2⟩) (fun hS5c => ?_)
        clear hK K
        refine wpAnyH_ready (rs := [6]) (by kernel_rfl) (by simp) ?_
        refine AllReadyH.cons rfl (fun K hK => ?_) AllReadyH.nil
        refine step_store_row rfl 84 (.tmp 7) (.tmp 10) rfl #[.int .i64 0, .int .i64 0, .int .i64 0, .int .i64 0, .int .i64 0, .int .i64 0] #[.int .i64 a0, .int .i64 a1, .int .i64 a2, .int .i64 a3, .int .i64 a4, .int .i64 a5] _ 84 hr5_4 rfl (by first | rfl | (go_simp; done) | (go_simp; rfl)) (by kernel_rfl) rfl (by simp [Value.oneCell']) ?_
        have hN := setRow_heap _ (y2.heap.size) _ #[.int .i64 a0, .int .i64 a1, .int .i64 a2, .int .i64 a3, .int .i64 a4, .int .i64 a5] _ _ hr5_4
        have hsz := HU5.out.size
        have HUx := below_setRow (g := y2.heap.size) HU5.out (by first | omega | (simp at *; omega)) #[.int .i64 a0, .int .i64 a1, .int .i64 a2, .int .i64 a3, .int .i64 a4, .int .i64 a5]
        obtain ⟨y6, hy6⟩ : ∃ y, y5.setRow (y2.heap.size) #[.int .i64 a0, .int .i64 a1, .int .i64 a2, .int .i64 a3, .int .i64 a4, .int .i64 a5] = y := ⟨_, rfl⟩
        have hO : ∀ k, k ≠ y2.heap.size → y6.heap[k]? = y5.heap[k]? := fun k hk => by rw [← hy6]; exact setRow_other _ _ _ _ hk
        rw [hy6] at hN HUx ⊢
        clear hy6
        have HU6 := Lib.hid HUx
        clear HUx
        have hr6_0 := (hO _ (by omega)).trans hr5_0
        have hr6_1 := (hO _ (by omega)).trans hr5_1
        have hr6_2 := (hO _ (by omega)).trans hr5_2
        have hr6_3 := (hO _ (by omega)).trans hr5_3
        have hr6_4 := hN
        clear hN
        refine hK.out _ _ (⟨(hO _ (by omega)).trans hS5c.1, (hO _ (by omega)).trans hS5c.2.1, (hO _ (by omega)).trans hS5c.2.2⟩) (fun hS6s => ?_)
        clear hK K
        refine wpAnyH_ready (rs := [7]) (by kernel_rfl) (by simp) ?_
        refine AllReadyH.cons rfl (fun K hK => ?_) AllReadyH.nil
        refine step_store_row rfl 84 (.tmp 8) (.tmp 12) rfl #[.int .i64 0, .int .i64 0, .int .i64 0, .int .i64 0, .int .i64 0, .int .i64 0] #[.int .i64 b0, .int .i64 b1, .int .i64 b2, .int .i64 b3, .int .i64 b4, .int .i64 b5] _ 84 hr6_3 rfl (by first | rfl | (go_simp; done) | (go_simp; rfl)) (by kernel_rfl) rfl (by simp [Value.oneCell']) ?_
        have hN := setRow_heap _ (y1.heap.size) _ #[.int .i64 b0, .int .i64 b1, .int .i64 b2, .int .i64 b3, .int .i64 b4, .int .i64 b5] _ _ hr6_3
        have hsz := HU6.out.size
        have HUx := below_setRow (g := y1.heap.size) HU6.out (by first | omega | (simp at *; omega)) #[.int .i64 b0, .int .i64 b1, .int .i64 b2, .int .i64 b3, .int .i64 b4, .int .i64 b5]
        obtain ⟨y7, hy7⟩ : ∃ y, y6.setRow (y1.heap.size) #[.int .i64 b0, .int .i64 b1, .int .i64 b2, .int .i64 b3, .int .i64 b4, .int .i64 b5] = y := ⟨_, rfl⟩
        have hO : ∀ k, k ≠ y1.heap.size → y7.heap[k]? = y6.heap[k]? := fun k hk => by rw [← hy7]; exact setRow_other _ _ _ _ hk
        rw [hy7] at hN HUx ⊢
        clear hy7
        have HU7 := Lib.hid HUx
        clear HUx
        have hr7_0 := (hO _ (by omega)).trans hr6_0
        have hr7_1 := (hO _ (by omega)).trans hr6_1
        have hr7_2 := (hO _ (by omega)).trans hr6_2
        have hr7_3 := hN
        have hr7_4 := (hO _ (by omega)).trans hr6_4
        clear hN
        refine hK.out _ _ (⟨(hO _ (by omega)).trans hS6s.1, (hO _ (by omega)).trans hS6s.2.1, (hO _ (by omega)).trans hS6s.2.2⟩) (fun hS7s => ?_)
        clear hK K
        refine wpAnyH_done (by kernel_rfl) ?_ _
        go_wp2_with fail
        go_meet
        exact ⟨_, _, rfl, rfl, hr7_4, hr7_3, hr7_0, hr7_1, hr7_2, HU7⟩
  case rest =>
    obtain ⟨g, h, rfl, rfl, hr5_3, hr5_4, hr5_0, hr5_1, hr5_2, HU5⟩ := hcut
    rename World => y5
    cases h1 : has6 a0 a1 a2 a3 a4 a5 b0 b1 b2
    · skip
      go_wp2_with fail
      dsimp only [List.append]
      refine wp_region_held_drew (S := fun y => y.heap[w.heap.size]? = some (.cells #[.int .i64 a0, .int .i64 a1, .int .i64 a2, .int .i64 a3, .int .i64 a4, .int .i64 a5] 82 (0, 0)) ∧ y.heap[w.heap.size + 1]? = some (.cells #[.int .i64 b0, .int .i64 b1, .int .i64 b2, .int .i64 b3, .int .i64 b4, .int .i64 b5] 82 (0, 0)) ∧ y.heap[w.heap.size + 1 + 1]? = some (.cells #[.int .i64 px, .int .i64 py, .int .i64 pz] 60 (0, 0)) ∧ y.heap[g]? = some (.cells #[.int .i64 a0, .int .i64 a1, .int .i64 a2, .int .i64 a3, .int .i64 a4, .int .i64 a5] 84 (0, 0)) ∧ y.heap[h]? = some (.cells #[.int .i64 b0, .int .i64 b1, .int .i64 b2, .int .i64 b3, .int .i64 b4, .int .i64 b5] 84 (0, 0))) (by kernel_rfl) (⟨hr5_0, hr5_1, hr5_2, hr5_3, hr5_4⟩) (fun hS0 => ?_)
      obtain ⟨y6, hy6⟩ : ∃ y, y5.drew = y := ⟨_, rfl⟩
      have HU6 := Lib.hid (show Below w.heap.size w y6 by rw [← hy6]; exact HU5.out.drew)
      have hr6_0 : y6.heap[w.heap.size]? = some (.cells #[.int .i64 a0, .int .i64 a1, .int .i64 a2, .int .i64 a3, .int .i64 a4, .int .i64 a5] 82 (0, 0)) := by rw [← hy6]; exact hr5_0
      have hr6_1 : y6.heap[w.heap.size + 1]? = some (.cells #[.int .i64 b0, .int .i64 b1, .int .i64 b2, .int .i64 b3, .int .i64 b4, .int .i64 b5] 82 (0, 0)) := by rw [← hy6]; exact hr5_1
      have hr6_2 : y6.heap[w.heap.size + 1 + 1]? = some (.cells #[.int .i64 px, .int .i64 py, .int .i64 pz] 60 (0, 0)) := by rw [← hy6]; exact hr5_2
      have hr6_3 : y6.heap[g]? = some (.cells #[.int .i64 a0, .int .i64 a1, .int .i64 a2, .int .i64 a3, .int .i64 a4, .int .i64 a5] 84 (0, 0)) := by rw [← hy6]; exact hr5_3
      have hr6_4 : y6.heap[h]? = some (.cells #[.int .i64 b0, .int .i64 b1, .int .i64 b2, .int .i64 b3, .int .i64 b4, .int .i64 b5] 84 (0, 0)) := by rw [← hy6]; exact hr5_4
      rw [hy6] at hS0 ⊢
      clear hy6
      refine wpAnyH_ready (rs := [0]) (by kernel_rfl) (by simp) ?_
      refine AllReadyH.cons rfl (fun K hK => ?_) AllReadyH.nil
      go_simp
      go_wp2_with (go_at_call 24; refine (awake_any _).mono ?_; rintro e y7 ⟨rfl, hb7⟩)
      have hr7_0 := (hb7.block _ (lt_heap hr6_0)).trans hr6_0
      have hr7_1 := (hb7.block _ (lt_heap hr6_1)).trans hr6_1
      have hr7_2 := (hb7.block _ (lt_heap hr6_2)).trans hr6_2
      have hr7_3 := (hb7.block _ (lt_heap hr6_3)).trans hr6_3
      have hr7_4 := (hb7.block _ (lt_heap hr6_4)).trans hr6_4
      have HU7 := Lib.hid (HU6.out.trans (hb7.mono HU6.out.size))
      refine hK.out _ _ (⟨(hb7.block _ (lt_heap hS0.1)).trans hS0.1, (hb7.block _ (lt_heap hS0.2.1)).trans hS0.2.1, (hb7.block _ (lt_heap hS0.2.2.1)).trans hS0.2.2.1, (hb7.block _ (lt_heap hS0.2.2.2.1)).trans hS0.2.2.2.1, (hb7.block _ (lt_heap hS0.2.2.2.2)).trans hS0.2.2.2.2⟩) (fun hS7c => ?_)
      clear hK K
      refine wpAnyH_take (i := 1) (v := ?_) rfl (by kernel_rfl) (by kernel_rfl) (by kernel_rfl) (fun _ _ _ h => h) (Or.inl ⟨by kernel_rfl, by (intro wz hSz; go_simp; try with_reducible rfl)⟩) hS7c ?_
      go_simp
      refine wpAnyH_take (i := 2) (v := ?_) rfl (by kernel_rfl) (by kernel_rfl) (by kernel_rfl) (fun _ _ _ h => h) (Or.inl ⟨by kernel_rfl, by (intro wz hSz; have c0_0 := cell_of_row _ _ 0 _ _ _ hSz.1; have c0_1 := cell_of_row _ _ 1 _ _ _ hSz.1; have c0_2 := cell_of_row _ _ 2 _ _ _ hSz.1; have c0_3 := cell_of_row _ _ 3 _ _ _ hSz.1; have c0_4 := cell_of_row _ _ 4 _ _ _ hSz.1; have c0_5 := cell_of_row _ _ 5 _ _ _ hSz.1; have c1_0 := cell_of_row _ _ 0 _ _ _ hSz.2.1; have c1_1 := cell_of_row _ _ 1 _ _ _ hSz.2.1; have c1_2 := cell_of_row _ _ 2 _ _ _ hSz.2.1; have c1_3 := cell_of_row _ _ 3 _ _ _ hSz.2.1; have c1_4 := cell_of_row _ _ 4 _ _ _ hSz.2.1; have c1_5 := cell_of_row _ _ 5 _ _ _ hSz.2.1; have c2_0 := cell_of_row _ _ 0 _ _ _ hSz.2.2.1; have c2_1 := cell_of_row _ _ 1 _ _ _ hSz.2.2.1; have c2_2 := cell_of_row _ _ 2 _ _ _ hSz.2.2.1; have c3_0 := cell_of_row _ _ 0 _ _ _ hSz.2.2.2.1; have c3_1 := cell_of_row _ _ 1 _ _ _ hSz.2.2.2.1; have c3_2 := cell_of_row _ _ 2 _ _ _ hSz.2.2.2.1; have c3_3 := cell_of_row _ _ 3 _ _ _ hSz.2.2.2.1; have c3_4 := cell_of_row _ _ 4 _ _ _ hSz.2.2.2.1; have c3_5 := cell_of_row _ _ 5 _ _ _ hSz.2.2.2.1; have c4_0 := cell_of_row _ _ 0 _ _ _ hSz.2.2.2.2; have c4_1 := cell_of_row _ _ 1 _ _ _ hSz.2.2.2.2; have c4_2 := cell_of_row _ _ 2 _ _ _ hSz.2.2.2.2; have c4_3 := cell_of_row _ _ 3 _ _ _ hSz.2.2.2.2; have c4_4 := cell_of_row _ _ 4 _ _ _ hSz.2.2.2.2; have c4_5 := cell_of_row _ _ 5 _ _ _ hSz.2.2.2.2; simp at c0_0 c0_1 c0_2 c0_3 c0_4 c0_5 c1_0 c1_1 c1_2 c1_3 c1_4 c1_5 c2_0 c2_1 c2_2 c3_0 c3_1 c3_2 c3_3 c3_4 c3_5 c4_0 c4_1 c4_2 c4_3 c4_4 c4_5; go_simp; try with_reducible rfl)⟩) hS7c ?_
      go_simp
      refine wpAnyH_take (i := 3) (v := ?_) rfl (by kernel_rfl) (by kernel_rfl) (by kernel_rfl) (fun _ _ _ h => h) (Or.inl ⟨by kernel_rfl, by (intro wz hSz; have c0_0 := cell_of_row _ _ 0 _ _ _ hSz.1; have c0_1 := cell_of_row _ _ 1 _ _ _ hSz.1; have c0_2 := cell_of_row _ _ 2 _ _ _ hSz.1; have c0_3 := cell_of_row _ _ 3 _ _ _ hSz.1; have c0_4 := cell_of_row _ _ 4 _ _ _ hSz.1; have c0_5 := cell_of_row _ _ 5 _ _ _ hSz.1; have c1_0 := cell_of_row _ _ 0 _ _ _ hSz.2.1; have c1_1 := cell_of_row _ _ 1 _ _ _ hSz.2.1; have c1_2 := cell_of_row _ _ 2 _ _ _ hSz.2.1; have c1_3 := cell_of_row _ _ 3 _ _ _ hSz.2.1; have c1_4 := cell_of_row _ _ 4 _ _ _ hSz.2.1; have c1_5 := cell_of_row _ _ 5 _ _ _ hSz.2.1; have c2_0 := cell_of_row _ _ 0 _ _ _ hSz.2.2.1; have c2_1 := cell_of_row _ _ 1 _ _ _ hSz.2.2.1; have c2_2 := cell_of_row _ _ 2 _ _ _ hSz.2.2.1; have c3_0 := cell_of_row _ _ 0 _ _ _ hSz.2.2.2.1; have c3_1 := cell_of_row _ _ 1 _ _ _ hSz.2.2.2.1; have c3_2 := cell_of_row _ _ 2 _ _ _ hSz.2.2.2.1; have c3_3 := cell_of_row _ _ 3 _ _ _ hSz.2.2.2.1; have c3_4 := cell_of_row _ _ 4 _ _ _ hSz.2.2.2.1; have c3_5 := cell_of_row _ _ 5 _ _ _ hSz.2.2.2.1; have c4_0 := cell_of_row _ _ 0 _ _ _ hSz.2.2.2.2; have c4_1 := cell_of_row _ _ 1 _ _ _ hSz.2.2.2.2; have c4_2 := cell_of_row _ _ 2 _ _ _ hSz.2.2.2.2; have c4_3 := cell_of_row _ _ 3 _ _ _ hSz.2.2.2.2; have c4_4 := cell_of_row _ _ 4 _ _ _ hSz.2.2.2.2; have c4_5 := cell_of_row _ _ 5 _ _ _ hSz.2.2.2.2; simp at c0_0 c0_1 c0_2 c0_3 c0_4 c0_5 c1_0 c1_1 c1_2 c1_3 c1_4 c1_5 c2_0 c2_1 c2_2 c3_0 c3_1 c3_2 c3_3 c3_4 c3_5 c4_0 c4_1 c4_2 c4_3 c4_4 c4_5; go_simp; try with_reducible rfl)⟩) hS7c ?_
      go_simp
      refine wpAnyH_take (i := 6) (v := ?_) rfl (by kernel_rfl) (by kernel_rfl) (by kernel_rfl) (fun _ _ _ h => h) (Or.inl ⟨by kernel_rfl, by (intro wz hSz; have c0_0 := cell_of_row _ _ 0 _ _ _ hSz.1; have c0_1 := cell_of_row _ _ 1 _ _ _ hSz.1; have c0_2 := cell_of_row _ _ 2 _ _ _ hSz.1; have c0_3 := cell_of_row _ _ 3 _ _ _ hSz.1; have c0_4 := cell_of_row _ _ 4 _ _ _ hSz.1; have c0_5 := cell_of_row _ _ 5 _ _ _ hSz.1; have c1_0 := cell_of_row _ _ 0 _ _ _ hSz.2.1; have c1_1 := cell_of_row _ _ 1 _ _ _ hSz.2.1; have c1_2 := cell_of_row _ _ 2 _ _ _ hSz.2.1; have c1_3 := cell_of_row _ _ 3 _ _ _ hSz.2.1; have c1_4 := cell_of_row _ _ 4 _ _ _ hSz.2.1; have c1_5 := cell_of_row _ _ 5 _ _ _ hSz.2.1; have c2_0 := cell_of_row _ _ 0 _ _ _ hSz.2.2.1; have c2_1 := cell_of_row _ _ 1 _ _ _ hSz.2.2.1; have c2_2 := cell_of_row _ _ 2 _ _ _ hSz.2.2.1; have c3_0 := cell_of_row _ _ 0 _ _ _ hSz.2.2.2.1; have c3_1 := cell_of_row _ _ 1 _ _ _ hSz.2.2.2.1; have c3_2 := cell_of_row _ _ 2 _ _ _ hSz.2.2.2.1; have c3_3 := cell_of_row _ _ 3 _ _ _ hSz.2.2.2.1; have c3_4 := cell_of_row _ _ 4 _ _ _ hSz.2.2.2.1; have c3_5 := cell_of_row _ _ 5 _ _ _ hSz.2.2.2.1; have c4_0 := cell_of_row _ _ 0 _ _ _ hSz.2.2.2.2; have c4_1 := cell_of_row _ _ 1 _ _ _ hSz.2.2.2.2; have c4_2 := cell_of_row _ _ 2 _ _ _ hSz.2.2.2.2; have c4_3 := cell_of_row _ _ 3 _ _ _ hSz.2.2.2.2; have c4_4 := cell_of_row _ _ 4 _ _ _ hSz.2.2.2.2; have c4_5 := cell_of_row _ _ 5 _ _ _ hSz.2.2.2.2; simp at c0_0 c0_1 c0_2 c0_3 c0_4 c0_5 c1_0 c1_1 c1_2 c1_3 c1_4 c1_5 c2_0 c2_1 c2_2 c3_0 c3_1 c3_2 c3_3 c3_4 c3_5 c4_0 c4_1 c4_2 c4_3 c4_4 c4_5; go_simp; try with_reducible rfl)⟩) hS7c ?_
      go_simp
      refine wpAnyH_take (i := 7) (v := ?_) rfl (by kernel_rfl) (by kernel_rfl) (by kernel_rfl) (fun _ _ _ h => h) (Or.inl ⟨by kernel_rfl, by (intro wz hSz; have c0_0 := cell_of_row _ _ 0 _ _ _ hSz.1; have c0_1 := cell_of_row _ _ 1 _ _ _ hSz.1; have c0_2 := cell_of_row _ _ 2 _ _ _ hSz.1; have c0_3 := cell_of_row _ _ 3 _ _ _ hSz.1; have c0_4 := cell_of_row _ _ 4 _ _ _ hSz.1; have c0_5 := cell_of_row _ _ 5 _ _ _ hSz.1; have c1_0 := cell_of_row _ _ 0 _ _ _ hSz.2.1; have c1_1 := cell_of_row _ _ 1 _ _ _ hSz.2.1; have c1_2 := cell_of_row _ _ 2 _ _ _ hSz.2.1; have c1_3 := cell_of_row _ _ 3 _ _ _ hSz.2.1; have c1_4 := cell_of_row _ _ 4 _ _ _ hSz.2.1; have c1_5 := cell_of_row _ _ 5 _ _ _ hSz.2.1; have c2_0 := cell_of_row _ _ 0 _ _ _ hSz.2.2.1; have c2_1 := cell_of_row _ _ 1 _ _ _ hSz.2.2.1; have c2_2 := cell_of_row _ _ 2 _ _ _ hSz.2.2.1; have c3_0 := cell_of_row _ _ 0 _ _ _ hSz.2.2.2.1; have c3_1 := cell_of_row _ _ 1 _ _ _ hSz.2.2.2.1; have c3_2 := cell_of_row _ _ 2 _ _ _ hSz.2.2.2.1; have c3_3 := cell_of_row _ _ 3 _ _ _ hSz.2.2.2.1; have c3_4 := cell_of_row _ _ 4 _ _ _ hSz.2.2.2.1; have c3_5 := cell_of_row _ _ 5 _ _ _ hSz.2.2.2.1; have c4_0 := cell_of_row _ _ 0 _ _ _ hSz.2.2.2.2; have c4_1 := cell_of_row _ _ 1 _ _ _ hSz.2.2.2.2; have c4_2 := cell_of_row _ _ 2 _ _ _ hSz.2.2.2.2; have c4_3 := cell_of_row _ _ 3 _ _ _ hSz.2.2.2.2; have c4_4 := cell_of_row _ _ 4 _ _ _ hSz.2.2.2.2; have c4_5 := cell_of_row _ _ 5 _ _ _ hSz.2.2.2.2; simp at c0_0 c0_1 c0_2 c0_3 c0_4 c0_5 c1_0 c1_1 c1_2 c1_3 c1_4 c1_5 c2_0 c2_1 c2_2 c3_0 c3_1 c3_2 c3_3 c3_4 c3_5 c4_0 c4_1 c4_2 c4_3 c4_4 c4_5; go_simp; try with_reducible rfl)⟩) hS7c ?_
      go_simp
      refine wpAnyH_ready (rs := [4]) (by kernel_rfl) (by simp) ?_
      refine AllReadyH.cons rfl (fun K hK => ?_) AllReadyH.nil
      go_simp
      go_wp2_with (go_at_call 25; refine (to_any _ _ _ _).mono ?_; rintro e y8 ⟨rfl, hb8⟩)
      have hr8_0 := (hb8.block _ (lt_heap hr7_0)).trans hr7_0
      have hr8_1 := (hb8.block _ (lt_heap hr7_1)).trans hr7_1
      have hr8_2 := (hb8.block _ (lt_heap hr7_2)).trans hr7_2
      have hr8_3 := (hb8.block _ (lt_heap hr7_3)).trans hr7_3
      have hr8_4 := (hb8.block _ (lt_heap hr7_4)).trans hr7_4
      have HU8 := Lib.hid (HU7.out.trans (hb8.mono HU7.out.size))
      refine hK.out _ _ (⟨(hb8.block _ (lt_heap hS7c.1)).trans hS7c.1, (hb8.block _ (lt_heap hS7c.2.1)).trans hS7c.2.1, (hb8.block _ (lt_heap hS7c.2.2.1)).trans hS7c.2.2.1, (hb8.block _ (lt_heap hS7c.2.2.2.1)).trans hS7c.2.2.2.1, (hb8.block _ (lt_heap hS7c.2.2.2.2)).trans hS7c.2.2.2.2⟩) (fun hS8c => ?_)
      clear hK K
      refine wpAnyH_ready (rs := [5]) (by kernel_rfl) (by simp) ?_
      refine AllReadyH.cons rfl (fun K hK => ?_) AllReadyH.nil
      go_simp
      go_wp2_with (go_at_call 34; refine (bhas_any _ _ _ _ _ _ _ _ _ _).mono ?_; rintro e y9 ⟨rfl, hb9⟩)
      have hr9_0 := (hb9.block _ (lt_heap hr8_0)).trans hr8_0
      have hr9_1 := (hb9.block _ (lt_heap hr8_1)).trans hr8_1
      have hr9_2 := (hb9.block _ (lt_heap hr8_2)).trans hr8_2
      have hr9_3 := (hb9.block _ (lt_heap hr8_3)).trans hr8_3
      have hr9_4 := (hb9.block _ (lt_heap hr8_4)).trans hr8_4
      have HU9 := Lib.hid (HU8.out.trans (hb9.mono HU8.out.size))
      refine hK.out _ _ (⟨(hb9.block _ (lt_heap hS8c.1)).trans hS8c.1, (hb9.block _ (lt_heap hS8c.2.1)).trans hS8c.2.1, (hb9.block _ (lt_heap hS8c.2.2.1)).trans hS8c.2.2.1, (hb9.block _ (lt_heap hS8c.2.2.2.1)).trans hS8c.2.2.2.1, (hb9.block _ (lt_heap hS8c.2.2.2.2)).trans hS8c.2.2.2.2⟩) (fun hS9c => ?_)
      clear hK K
      refine wpAnyH_ready (rs := [8]) (by kernel_rfl) (by simp) ?_
      refine AllReadyH.cons rfl (fun K hK => ?_) AllReadyH.nil
      go_simp
      go_wp2_with (go_at_call 35; refine (rhas_any _ _ _ _ _ _ _ _ _ _).mono ?_; rintro e y10 ⟨rfl, hb10⟩)
      have hr10_0 := (hb10.block _ (lt_heap hr9_0)).trans hr9_0
      have hr10_1 := (hb10.block _ (lt_heap hr9_1)).trans hr9_1
      have hr10_2 := (hb10.block _ (lt_heap hr9_2)).trans hr9_2
      have hr10_3 := (hb10.block _ (lt_heap hr9_3)).trans hr9_3
      have hr10_4 := (hb10.block _ (lt_heap hr9_4)).trans hr9_4
      have HU10 := Lib.hid (HU9.out.trans (hb10.mono HU9.out.size))
      refine hK.out _ _ (⟨(hb10.block _ (lt_heap hS9c.1)).trans hS9c.1, (hb10.block _ (lt_heap hS9c.2.1)).trans hS9c.2.1, (hb10.block _ (lt_heap hS9c.2.2.1)).trans hS9c.2.2.1, (hb10.block _ (lt_heap hS9c.2.2.2.1)).trans hS9c.2.2.2.1, (hb10.block _ (lt_heap hS9c.2.2.2.2)).trans hS9c.2.2.2.2⟩) (fun hS10c => ?_)
      clear hK K
      refine wpAnyH_take (i := 9) (v := ?_) rfl (by kernel_rfl) (by kernel_rfl) (by kernel_rfl) (fun _ _ _ h => h) (Or.inl ⟨by kernel_rfl, by (intro wz hSz; go_simp; try with_reducible rfl)⟩) hS10c ?_
      go_simp
      refine wpAnyH_take (i := 10) (v := ?_) rfl (by kernel_rfl) (by kernel_rfl) (by kernel_rfl) (fun _ _ _ h => h) (Or.inl ⟨by kernel_rfl, by (intro wz hSz; go_simp; try with_reducible rfl)⟩) hS10c ?_
      go_simp
      refine wpAnyH_take (i := 11) (v := ?_) rfl (by kernel_rfl) (by kernel_rfl) (by kernel_rfl) (fun _ _ _ h => h) (Or.inl ⟨by kernel_rfl, by (intro wz hSz; go_simp; try with_reducible rfl)⟩) hS10c ?_
      go_simp
      refine wpAnyH_take (i := 12) (v := ?_) rfl (by kernel_rfl) (by kernel_rfl) (by kernel_rfl) (fun _ _ _ h => h) (Or.inl ⟨by kernel_rfl, by (intro wz hSz; have c0_0 := cell_of_row _ _ 0 _ _ _ hSz.1; have c0_1 := cell_of_row _ _ 1 _ _ _ hSz.1; have c0_2 := cell_of_row _ _ 2 _ _ _ hSz.1; have c0_3 := cell_of_row _ _ 3 _ _ _ hSz.1; have c0_4 := cell_of_row _ _ 4 _ _ _ hSz.1; have c0_5 := cell_of_row _ _ 5 _ _ _ hSz.1; have c1_0 := cell_of_row _ _ 0 _ _ _ hSz.2.1; have c1_1 := cell_of_row _ _ 1 _ _ _ hSz.2.1; have c1_2 := cell_of_row _ _ 2 _ _ _ hSz.2.1; have c1_3 := cell_of_row _ _ 3 _ _ _ hSz.2.1; have c1_4 := cell_of_row _ _ 4 _ _ _ hSz.2.1; have c1_5 := cell_of_row _ _ 5 _ _ _ hSz.2.1; have c2_0 := cell_of_row _ _ 0 _ _ _ hSz.2.2.1; have c2_1 := cell_of_row _ _ 1 _ _ _ hSz.2.2.1; have c2_2 := cell_of_row _ _ 2 _ _ _ hSz.2.2.1; have c3_0 := cell_of_row _ _ 0 _ _ _ hSz.2.2.2.1; have c3_1 := cell_of_row _ _ 1 _ _ _ hSz.2.2.2.1; have c3_2 := cell_of_row _ _ 2 _ _ _ hSz.2.2.2.1; have c3_3 := cell_of_row _ _ 3 _ _ _ hSz.2.2.2.1; have c3_4 := cell_of_row _ _ 4 _ _ _ hSz.2.2.2.1; have c3_5 := cell_of_row _ _ 5 _ _ _ hSz.2.2.2.1; have c4_0 := cell_of_row _ _ 0 _ _ _ hSz.2.2.2.2; have c4_1 := cell_of_row _ _ 1 _ _ _ hSz.2.2.2.2; have c4_2 := cell_of_row _ _ 2 _ _ _ hSz.2.2.2.2; have c4_3 := cell_of_row _ _ 3 _ _ _ hSz.2.2.2.2; have c4_4 := cell_of_row _ _ 4 _ _ _ hSz.2.2.2.2; have c4_5 := cell_of_row _ _ 5 _ _ _ hSz.2.2.2.2; simp at c0_0 c0_1 c0_2 c0_3 c0_4 c0_5 c1_0 c1_1 c1_2 c1_3 c1_4 c1_5 c2_0 c2_1 c2_2 c3_0 c3_1 c3_2 c3_3 c3_4 c3_5 c4_0 c4_1 c4_2 c4_3 c4_4 c4_5; go_simp; try with_reducible rfl)⟩) hS10c ?_
      go_simp
      refine wpAnyH_take (i := 13) (v := ?_) rfl (by kernel_rfl) (by kernel_rfl) (by kernel_rfl) (fun _ _ _ h => h) (Or.inl ⟨by kernel_rfl, by (intro wz hSz; have c0_0 := cell_of_row _ _ 0 _ _ _ hSz.1; have c0_1 := cell_of_row _ _ 1 _ _ _ hSz.1; have c0_2 := cell_of_row _ _ 2 _ _ _ hSz.1; have c0_3 := cell_of_row _ _ 3 _ _ _ hSz.1; have c0_4 := cell_of_row _ _ 4 _ _ _ hSz.1; have c0_5 := cell_of_row _ _ 5 _ _ _ hSz.1; have c1_0 := cell_of_row _ _ 0 _ _ _ hSz.2.1; have c1_1 := cell_of_row _ _ 1 _ _ _ hSz.2.1; have c1_2 := cell_of_row _ _ 2 _ _ _ hSz.2.1; have c1_3 := cell_of_row _ _ 3 _ _ _ hSz.2.1; have c1_4 := cell_of_row _ _ 4 _ _ _ hSz.2.1; have c1_5 := cell_of_row _ _ 5 _ _ _ hSz.2.1; have c2_0 := cell_of_row _ _ 0 _ _ _ hSz.2.2.1; have c2_1 := cell_of_row _ _ 1 _ _ _ hSz.2.2.1; have c2_2 := cell_of_row _ _ 2 _ _ _ hSz.2.2.1; have c3_0 := cell_of_row _ _ 0 _ _ _ hSz.2.2.2.1; have c3_1 := cell_of_row _ _ 1 _ _ _ hSz.2.2.2.1; have c3_2 := cell_of_row _ _ 2 _ _ _ hSz.2.2.2.1; have c3_3 := cell_of_row _ _ 3 _ _ _ hSz.2.2.2.1; have c3_4 := cell_of_row _ _ 4 _ _ _ hSz.2.2.2.1; have c3_5 := cell_of_row _ _ 5 _ _ _ hSz.2.2.2.1; have c4_0 := cell_of_row _ _ 0 _ _ _ hSz.2.2.2.2; have c4_1 := cell_of_row _ _ 1 _ _ _ hSz.2.2.2.2; have c4_2 := cell_of_row _ _ 2 _ _ _ hSz.2.2.2.2; have c4_3 := cell_of_row _ _ 3 _ _ _ hSz.2.2.2.2; have c4_4 := cell_of_row _ _ 4 _ _ _ hSz.2.2.2.2; have c4_5 := cell_of_row _ _ 5 _ _ _ hSz.2.2.2.2; simp at c0_0 c0_1 c0_2 c0_3 c0_4 c0_5 c1_0 c1_1 c1_2 c1_3 c1_4 c1_5 c2_0 c2_1 c2_2 c3_0 c3_1 c3_2 c3_3 c3_4 c3_5 c4_0 c4_1 c4_2 c4_3 c4_4 c4_5; go_simp; try with_reducible rfl)⟩) hS10c ?_
      go_simp
      refine wpAnyH_take (i := 15) (v := ?_) rfl (by kernel_rfl) (by kernel_rfl) (by kernel_rfl) (fun _ _ _ h => h) (Or.inl ⟨by kernel_rfl, by (intro wz hSz; have c0_0 := cell_of_row _ _ 0 _ _ _ hSz.1; have c0_1 := cell_of_row _ _ 1 _ _ _ hSz.1; have c0_2 := cell_of_row _ _ 2 _ _ _ hSz.1; have c0_3 := cell_of_row _ _ 3 _ _ _ hSz.1; have c0_4 := cell_of_row _ _ 4 _ _ _ hSz.1; have c0_5 := cell_of_row _ _ 5 _ _ _ hSz.1; have c1_0 := cell_of_row _ _ 0 _ _ _ hSz.2.1; have c1_1 := cell_of_row _ _ 1 _ _ _ hSz.2.1; have c1_2 := cell_of_row _ _ 2 _ _ _ hSz.2.1; have c1_3 := cell_of_row _ _ 3 _ _ _ hSz.2.1; have c1_4 := cell_of_row _ _ 4 _ _ _ hSz.2.1; have c1_5 := cell_of_row _ _ 5 _ _ _ hSz.2.1; have c2_0 := cell_of_row _ _ 0 _ _ _ hSz.2.2.1; have c2_1 := cell_of_row _ _ 1 _ _ _ hSz.2.2.1; have c2_2 := cell_of_row _ _ 2 _ _ _ hSz.2.2.1; have c3_0 := cell_of_row _ _ 0 _ _ _ hSz.2.2.2.1; have c3_1 := cell_of_row _ _ 1 _ _ _ hSz.2.2.2.1; have c3_2 := cell_of_row _ _ 2 _ _ _ hSz.2.2.2.1; have c3_3 := cell_of_row _ _ 3 _ _ _ hSz.2.2.2.1; have c3_4 := cell_of_row _ _ 4 _ _ _ hSz.2.2.2.1; have c3_5 := cell_of_row _ _ 5 _ _ _ hSz.2.2.2.1; have c4_0 := cell_of_row _ _ 0 _ _ _ hSz.2.2.2.2; have c4_1 := cell_of_row _ _ 1 _ _ _ hSz.2.2.2.2; have c4_2 := cell_of_row _ _ 2 _ _ _ hSz.2.2.2.2; have c4_3 := cell_of_row _ _ 3 _ _ _ hSz.2.2.2.2; have c4_4 := cell_of_row _ _ 4 _ _ _ hSz.2.2.2.2; have c4_5 := cell_of_row _ _ 5 _ _ _ hSz.2.2.2.2; simp at c0_0 c0_1 c0_2 c0_3 c0_4 c0_5 c1_0 c1_1 c1_2 c1_3 c1_4 c1_5 c2_0 c2_1 c2_2 c3_0 c3_1 c3_2 c3_3 c3_4 c3_5 c4_0 c4_1 c4_2 c4_3 c4_4 c4_5; go_simp; try with_reducible rfl)⟩) hS10c ?_
      go_simp
      refine wpAnyH_take (i := 16) (v := ?_) rfl (by kernel_rfl) (by kernel_rfl) (by kernel_rfl) (fun _ _ _ h => h) (Or.inl ⟨by kernel_rfl, by (intro wz hSz; go_simp; try with_reducible rfl)⟩) hS10c ?_
      go_simp
      refine wpAnyH_take (i := 17) (v := ?_) rfl (by kernel_rfl) (by kernel_rfl) (by kernel_rfl) (fun _ _ _ h => h) (Or.inl ⟨by kernel_rfl, by (intro wz hSz; have c0_0 := cell_of_row _ _ 0 _ _ _ hSz.1; have c0_1 := cell_of_row _ _ 1 _ _ _ hSz.1; have c0_2 := cell_of_row _ _ 2 _ _ _ hSz.1; have c0_3 := cell_of_row _ _ 3 _ _ _ hSz.1; have c0_4 := cell_of_row _ _ 4 _ _ _ hSz.1; have c0_5 := cell_of_row _ _ 5 _ _ _ hSz.1; have c1_0 := cell_of_row _ _ 0 _ _ _ hSz.2.1; have c1_1 := cell_of_row _ _ 1 _ _ _ hSz.2.1; have c1_2 := cell_of_row _ _ 2 _ _ _ hSz.2.1; have c1_3 := cell_of_row _ _ 3 _ _ _ hSz.2.1; have c1_4 := cell_of_row _ _ 4 _ _ _ hSz.2.1; have c1_5 := cell_of_row _ _ 5 _ _ _ hSz.2.1; have c2_0 := cell_of_row _ _ 0 _ _ _ hSz.2.2.1; have c2_1 := cell_of_row _ _ 1 _ _ _ hSz.2.2.1; have c2_2 := cell_of_row _ _ 2 _ _ _ hSz.2.2.1; have c3_0 := cell_of_row _ _ 0 _ _ _ hSz.2.2.2.1; have c3_1 := cell_of_row _ _ 1 _ _ _ hSz.2.2.2.1; have c3_2 := cell_of_row _ _ 2 _ _ _ hSz.2.2.2.1; have c3_3 := cell_of_row _ _ 3 _ _ _ hSz.2.2.2.1; have c3_4 := cell_of_row _ _ 4 _ _ _ hSz.2.2.2.1; have c3_5 := cell_of_row _ _ 5 _ _ _ hSz.2.2.2.1; have c4_0 := cell_of_row _ _ 0 _ _ _ hSz.2.2.2.2; have c4_1 := cell_of_row _ _ 1 _ _ _ hSz.2.2.2.2; have c4_2 := cell_of_row _ _ 2 _ _ _ hSz.2.2.2.2; have c4_3 := cell_of_row _ _ 3 _ _ _ hSz.2.2.2.2; have c4_4 := cell_of_row _ _ 4 _ _ _ hSz.2.2.2.2; have c4_5 := cell_of_row _ _ 5 _ _ _ hSz.2.2.2.2; simp at c0_0 c0_1 c0_2 c0_3 c0_4 c0_5 c1_0 c1_1 c1_2 c1_3 c1_4 c1_5 c2_0 c2_1 c2_2 c3_0 c3_1 c3_2 c3_3 c3_4 c3_5 c4_0 c4_1 c4_2 c4_3 c4_4 c4_5; go_simp; try with_reducible rfl)⟩) hS10c ?_
      go_simp
      refine wpAnyH_ready (rs := [14]) (by kernel_rfl) (by simp) ?_
      refine AllReadyH.cons rfl (fun K hK => ?_) AllReadyH.nil
      go_simp
      go_wp2_with (go_at_call 36; refine (bholds_any _ _ _ _ _ _ _ _ _ _ _ _ _).mono ?_; rintro e y11 ⟨rfl, hb11⟩; rw [show holds6 a0 a1 a2 a3 a4 a5 b0 b1 b2 b3 b4 b5 = false by simp [holds6, h1]])
      have hr11_0 := (hb11.block _ (lt_heap hr10_0)).trans hr10_0
      have hr11_1 := (hb11.block _ (lt_heap hr10_1)).trans hr10_1
      have hr11_2 := (hb11.block _ (lt_heap hr10_2)).trans hr10_2
      have hr11_3 := (hb11.block _ (lt_heap hr10_3)).trans hr10_3
      have hr11_4 := (hb11.block _ (lt_heap hr10_4)).trans hr10_4
      have HU11 := Lib.hid (HU10.out.trans (hb11.mono HU10.out.size))
      refine hK.out _ _ (⟨(hb11.block _ (lt_heap hS10c.1)).trans hS10c.1, (hb11.block _ (lt_heap hS10c.2.1)).trans hS10c.2.1, (hb11.block _ (lt_heap hS10c.2.2.1)).trans hS10c.2.2.1, (hb11.block _ (lt_heap hS10c.2.2.2.1)).trans hS10c.2.2.2.1, (hb11.block _ (lt_heap hS10c.2.2.2.2)).trans hS10c.2.2.2.2⟩) (fun hS11c => ?_)
      clear hK K
      refine wpAnyH_ready (rs := [18]) (by kernel_rfl) (by simp) ?_
      refine AllReadyH.cons rfl (fun K hK => ?_) AllReadyH.nil
      go_simp
      go_wp2_with (go_at_call 35; refine (rhas_any _ _ _ _ _ _ _ _ _ _).mono ?_; rintro e y12 ⟨rfl, hb12⟩; rw [h1])
      have hr12_0 := (hb12.block _ (lt_heap hr11_0)).trans hr11_0
      have hr12_1 := (hb12.block _ (lt_heap hr11_1)).trans hr11_1
      have hr12_2 := (hb12.block _ (lt_heap hr11_2)).trans hr11_2
      have hr12_3 := (hb12.block _ (lt_heap hr11_3)).trans hr11_3
      have hr12_4 := (hb12.block _ (lt_heap hr11_4)).trans hr11_4
      have HU12 := Lib.hid (HU11.out.trans (hb12.mono HU11.out.size))
      refine hK.out _ _ (⟨(hb12.block _ (lt_heap hS11c.1)).trans hS11c.1, (hb12.block _ (lt_heap hS11c.2.1)).trans hS11c.2.1, (hb12.block _ (lt_heap hS11c.2.2.1)).trans hS11c.2.2.1, (hb12.block _ (lt_heap hS11c.2.2.2.1)).trans hS11c.2.2.2.1, (hb12.block _ (lt_heap hS11c.2.2.2.2)).trans hS11c.2.2.2.2⟩) (fun hS12c => ?_)
      clear hK K
      refine wpAnyH_take (i := 19) (v := ?_) rfl (by kernel_rfl) (by kernel_rfl) (by kernel_rfl) (fun _ _ _ h => h) (Or.inl ⟨by kernel_rfl, by (intro wz hSz; go_simp; try with_reducible rfl)⟩) hS12c ?_
      go_simp
      refine wpAnyH_take (i := 20) (v := undef) rfl (by kernel_rfl) (by kernel_rfl) (by kernel_rfl) (fun _ _ _ h => h) (Or.inr ⟨by kernel_rfl, rfl⟩) hS12c ?_
      go_simp
      refine wpAnyH_take (i := 21) (v := undef) rfl (by kernel_rfl) (by kernel_rfl) (by kernel_rfl) (fun _ _ _ h => h) (Or.inr ⟨by kernel_rfl, rfl⟩) hS12c ?_
      go_simp
      refine wpAnyH_take (i := 22) (v := undef) rfl (by kernel_rfl) (by kernel_rfl) (by kernel_rfl) (fun _ _ _ h => h) (Or.inr ⟨by kernel_rfl, rfl⟩) hS12c ?_
      go_simp
      refine wpAnyH_take (i := 23) (v := undef) rfl (by kernel_rfl) (by kernel_rfl) (by kernel_rfl) (fun _ _ _ h => h) (Or.inr ⟨by kernel_rfl, rfl⟩) hS12c ?_
      go_simp
      refine wpAnyH_take (i := 24) (v := ?_) rfl (by kernel_rfl) (by kernel_rfl) (by kernel_rfl) (fun _ _ _ h => h) (Or.inl ⟨by kernel_rfl, by (intro wz hSz; go_simp; try with_reducible rfl)⟩) hS12c ?_
      go_simp
      refine wpAnyH_take (i := 25) (v := ?_) rfl (by kernel_rfl) (by kernel_rfl) (by kernel_rfl) (fun _ _ _ h => h) (Or.inl ⟨by kernel_rfl, by (intro wz hSz; go_simp; try with_reducible rfl)⟩) hS12c ?_
      go_simp
      refine wpAnyH_take (i := 26) (v := ?_) rfl (by kernel_rfl) (by kernel_rfl) (by kernel_rfl) (fun _ _ _ h => h) (Or.inl ⟨by kernel_rfl, by (intro wz hSz; go_simp; try with_reducible rfl)⟩) hS12c ?_
      go_simp
      refine wpAnyH_take (i := 27) (v := ?_) rfl (by kernel_rfl) (by kernel_rfl) (by kernel_rfl) (fun _ _ _ h => h) (Or.inl ⟨by kernel_rfl, by (intro wz hSz; go_simp; try with_reducible rfl)⟩) hS12c ?_
      go_simp
      refine wpAnyH_take (i := 28) (v := ?_) rfl (by kernel_rfl) (by kernel_rfl) (by kernel_rfl) (fun _ _ _ h => h) (Or.inl ⟨by kernel_rfl, by (intro wz hSz; have c0_0 := cell_of_row _ _ 0 _ _ _ hSz.1; have c0_1 := cell_of_row _ _ 1 _ _ _ hSz.1; have c0_2 := cell_of_row _ _ 2 _ _ _ hSz.1; have c0_3 := cell_of_row _ _ 3 _ _ _ hSz.1; have c0_4 := cell_of_row _ _ 4 _ _ _ hSz.1; have c0_5 := cell_of_row _ _ 5 _ _ _ hSz.1; have c1_0 := cell_of_row _ _ 0 _ _ _ hSz.2.1; have c1_1 := cell_of_row _ _ 1 _ _ _ hSz.2.1; have c1_2 := cell_of_row _ _ 2 _ _ _ hSz.2.1; have c1_3 := cell_of_row _ _ 3 _ _ _ hSz.2.1; have c1_4 := cell_of_row _ _ 4 _ _ _ hSz.2.1; have c1_5 := cell_of_row _ _ 5 _ _ _ hSz.2.1; have c2_0 := cell_of_row _ _ 0 _ _ _ hSz.2.2.1; have c2_1 := cell_of_row _ _ 1 _ _ _ hSz.2.2.1; have c2_2 := cell_of_row _ _ 2 _ _ _ hSz.2.2.1; have c3_0 := cell_of_row _ _ 0 _ _ _ hSz.2.2.2.1; have c3_1 := cell_of_row _ _ 1 _ _ _ hSz.2.2.2.1; have c3_2 := cell_of_row _ _ 2 _ _ _ hSz.2.2.2.1; have c3_3 := cell_of_row _ _ 3 _ _ _ hSz.2.2.2.1; have c3_4 := cell_of_row _ _ 4 _ _ _ hSz.2.2.2.1; have c3_5 := cell_of_row _ _ 5 _ _ _ hSz.2.2.2.1; have c4_0 := cell_of_row _ _ 0 _ _ _ hSz.2.2.2.2; have c4_1 := cell_of_row _ _ 1 _ _ _ hSz.2.2.2.2; have c4_2 := cell_of_row _ _ 2 _ _ _ hSz.2.2.2.2; have c4_3 := cell_of_row _ _ 3 _ _ _ hSz.2.2.2.2; have c4_4 := cell_of_row _ _ 4 _ _ _ hSz.2.2.2.2; have c4_5 := cell_of_row _ _ 5 _ _ _ hSz.2.2.2.2; simp at c0_0 c0_1 c0_2 c0_3 c0_4 c0_5 c1_0 c1_1 c1_2 c1_3 c1_4 c1_5 c2_0 c2_1 c2_2 c3_0 c3_1 c3_2 c3_3 c3_4 c3_5 c4_0 c4_1 c4_2 c4_3 c4_4 c4_5; go_simp; try with_reducible rfl)⟩) hS12c ?_
      go_simp
      refine wpAnyH_take (i := 29) (v := ?_) rfl (by kernel_rfl) (by kernel_rfl) (by kernel_rfl) (fun _ _ _ h => h) (Or.inl ⟨by kernel_rfl, by (intro wz hSz; have c0_0 := cell_of_row _ _ 0 _ _ _ hSz.1; have c0_1 := cell_of_row _ _ 1 _ _ _ hSz.1; have c0_2 := cell_of_row _ _ 2 _ _ _ hSz.1; have c0_3 := cell_of_row _ _ 3 _ _ _ hSz.1; have c0_4 := cell_of_row _ _ 4 _ _ _ hSz.1; have c0_5 := cell_of_row _ _ 5 _ _ _ hSz.1; have c1_0 := cell_of_row _ _ 0 _ _ _ hSz.2.1; have c1_1 := cell_of_row _ _ 1 _ _ _ hSz.2.1; have c1_2 := cell_of_row _ _ 2 _ _ _ hSz.2.1; have c1_3 := cell_of_row _ _ 3 _ _ _ hSz.2.1; have c1_4 := cell_of_row _ _ 4 _ _ _ hSz.2.1; have c1_5 := cell_of_row _ _ 5 _ _ _ hSz.2.1; have c2_0 := cell_of_row _ _ 0 _ _ _ hSz.2.2.1; have c2_1 := cell_of_row _ _ 1 _ _ _ hSz.2.2.1; have c2_2 := cell_of_row _ _ 2 _ _ _ hSz.2.2.1; have c3_0 := cell_of_row _ _ 0 _ _ _ hSz.2.2.2.1; have c3_1 := cell_of_row _ _ 1 _ _ _ hSz.2.2.2.1; have c3_2 := cell_of_row _ _ 2 _ _ _ hSz.2.2.2.1; have c3_3 := cell_of_row _ _ 3 _ _ _ hSz.2.2.2.1; have c3_4 := cell_of_row _ _ 4 _ _ _ hSz.2.2.2.1; have c3_5 := cell_of_row _ _ 5 _ _ _ hSz.2.2.2.1; have c4_0 := cell_of_row _ _ 0 _ _ _ hSz.2.2.2.2; have c4_1 := cell_of_row _ _ 1 _ _ _ hSz.2.2.2.2; have c4_2 := cell_of_row _ _ 2 _ _ _ hSz.2.2.2.2; have c4_3 := cell_of_row _ _ 3 _ _ _ hSz.2.2.2.2; have c4_4 := cell_of_row _ _ 4 _ _ _ hSz.2.2.2.2; have c4_5 := cell_of_row _ _ 5 _ _ _ hSz.2.2.2.2; simp at c0_0 c0_1 c0_2 c0_3 c0_4 c0_5 c1_0 c1_1 c1_2 c1_3 c1_4 c1_5 c2_0 c2_1 c2_2 c3_0 c3_1 c3_2 c3_3 c3_4 c3_5 c4_0 c4_1 c4_2 c4_3 c4_4 c4_5; go_simp; try with_reducible rfl)⟩) hS12c ?_
      go_simp
      refine wpAnyH_take (i := 31) (v := ?_) rfl (by kernel_rfl) (by kernel_rfl) (by kernel_rfl) (fun _ _ _ h => h) (Or.inl ⟨by kernel_rfl, by (intro wz hSz; have c0_0 := cell_of_row _ _ 0 _ _ _ hSz.1; have c0_1 := cell_of_row _ _ 1 _ _ _ hSz.1; have c0_2 := cell_of_row _ _ 2 _ _ _ hSz.1; have c0_3 := cell_of_row _ _ 3 _ _ _ hSz.1; have c0_4 := cell_of_row _ _ 4 _ _ _ hSz.1; have c0_5 := cell_of_row _ _ 5 _ _ _ hSz.1; have c1_0 := cell_of_row _ _ 0 _ _ _ hSz.2.1; have c1_1 := cell_of_row _ _ 1 _ _ _ hSz.2.1; have c1_2 := cell_of_row _ _ 2 _ _ _ hSz.2.1; have c1_3 := cell_of_row _ _ 3 _ _ _ hSz.2.1; have c1_4 := cell_of_row _ _ 4 _ _ _ hSz.2.1; have c1_5 := cell_of_row _ _ 5 _ _ _ hSz.2.1; have c2_0 := cell_of_row _ _ 0 _ _ _ hSz.2.2.1; have c2_1 := cell_of_row _ _ 1 _ _ _ hSz.2.2.1; have c2_2 := cell_of_row _ _ 2 _ _ _ hSz.2.2.1; have c3_0 := cell_of_row _ _ 0 _ _ _ hSz.2.2.2.1; have c3_1 := cell_of_row _ _ 1 _ _ _ hSz.2.2.2.1; have c3_2 := cell_of_row _ _ 2 _ _ _ hSz.2.2.2.1; have c3_3 := cell_of_row _ _ 3 _ _ _ hSz.2.2.2.1; have c3_4 := cell_of_row _ _ 4 _ _ _ hSz.2.2.2.1; have c3_5 := cell_of_row _ _ 5 _ _ _ hSz.2.2.2.1; have c4_0 := cell_of_row _ _ 0 _ _ _ hSz.2.2.2.2; have c4_1 := cell_of_row _ _ 1 _ _ _ hSz.2.2.2.2; have c4_2 := cell_of_row _ _ 2 _ _ _ hSz.2.2.2.2; have c4_3 := cell_of_row _ _ 3 _ _ _ hSz.2.2.2.2; have c4_4 := cell_of_row _ _ 4 _ _ _ hSz.2.2.2.2; have c4_5 := cell_of_row _ _ 5 _ _ _ hSz.2.2.2.2; simp at c0_0 c0_1 c0_2 c0_3 c0_4 c0_5 c1_0 c1_1 c1_2 c1_3 c1_4 c1_5 c2_0 c2_1 c2_2 c3_0 c3_1 c3_2 c3_3 c3_4 c3_5 c4_0 c4_1 c4_2 c4_3 c4_4 c4_5; go_simp; try with_reducible rfl)⟩) hS12c ?_
      go_simp
      refine wpAnyH_take (i := 32) (v := ?_) rfl (by kernel_rfl) (by kernel_rfl) (by kernel_rfl) (fun _ _ _ h => h) (Or.inl ⟨by kernel_rfl, by (intro wz hSz; have c0_0 := cell_of_row _ _ 0 _ _ _ hSz.1; have c0_1 := cell_of_row _ _ 1 _ _ _ hSz.1; have c0_2 := cell_of_row _ _ 2 _ _ _ hSz.1; have c0_3 := cell_of_row _ _ 3 _ _ _ hSz.1; have c0_4 := cell_of_row _ _ 4 _ _ _ hSz.1; have c0_5 := cell_of_row _ _ 5 _ _ _ hSz.1; have c1_0 := cell_of_row _ _ 0 _ _ _ hSz.2.1; have c1_1 := cell_of_row _ _ 1 _ _ _ hSz.2.1; have c1_2 := cell_of_row _ _ 2 _ _ _ hSz.2.1; have c1_3 := cell_of_row _ _ 3 _ _ _ hSz.2.1; have c1_4 := cell_of_row _ _ 4 _ _ _ hSz.2.1; have c1_5 := cell_of_row _ _ 5 _ _ _ hSz.2.1; have c2_0 := cell_of_row _ _ 0 _ _ _ hSz.2.2.1; have c2_1 := cell_of_row _ _ 1 _ _ _ hSz.2.2.1; have c2_2 := cell_of_row _ _ 2 _ _ _ hSz.2.2.1; have c3_0 := cell_of_row _ _ 0 _ _ _ hSz.2.2.2.1; have c3_1 := cell_of_row _ _ 1 _ _ _ hSz.2.2.2.1; have c3_2 := cell_of_row _ _ 2 _ _ _ hSz.2.2.2.1; have c3_3 := cell_of_row _ _ 3 _ _ _ hSz.2.2.2.1; have c3_4 := cell_of_row _ _ 4 _ _ _ hSz.2.2.2.1; have c3_5 := cell_of_row _ _ 5 _ _ _ hSz.2.2.2.1; have c4_0 := cell_of_row _ _ 0 _ _ _ hSz.2.2.2.2; have c4_1 := cell_of_row _ _ 1 _ _ _ hSz.2.2.2.2; have c4_2 := cell_of_row _ _ 2 _ _ _ hSz.2.2.2.2; have c4_3 := cell_of_row _ _ 3 _ _ _ hSz.2.2.2.2; have c4_4 := cell_of_row _ _ 4 _ _ _ hSz.2.2.2.2; have c4_5 := cell_of_row _ _ 5 _ _ _ hSz.2.2.2.2; simp at c0_0 c0_1 c0_2 c0_3 c0_4 c0_5 c1_0 c1_1 c1_2 c1_3 c1_4 c1_5 c2_0 c2_1 c2_2 c3_0 c3_1 c3_2 c3_3 c3_4 c3_5 c4_0 c4_1 c4_2 c4_3 c4_4 c4_5; go_simp; try with_reducible rfl)⟩) hS12c ?_
      go_simp
      refine wpAnyH_ready (rs := [30]) (by kernel_rfl) (by simp) ?_
      refine AllReadyH.cons rfl (fun K hK => ?_) AllReadyH.nil
      go_simp
      go_wp2_with (go_at_call 37; refine (bmeets_any _ _ _ _ _ _ _ _ _ _ _ _ _).mono ?_; rintro e y13 ⟨rfl, hb13⟩)
      have hr13_0 := (hb13.block _ (lt_heap hr12_0)).trans hr12_0
      have hr13_1 := (hb13.block _ (lt_heap hr12_1)).trans hr12_1
      have hr13_2 := (hb13.block _ (lt_heap hr12_2)).trans hr12_2
      have hr13_3 := (hb13.block _ (lt_heap hr12_3)).trans hr12_3
      have hr13_4 := (hb13.block _ (lt_heap hr12_4)).trans hr12_4
      have HU13 := Lib.hid (HU12.out.trans (hb13.mono HU12.out.size))
      refine hK.out _ _ (⟨(hb13.block _ (lt_heap hS12c.1)).trans hS12c.1, (hb13.block _ (lt_heap hS12c.2.1)).trans hS12c.2.1, (hb13.block _ (lt_heap hS12c.2.2.1)).trans hS12c.2.2.1, (hb13.block _ (lt_heap hS12c.2.2.2.1)).trans hS12c.2.2.2.1, (hb13.block _ (lt_heap hS12c.2.2.2.2)).trans hS12c.2.2.2.2⟩) (fun hS13c => ?_)
      clear hK K
      refine wpAnyH_ready (rs := [33]) (by kernel_rfl) (by simp) ?_
      refine AllReadyH.cons rfl (fun K hK => ?_) AllReadyH.nil
      go_simp
      go_wp2_with (go_at_call 38; refine (rmeets_any _ _ _ _ _ _ _ _ _ _ _ _ _).mono ?_; rintro e y14 ⟨rfl, hb14⟩)
      have hr14_0 := (hb14.block _ (lt_heap hr13_0)).trans hr13_0
      have hr14_1 := (hb14.block _ (lt_heap hr13_1)).trans hr13_1
      have hr14_2 := (hb14.block _ (lt_heap hr13_2)).trans hr13_2
      have hr14_3 := (hb14.block _ (lt_heap hr13_3)).trans hr13_3
      have hr14_4 := (hb14.block _ (lt_heap hr13_4)).trans hr13_4
      have HU14 := Lib.hid (HU13.out.trans (hb14.mono HU13.out.size))
      refine hK.out _ _ (⟨(hb14.block _ (lt_heap hS13c.1)).trans hS13c.1, (hb14.block _ (lt_heap hS13c.2.1)).trans hS13c.2.1, (hb14.block _ (lt_heap hS13c.2.2.1)).trans hS13c.2.2.1, (hb14.block _ (lt_heap hS13c.2.2.2.1)).trans hS13c.2.2.2.1, (hb14.block _ (lt_heap hS13c.2.2.2.2)).trans hS13c.2.2.2.2⟩) (fun hS14c => ?_)
      clear hK K
      refine wpAnyH_take (i := 34) (v := ?_) rfl (by kernel_rfl) (by kernel_rfl) (by kernel_rfl) (fun _ _ _ h => h) (Or.inl ⟨by kernel_rfl, by (intro wz hSz; go_simp; try with_reducible rfl)⟩) hS14c ?_
      go_simp
      refine wpAnyH_take (i := 35) (v := ?_) rfl (by kernel_rfl) (by kernel_rfl) (by kernel_rfl) (fun _ _ _ h => h) (Or.inl ⟨by kernel_rfl, by (intro wz hSz; go_simp; try with_reducible rfl)⟩) hS14c ?_
      go_simp
      refine wpAnyH_take (i := 36) (v := ?_) rfl (by kernel_rfl) (by kernel_rfl) (by kernel_rfl) (fun _ _ _ h => h) (Or.inl ⟨by kernel_rfl, by (intro wz hSz; go_simp; try with_reducible rfl)⟩) hS14c ?_
      go_simp
      refine wpAnyH_take (i := 37) (v := ?_) rfl (by kernel_rfl) (by kernel_rfl) (by kernel_rfl) (fun _ _ _ h => h) (Or.inl ⟨by kernel_rfl, by (intro wz hSz; have c0_0 := cell_of_row _ _ 0 _ _ _ hSz.1; have c0_1 := cell_of_row _ _ 1 _ _ _ hSz.1; have c0_2 := cell_of_row _ _ 2 _ _ _ hSz.1; have c0_3 := cell_of_row _ _ 3 _ _ _ hSz.1; have c0_4 := cell_of_row _ _ 4 _ _ _ hSz.1; have c0_5 := cell_of_row _ _ 5 _ _ _ hSz.1; have c1_0 := cell_of_row _ _ 0 _ _ _ hSz.2.1; have c1_1 := cell_of_row _ _ 1 _ _ _ hSz.2.1; have c1_2 := cell_of_row _ _ 2 _ _ _ hSz.2.1; have c1_3 := cell_of_row _ _ 3 _ _ _ hSz.2.1; have c1_4 := cell_of_row _ _ 4 _ _ _ hSz.2.1; have c1_5 := cell_of_row _ _ 5 _ _ _ hSz.2.1; have c2_0 := cell_of_row _ _ 0 _ _ _ hSz.2.2.1; have c2_1 := cell_of_row _ _ 1 _ _ _ hSz.2.2.1; have c2_2 := cell_of_row _ _ 2 _ _ _ hSz.2.2.1; have c3_0 := cell_of_row _ _ 0 _ _ _ hSz.2.2.2.1; have c3_1 := cell_of_row _ _ 1 _ _ _ hSz.2.2.2.1; have c3_2 := cell_of_row _ _ 2 _ _ _ hSz.2.2.2.1; have c3_3 := cell_of_row _ _ 3 _ _ _ hSz.2.2.2.1; have c3_4 := cell_of_row _ _ 4 _ _ _ hSz.2.2.2.1; have c3_5 := cell_of_row _ _ 5 _ _ _ hSz.2.2.2.1; have c4_0 := cell_of_row _ _ 0 _ _ _ hSz.2.2.2.2; have c4_1 := cell_of_row _ _ 1 _ _ _ hSz.2.2.2.2; have c4_2 := cell_of_row _ _ 2 _ _ _ hSz.2.2.2.2; have c4_3 := cell_of_row _ _ 3 _ _ _ hSz.2.2.2.2; have c4_4 := cell_of_row _ _ 4 _ _ _ hSz.2.2.2.2; have c4_5 := cell_of_row _ _ 5 _ _ _ hSz.2.2.2.2; simp at c0_0 c0_1 c0_2 c0_3 c0_4 c0_5 c1_0 c1_1 c1_2 c1_3 c1_4 c1_5 c2_0 c2_1 c2_2 c3_0 c3_1 c3_2 c3_3 c3_4 c3_5 c4_0 c4_1 c4_2 c4_3 c4_4 c4_5; go_simp; try with_reducible rfl)⟩) hS14c ?_
      go_simp
      refine wpAnyH_take (i := 40) (v := ?_) rfl (by kernel_rfl) (by kernel_rfl) (by kernel_rfl) (fun _ _ _ h => h) (Or.inl ⟨by kernel_rfl, by (intro wz hSz; go_simp; try with_reducible rfl)⟩) hS14c ?_
      go_simp
      refine wpAnyH_take (i := 41) (v := ?_) rfl (by kernel_rfl) (by kernel_rfl) (by kernel_rfl) (fun _ _ _ h => h) (Or.inl ⟨by kernel_rfl, by (intro wz hSz; have c0_0 := cell_of_row _ _ 0 _ _ _ hSz.1; have c0_1 := cell_of_row _ _ 1 _ _ _ hSz.1; have c0_2 := cell_of_row _ _ 2 _ _ _ hSz.1; have c0_3 := cell_of_row _ _ 3 _ _ _ hSz.1; have c0_4 := cell_of_row _ _ 4 _ _ _ hSz.1; have c0_5 := cell_of_row _ _ 5 _ _ _ hSz.1; have c1_0 := cell_of_row _ _ 0 _ _ _ hSz.2.1; have c1_1 := cell_of_row _ _ 1 _ _ _ hSz.2.1; have c1_2 := cell_of_row _ _ 2 _ _ _ hSz.2.1; have c1_3 := cell_of_row _ _ 3 _ _ _ hSz.2.1; have c1_4 := cell_of_row _ _ 4 _ _ _ hSz.2.1; have c1_5 := cell_of_row _ _ 5 _ _ _ hSz.2.1; have c2_0 := cell_of_row _ _ 0 _ _ _ hSz.2.2.1; have c2_1 := cell_of_row _ _ 1 _ _ _ hSz.2.2.1; have c2_2 := cell_of_row _ _ 2 _ _ _ hSz.2.2.1; have c3_0 := cell_of_row _ _ 0 _ _ _ hSz.2.2.2.1; have c3_1 := cell_of_row _ _ 1 _ _ _ hSz.2.2.2.1; have c3_2 := cell_of_row _ _ 2 _ _ _ hSz.2.2.2.1; have c3_3 := cell_of_row _ _ 3 _ _ _ hSz.2.2.2.1; have c3_4 := cell_of_row _ _ 4 _ _ _ hSz.2.2.2.1; have c3_5 := cell_of_row _ _ 5 _ _ _ hSz.2.2.2.1; have c4_0 := cell_of_row _ _ 0 _ _ _ hSz.2.2.2.2; have c4_1 := cell_of_row _ _ 1 _ _ _ hSz.2.2.2.2; have c4_2 := cell_of_row _ _ 2 _ _ _ hSz.2.2.2.2; have c4_3 := cell_of_row _ _ 3 _ _ _ hSz.2.2.2.2; have c4_4 := cell_of_row _ _ 4 _ _ _ hSz.2.2.2.2; have c4_5 := cell_of_row _ _ 5 _ _ _ hSz.2.2.2.2; simp at c0_0 c0_1 c0_2 c0_3 c0_4 c0_5 c1_0 c1_1 c1_2 c1_3 c1_4 c1_5 c2_0 c2_1 c2_2 c3_0 c3_1 c3_2 c3_3 c3_4 c3_5 c4_0 c4_1 c4_2 c4_3 c4_4 c4_5; go_simp; try with_reducible rfl)⟩) hS14c ?_
      go_simp
      refine wpAnyH_take (i := 42) (v := ?_) rfl (by kernel_rfl) (by kernel_rfl) (by kernel_rfl) (fun _ _ _ h => h) (Or.inl ⟨by kernel_rfl, by (intro wz hSz; go_simp; try with_reducible rfl)⟩) hS14c ?_
      go_simp
      refine wpAnyH_take (i := 43) (v := ?_) rfl (by kernel_rfl) (by kernel_rfl) (by kernel_rfl) (fun _ _ _ h => h) (Or.inl ⟨by kernel_rfl, by (intro wz hSz; have c0_0 := cell_of_row _ _ 0 _ _ _ hSz.1; have c0_1 := cell_of_row _ _ 1 _ _ _ hSz.1; have c0_2 := cell_of_row _ _ 2 _ _ _ hSz.1; have c0_3 := cell_of_row _ _ 3 _ _ _ hSz.1; have c0_4 := cell_of_row _ _ 4 _ _ _ hSz.1; have c0_5 := cell_of_row _ _ 5 _ _ _ hSz.1; have c1_0 := cell_of_row _ _ 0 _ _ _ hSz.2.1; have c1_1 := cell_of_row _ _ 1 _ _ _ hSz.2.1; have c1_2 := cell_of_row _ _ 2 _ _ _ hSz.2.1; have c1_3 := cell_of_row _ _ 3 _ _ _ hSz.2.1; have c1_4 := cell_of_row _ _ 4 _ _ _ hSz.2.1; have c1_5 := cell_of_row _ _ 5 _ _ _ hSz.2.1; have c2_0 := cell_of_row _ _ 0 _ _ _ hSz.2.2.1; have c2_1 := cell_of_row _ _ 1 _ _ _ hSz.2.2.1; have c2_2 := cell_of_row _ _ 2 _ _ _ hSz.2.2.1; have c3_0 := cell_of_row _ _ 0 _ _ _ hSz.2.2.2.1; have c3_1 := cell_of_row _ _ 1 _ _ _ hSz.2.2.2.1; have c3_2 := cell_of_row _ _ 2 _ _ _ hSz.2.2.2.1; have c3_3 := cell_of_row _ _ 3 _ _ _ hSz.2.2.2.1; have c3_4 := cell_of_row _ _ 4 _ _ _ hSz.2.2.2.1; have c3_5 := cell_of_row _ _ 5 _ _ _ hSz.2.2.2.1; have c4_0 := cell_of_row _ _ 0 _ _ _ hSz.2.2.2.2; have c4_1 := cell_of_row _ _ 1 _ _ _ hSz.2.2.2.2; have c4_2 := cell_of_row _ _ 2 _ _ _ hSz.2.2.2.2; have c4_3 := cell_of_row _ _ 3 _ _ _ hSz.2.2.2.2; have c4_4 := cell_of_row _ _ 4 _ _ _ hSz.2.2.2.2; have c4_5 := cell_of_row _ _ 5 _ _ _ hSz.2.2.2.2; simp at c0_0 c0_1 c0_2 c0_3 c0_4 c0_5 c1_0 c1_1 c1_2 c1_3 c1_4 c1_5 c2_0 c2_1 c2_2 c3_0 c3_1 c3_2 c3_3 c3_4 c3_5 c4_0 c4_1 c4_2 c4_3 c4_4 c4_5; go_simp; try with_reducible rfl)⟩) hS14c ?_
      go_simp
      refine wpAnyH_ready (rs := [38]) (by kernel_rfl) (by simp) ?_
      refine AllReadyH.cons rfl (fun K hK => ?_) AllReadyH.nil
      go_simp
      go_wp2_with (go_at_call 40; refine (bmiddle_any _ _ _ _ _ _ _).mono ?_; rintro e y15 ⟨rfl, hb15⟩)
      have hr15_0 := (hb15.block _ (lt_heap hr14_0)).trans hr14_0
      have hr15_1 := (hb15.block _ (lt_heap hr14_1)).trans hr14_1
      have hr15_2 := (hb15.block _ (lt_heap hr14_2)).trans hr14_2
      have hr15_3 := (hb15.block _ (lt_heap hr14_3)).trans hr14_3
      have hr15_4 := (hb15.block _ (lt_heap hr14_4)).trans hr14_4
      have HU15 := Lib.hid (HU14.out.trans (hb15.mono HU14.out.size))
      refine hK.out _ _ (⟨(hb15.block _ (lt_heap hS14c.1)).trans hS14c.1, (hb15.block _ (lt_heap hS14c.2.1)).trans hS14c.2.1, (hb15.block _ (lt_heap hS14c.2.2.1)).trans hS14c.2.2.1, (hb15.block _ (lt_heap hS14c.2.2.2.1)).trans hS14c.2.2.2.1, (hb15.block _ (lt_heap hS14c.2.2.2.2)).trans hS14c.2.2.2.2⟩) (fun hS15c => ?_)
      clear hK K
      refine wpAnyH_ready (rs := [39]) (by kernel_rfl) (by simp) ?_
      refine AllReadyH.cons rfl (fun K hK => ?_) AllReadyH.nil
      go_simp
      go_wp2_with (go_at_call 39; refine (from_any _ _ _ _).mono ?_; rintro e y16 ⟨rfl, hb16⟩)
      have hr16_0 := (hb16.block _ (lt_heap hr15_0)).trans hr15_0
      have hr16_1 := (hb16.block _ (lt_heap hr15_1)).trans hr15_1
      have hr16_2 := (hb16.block _ (lt_heap hr15_2)).trans hr15_2
      have hr16_3 := (hb16.block _ (lt_heap hr15_3)).trans hr15_3
      have hr16_4 := (hb16.block _ (lt_heap hr15_4)).trans hr15_4
      have HU16 := Lib.hid (HU15.out.trans (hb16.mono HU15.out.size))
      refine hK.out _ _ (⟨(hb16.block _ (lt_heap hS15c.1)).trans hS15c.1, (hb16.block _ (lt_heap hS15c.2.1)).trans hS15c.2.1, (hb16.block _ (lt_heap hS15c.2.2.1)).trans hS15c.2.2.1, (hb16.block _ (lt_heap hS15c.2.2.2.1)).trans hS15c.2.2.2.1, (hb16.block _ (lt_heap hS15c.2.2.2.2)).trans hS15c.2.2.2.2⟩) (fun hS16c => ?_)
      clear hK K
      refine wpAnyH_ready (rs := [44]) (by kernel_rfl) (by simp) ?_
      refine AllReadyH.cons rfl (fun K hK => ?_) AllReadyH.nil
      go_simp
      go_wp2_with (go_at_call 41; refine (rmix_any _ _ _ _ _ _ _ _).mono ?_; rintro e y17 ⟨rfl, hb17⟩)
      have hr17_0 := (hb17.block _ (lt_heap hr16_0)).trans hr16_0
      have hr17_1 := (hb17.block _ (lt_heap hr16_1)).trans hr16_1
      have hr17_2 := (hb17.block _ (lt_heap hr16_2)).trans hr16_2
      have hr17_3 := (hb17.block _ (lt_heap hr16_3)).trans hr16_3
      have hr17_4 := (hb17.block _ (lt_heap hr16_4)).trans hr16_4
      have HU17 := Lib.hid (HU16.out.trans (hb17.mono HU16.out.size))
      refine hK.out _ _ (⟨(hb17.block _ (lt_heap hS16c.1)).trans hS16c.1, (hb17.block _ (lt_heap hS16c.2.1)).trans hS16c.2.1, (hb17.block _ (lt_heap hS16c.2.2.1)).trans hS16c.2.2.1, (hb17.block _ (lt_heap hS16c.2.2.2.1)).trans hS16c.2.2.2.1, (hb17.block _ (lt_heap hS16c.2.2.2.2)).trans hS16c.2.2.2.2⟩) (fun hS17c => ?_)
      clear hK K
      refine wpAnyH_take (i := 45) (v := ?_) rfl (by kernel_rfl) (by kernel_rfl) (by kernel_rfl) (fun _ _ _ h => h) (Or.inl ⟨by kernel_rfl, by (intro wz hSz; go_simp; try with_reducible rfl)⟩) hS17c ?_
      go_simp
      refine wpAnyH_take (i := 46) (v := ?_) rfl (by kernel_rfl) (by kernel_rfl) (by kernel_rfl) (fun _ _ _ h => h) (Or.inl ⟨by kernel_rfl, by (intro wz hSz; go_simp; try with_reducible rfl)⟩) hS17c ?_
      go_simp
      refine wpAnyH_take (i := 47) (v := ?_) rfl (by kernel_rfl) (by kernel_rfl) (by kernel_rfl) (fun _ _ _ h => h) (Or.inl ⟨by kernel_rfl, by (intro wz hSz; go_simp; try with_reducible rfl)⟩) hS17c ?_
      go_simp
      refine wpAnyH_take (i := 48) (v := ?_) rfl (by kernel_rfl) (by kernel_rfl) (by kernel_rfl) (fun _ _ _ h => h) (Or.inl ⟨by kernel_rfl, by (intro wz hSz; have c0_0 := cell_of_row _ _ 0 _ _ _ hSz.1; have c0_1 := cell_of_row _ _ 1 _ _ _ hSz.1; have c0_2 := cell_of_row _ _ 2 _ _ _ hSz.1; have c0_3 := cell_of_row _ _ 3 _ _ _ hSz.1; have c0_4 := cell_of_row _ _ 4 _ _ _ hSz.1; have c0_5 := cell_of_row _ _ 5 _ _ _ hSz.1; have c1_0 := cell_of_row _ _ 0 _ _ _ hSz.2.1; have c1_1 := cell_of_row _ _ 1 _ _ _ hSz.2.1; have c1_2 := cell_of_row _ _ 2 _ _ _ hSz.2.1; have c1_3 := cell_of_row _ _ 3 _ _ _ hSz.2.1; have c1_4 := cell_of_row _ _ 4 _ _ _ hSz.2.1; have c1_5 := cell_of_row _ _ 5 _ _ _ hSz.2.1; have c2_0 := cell_of_row _ _ 0 _ _ _ hSz.2.2.1; have c2_1 := cell_of_row _ _ 1 _ _ _ hSz.2.2.1; have c2_2 := cell_of_row _ _ 2 _ _ _ hSz.2.2.1; have c3_0 := cell_of_row _ _ 0 _ _ _ hSz.2.2.2.1; have c3_1 := cell_of_row _ _ 1 _ _ _ hSz.2.2.2.1; have c3_2 := cell_of_row _ _ 2 _ _ _ hSz.2.2.2.1; have c3_3 := cell_of_row _ _ 3 _ _ _ hSz.2.2.2.1; have c3_4 := cell_of_row _ _ 4 _ _ _ hSz.2.2.2.1; have c3_5 := cell_of_row _ _ 5 _ _ _ hSz.2.2.2.1; have c4_0 := cell_of_row _ _ 0 _ _ _ hSz.2.2.2.2; have c4_1 := cell_of_row _ _ 1 _ _ _ hSz.2.2.2.2; have c4_2 := cell_of_row _ _ 2 _ _ _ hSz.2.2.2.2; have c4_3 := cell_of_row _ _ 3 _ _ _ hSz.2.2.2.2; have c4_4 := cell_of_row _ _ 4 _ _ _ hSz.2.2.2.2; have c4_5 := cell_of_row _ _ 5 _ _ _ hSz.2.2.2.2; simp at c0_0 c0_1 c0_2 c0_3 c0_4 c0_5 c1_0 c1_1 c1_2 c1_3 c1_4 c1_5 c2_0 c2_1 c2_2 c3_0 c3_1 c3_2 c3_3 c3_4 c3_5 c4_0 c4_1 c4_2 c4_3 c4_4 c4_5; go_simp; try with_reducible rfl)⟩) hS17c ?_
      go_simp
      refine wpAnyH_take (i := 51) (v := ?_) rfl (by kernel_rfl) (by kernel_rfl) (by kernel_rfl) (fun _ _ _ h => h) (Or.inl ⟨by kernel_rfl, by (intro wz hSz; go_simp; try with_reducible rfl)⟩) hS17c ?_
      go_simp
      refine wpAnyH_take (i := 52) (v := ?_) rfl (by kernel_rfl) (by kernel_rfl) (by kernel_rfl) (fun _ _ _ h => h) (Or.inl ⟨by kernel_rfl, by (intro wz hSz; have c0_0 := cell_of_row _ _ 0 _ _ _ hSz.1; have c0_1 := cell_of_row _ _ 1 _ _ _ hSz.1; have c0_2 := cell_of_row _ _ 2 _ _ _ hSz.1; have c0_3 := cell_of_row _ _ 3 _ _ _ hSz.1; have c0_4 := cell_of_row _ _ 4 _ _ _ hSz.1; have c0_5 := cell_of_row _ _ 5 _ _ _ hSz.1; have c1_0 := cell_of_row _ _ 0 _ _ _ hSz.2.1; have c1_1 := cell_of_row _ _ 1 _ _ _ hSz.2.1; have c1_2 := cell_of_row _ _ 2 _ _ _ hSz.2.1; have c1_3 := cell_of_row _ _ 3 _ _ _ hSz.2.1; have c1_4 := cell_of_row _ _ 4 _ _ _ hSz.2.1; have c1_5 := cell_of_row _ _ 5 _ _ _ hSz.2.1; have c2_0 := cell_of_row _ _ 0 _ _ _ hSz.2.2.1; have c2_1 := cell_of_row _ _ 1 _ _ _ hSz.2.2.1; have c2_2 := cell_of_row _ _ 2 _ _ _ hSz.2.2.1; have c3_0 := cell_of_row _ _ 0 _ _ _ hSz.2.2.2.1; have c3_1 := cell_of_row _ _ 1 _ _ _ hSz.2.2.2.1; have c3_2 := cell_of_row _ _ 2 _ _ _ hSz.2.2.2.1; have c3_3 := cell_of_row _ _ 3 _ _ _ hSz.2.2.2.1; have c3_4 := cell_of_row _ _ 4 _ _ _ hSz.2.2.2.1; have c3_5 := cell_of_row _ _ 5 _ _ _ hSz.2.2.2.1; have c4_0 := cell_of_row _ _ 0 _ _ _ hSz.2.2.2.2; have c4_1 := cell_of_row _ _ 1 _ _ _ hSz.2.2.2.2; have c4_2 := cell_of_row _ _ 2 _ _ _ hSz.2.2.2.2; have c4_3 := cell_of_row _ _ 3 _ _ _ hSz.2.2.2.2; have c4_4 := cell_of_row _ _ 4 _ _ _ hSz.2.2.2.2; have c4_5 := cell_of_row _ _ 5 _ _ _ hSz.2.2.2.2; simp at c0_0 c0_1 c0_2 c0_3 c0_4 c0_5 c1_0 c1_1 c1_2 c1_3 c1_4 c1_5 c2_0 c2_1 c2_2 c3_0 c3_1 c3_2 c3_3 c3_4 c3_5 c4_0 c4_1 c4_2 c4_3 c4_4 c4_5; go_simp; try with_reducible rfl)⟩) hS17c ?_
      go_simp
      refine wpAnyH_take (i := 53) (v := ?_) rfl (by kernel_rfl) (by kernel_rfl) (by kernel_rfl) (fun _ _ _ h => h) (Or.inl ⟨by kernel_rfl, by (intro wz hSz; go_simp; try with_reducible rfl)⟩) hS17c ?_
      go_simp
      refine wpAnyH_take (i := 54) (v := ?_) rfl (by kernel_rfl) (by kernel_rfl) (by kernel_rfl) (fun _ _ _ h => h) (Or.inl ⟨by kernel_rfl, by (intro wz hSz; have c0_0 := cell_of_row _ _ 0 _ _ _ hSz.1; have c0_1 := cell_of_row _ _ 1 _ _ _ hSz.1; have c0_2 := cell_of_row _ _ 2 _ _ _ hSz.1; have c0_3 := cell_of_row _ _ 3 _ _ _ hSz.1; have c0_4 := cell_of_row _ _ 4 _ _ _ hSz.1; have c0_5 := cell_of_row _ _ 5 _ _ _ hSz.1; have c1_0 := cell_of_row _ _ 0 _ _ _ hSz.2.1; have c1_1 := cell_of_row _ _ 1 _ _ _ hSz.2.1; have c1_2 := cell_of_row _ _ 2 _ _ _ hSz.2.1; have c1_3 := cell_of_row _ _ 3 _ _ _ hSz.2.1; have c1_4 := cell_of_row _ _ 4 _ _ _ hSz.2.1; have c1_5 := cell_of_row _ _ 5 _ _ _ hSz.2.1; have c2_0 := cell_of_row _ _ 0 _ _ _ hSz.2.2.1; have c2_1 := cell_of_row _ _ 1 _ _ _ hSz.2.2.1; have c2_2 := cell_of_row _ _ 2 _ _ _ hSz.2.2.1; have c3_0 := cell_of_row _ _ 0 _ _ _ hSz.2.2.2.1; have c3_1 := cell_of_row _ _ 1 _ _ _ hSz.2.2.2.1; have c3_2 := cell_of_row _ _ 2 _ _ _ hSz.2.2.2.1; have c3_3 := cell_of_row _ _ 3 _ _ _ hSz.2.2.2.1; have c3_4 := cell_of_row _ _ 4 _ _ _ hSz.2.2.2.1; have c3_5 := cell_of_row _ _ 5 _ _ _ hSz.2.2.2.1; have c4_0 := cell_of_row _ _ 0 _ _ _ hSz.2.2.2.2; have c4_1 := cell_of_row _ _ 1 _ _ _ hSz.2.2.2.2; have c4_2 := cell_of_row _ _ 2 _ _ _ hSz.2.2.2.2; have c4_3 := cell_of_row _ _ 3 _ _ _ hSz.2.2.2.2; have c4_4 := cell_of_row _ _ 4 _ _ _ hSz.2.2.2.2; have c4_5 := cell_of_row _ _ 5 _ _ _ hSz.2.2.2.2; simp at c0_0 c0_1 c0_2 c0_3 c0_4 c0_5 c1_0 c1_1 c1_2 c1_3 c1_4 c1_5 c2_0 c2_1 c2_2 c3_0 c3_1 c3_2 c3_3 c3_4 c3_5 c4_0 c4_1 c4_2 c4_3 c4_4 c4_5; go_simp; try with_reducible rfl)⟩) hS17c ?_
      go_simp
      refine wpAnyH_ready (rs := [49]) (by kernel_rfl) (by simp) ?_
      refine AllReadyH.cons rfl (fun K hK => ?_) AllReadyH.nil
      go_simp
      go_wp2_with (go_at_call 42; refine (bsize_any _ _ _ _ _ _ _).mono ?_; rintro e y18 ⟨rfl, hb18⟩)
      have hr18_0 := (hb18.block _ (lt_heap hr17_0)).trans hr17_0
      have hr18_1 := (hb18.block _ (lt_heap hr17_1)).trans hr17_1
      have hr18_2 := (hb18.block _ (lt_heap hr17_2)).trans hr17_2
      have hr18_3 := (hb18.block _ (lt_heap hr17_3)).trans hr17_3
      have hr18_4 := (hb18.block _ (lt_heap hr17_4)).trans hr17_4
      have HU18 := Lib.hid (HU17.out.trans (hb18.mono HU17.out.size))
      refine hK.out _ _ (⟨(hb18.block _ (lt_heap hS17c.1)).trans hS17c.1, (hb18.block _ (lt_heap hS17c.2.1)).trans hS17c.2.1, (hb18.block _ (lt_heap hS17c.2.2.1)).trans hS17c.2.2.1, (hb18.block _ (lt_heap hS17c.2.2.2.1)).trans hS17c.2.2.2.1, (hb18.block _ (lt_heap hS17c.2.2.2.2)).trans hS17c.2.2.2.2⟩) (fun hS18c => ?_)
      clear hK K
      refine wpAnyH_ready (rs := [50]) (by kernel_rfl) (by simp) ?_
      refine AllReadyH.cons rfl (fun K hK => ?_) AllReadyH.nil
      go_simp
      go_wp2_with (go_at_call 39; refine (from_any _ _ _ _).mono ?_; rintro e y19 ⟨rfl, hb19⟩)
      have hr19_0 := (hb19.block _ (lt_heap hr18_0)).trans hr18_0
      have hr19_1 := (hb19.block _ (lt_heap hr18_1)).trans hr18_1
      have hr19_2 := (hb19.block _ (lt_heap hr18_2)).trans hr18_2
      have hr19_3 := (hb19.block _ (lt_heap hr18_3)).trans hr18_3
      have hr19_4 := (hb19.block _ (lt_heap hr18_4)).trans hr18_4
      have HU19 := Lib.hid (HU18.out.trans (hb19.mono HU18.out.size))
      refine hK.out _ _ (⟨(hb19.block _ (lt_heap hS18c.1)).trans hS18c.1, (hb19.block _ (lt_heap hS18c.2.1)).trans hS18c.2.1, (hb19.block _ (lt_heap hS18c.2.2.1)).trans hS18c.2.2.1, (hb19.block _ (lt_heap hS18c.2.2.2.1)).trans hS18c.2.2.2.1, (hb19.block _ (lt_heap hS18c.2.2.2.2)).trans hS18c.2.2.2.2⟩) (fun hS19c => ?_)
      clear hK K
      refine wpAnyH_ready (rs := [55]) (by kernel_rfl) (by simp) ?_
      refine AllReadyH.cons rfl (fun K hK => ?_) AllReadyH.nil
      go_simp
      go_wp2_with (go_at_call 43; refine (rsub_any _ _ _ _ _ _ _).mono ?_; rintro e y20 ⟨rfl, hb20⟩)
      have hr20_0 := (hb20.block _ (lt_heap hr19_0)).trans hr19_0
      have hr20_1 := (hb20.block _ (lt_heap hr19_1)).trans hr19_1
      have hr20_2 := (hb20.block _ (lt_heap hr19_2)).trans hr19_2
      have hr20_3 := (hb20.block _ (lt_heap hr19_3)).trans hr19_3
      have hr20_4 := (hb20.block _ (lt_heap hr19_4)).trans hr19_4
      have HU20 := Lib.hid (HU19.out.trans (hb20.mono HU19.out.size))
      refine hK.out _ _ (⟨(hb20.block _ (lt_heap hS19c.1)).trans hS19c.1, (hb20.block _ (lt_heap hS19c.2.1)).trans hS19c.2.1, (hb20.block _ (lt_heap hS19c.2.2.1)).trans hS19c.2.2.1, (hb20.block _ (lt_heap hS19c.2.2.2.1)).trans hS19c.2.2.2.1, (hb20.block _ (lt_heap hS19c.2.2.2.2)).trans hS19c.2.2.2.2⟩) (fun hS20c => ?_)
      clear hK K
      refine wpAnyH_take (i := 56) (v := ?_) rfl (by kernel_rfl) (by kernel_rfl) (by kernel_rfl) (fun _ _ _ h => h) (Or.inl ⟨by kernel_rfl, by (intro wz hSz; go_simp; try with_reducible rfl)⟩) hS20c ?_
      go_simp
      refine wpAnyH_take (i := 57) (v := ?_) rfl (by kernel_rfl) (by kernel_rfl) (by kernel_rfl) (fun _ _ _ h => h) (Or.inl ⟨by kernel_rfl, by (intro wz hSz; go_simp; try with_reducible rfl)⟩) hS20c ?_
      go_simp
      refine wpAnyH_take (i := 58) (v := ?_) rfl (by kernel_rfl) (by kernel_rfl) (by kernel_rfl) (fun _ _ _ h => h) (Or.inl ⟨by kernel_rfl, by (intro wz hSz; go_simp; try with_reducible rfl)⟩) hS20c ?_
      go_simp
      refine wpAnyH_take (i := 59) (v := ?_) rfl (by kernel_rfl) (by kernel_rfl) (by kernel_rfl) (fun _ _ _ h => h) (Or.inl ⟨by kernel_rfl, by (intro wz hSz; have c0_0 := cell_of_row _ _ 0 _ _ _ hSz.1; have c0_1 := cell_of_row _ _ 1 _ _ _ hSz.1; have c0_2 := cell_of_row _ _ 2 _ _ _ hSz.1; have c0_3 := cell_of_row _ _ 3 _ _ _ hSz.1; have c0_4 := cell_of_row _ _ 4 _ _ _ hSz.1; have c0_5 := cell_of_row _ _ 5 _ _ _ hSz.1; have c1_0 := cell_of_row _ _ 0 _ _ _ hSz.2.1; have c1_1 := cell_of_row _ _ 1 _ _ _ hSz.2.1; have c1_2 := cell_of_row _ _ 2 _ _ _ hSz.2.1; have c1_3 := cell_of_row _ _ 3 _ _ _ hSz.2.1; have c1_4 := cell_of_row _ _ 4 _ _ _ hSz.2.1; have c1_5 := cell_of_row _ _ 5 _ _ _ hSz.2.1; have c2_0 := cell_of_row _ _ 0 _ _ _ hSz.2.2.1; have c2_1 := cell_of_row _ _ 1 _ _ _ hSz.2.2.1; have c2_2 := cell_of_row _ _ 2 _ _ _ hSz.2.2.1; have c3_0 := cell_of_row _ _ 0 _ _ _ hSz.2.2.2.1; have c3_1 := cell_of_row _ _ 1 _ _ _ hSz.2.2.2.1; have c3_2 := cell_of_row _ _ 2 _ _ _ hSz.2.2.2.1; have c3_3 := cell_of_row _ _ 3 _ _ _ hSz.2.2.2.1; have c3_4 := cell_of_row _ _ 4 _ _ _ hSz.2.2.2.1; have c3_5 := cell_of_row _ _ 5 _ _ _ hSz.2.2.2.1; have c4_0 := cell_of_row _ _ 0 _ _ _ hSz.2.2.2.2; have c4_1 := cell_of_row _ _ 1 _ _ _ hSz.2.2.2.2; have c4_2 := cell_of_row _ _ 2 _ _ _ hSz.2.2.2.2; have c4_3 := cell_of_row _ _ 3 _ _ _ hSz.2.2.2.2; have c4_4 := cell_of_row _ _ 4 _ _ _ hSz.2.2.2.2; have c4_5 := cell_of_row _ _ 5 _ _ _ hSz.2.2.2.2; simp at c0_0 c0_1 c0_2 c0_3 c0_4 c0_5 c1_0 c1_1 c1_2 c1_3 c1_4 c1_5 c2_0 c2_1 c2_2 c3_0 c3_1 c3_2 c3_3 c3_4 c3_5 c4_0 c4_1 c4_2 c4_3 c4_4 c4_5; go_simp; try with_reducible rfl)⟩) hS20c ?_
      go_simp
      refine wpAnyH_take (i := 61) (v := ?_) rfl (by kernel_rfl) (by kernel_rfl) (by kernel_rfl) (fun _ _ _ h => h) (Or.inl ⟨by kernel_rfl, by (intro wz hSz; have c0_0 := cell_of_row _ _ 0 _ _ _ hSz.1; have c0_1 := cell_of_row _ _ 1 _ _ _ hSz.1; have c0_2 := cell_of_row _ _ 2 _ _ _ hSz.1; have c0_3 := cell_of_row _ _ 3 _ _ _ hSz.1; have c0_4 := cell_of_row _ _ 4 _ _ _ hSz.1; have c0_5 := cell_of_row _ _ 5 _ _ _ hSz.1; have c1_0 := cell_of_row _ _ 0 _ _ _ hSz.2.1; have c1_1 := cell_of_row _ _ 1 _ _ _ hSz.2.1; have c1_2 := cell_of_row _ _ 2 _ _ _ hSz.2.1; have c1_3 := cell_of_row _ _ 3 _ _ _ hSz.2.1; have c1_4 := cell_of_row _ _ 4 _ _ _ hSz.2.1; have c1_5 := cell_of_row _ _ 5 _ _ _ hSz.2.1; have c2_0 := cell_of_row _ _ 0 _ _ _ hSz.2.2.1; have c2_1 := cell_of_row _ _ 1 _ _ _ hSz.2.2.1; have c2_2 := cell_of_row _ _ 2 _ _ _ hSz.2.2.1; have c3_0 := cell_of_row _ _ 0 _ _ _ hSz.2.2.2.1; have c3_1 := cell_of_row _ _ 1 _ _ _ hSz.2.2.2.1; have c3_2 := cell_of_row _ _ 2 _ _ _ hSz.2.2.2.1; have c3_3 := cell_of_row _ _ 3 _ _ _ hSz.2.2.2.1; have c3_4 := cell_of_row _ _ 4 _ _ _ hSz.2.2.2.1; have c3_5 := cell_of_row _ _ 5 _ _ _ hSz.2.2.2.1; have c4_0 := cell_of_row _ _ 0 _ _ _ hSz.2.2.2.2; have c4_1 := cell_of_row _ _ 1 _ _ _ hSz.2.2.2.2; have c4_2 := cell_of_row _ _ 2 _ _ _ hSz.2.2.2.2; have c4_3 := cell_of_row _ _ 3 _ _ _ hSz.2.2.2.2; have c4_4 := cell_of_row _ _ 4 _ _ _ hSz.2.2.2.2; have c4_5 := cell_of_row _ _ 5 _ _ _ hSz.2.2.2.2; simp at c0_0 c0_1 c0_2 c0_3 c0_4 c0_5 c1_0 c1_1 c1_2 c1_3 c1_4 c1_5 c2_0 c2_1 c2_2 c3_0 c3_1 c3_2 c3_3 c3_4 c3_5 c4_0 c4_1 c4_2 c4_3 c4_4 c4_5; go_simp; try with_reducible rfl)⟩) hS20c ?_
      go_simp
      refine wpAnyH_ready (rs := [60]) (by kernel_rfl) (by simp) ?_
      refine AllReadyH.cons rfl (fun K hK => ?_) AllReadyH.nil
      go_simp
      go_wp2_with (go_at_call 44; refine (bskin_any _ _ _ _ _ _ _).mono ?_; rintro e y21 ⟨rfl, hb21⟩)
      have hr21_0 := (hb21.block _ (lt_heap hr20_0)).trans hr20_0
      have hr21_1 := (hb21.block _ (lt_heap hr20_1)).trans hr20_1
      have hr21_2 := (hb21.block _ (lt_heap hr20_2)).trans hr20_2
      have hr21_3 := (hb21.block _ (lt_heap hr20_3)).trans hr20_3
      have hr21_4 := (hb21.block _ (lt_heap hr20_4)).trans hr20_4
      have HU21 := Lib.hid (HU20.out.trans (hb21.mono HU20.out.size))
      refine hK.out _ _ (⟨(hb21.block _ (lt_heap hS20c.1)).trans hS20c.1, (hb21.block _ (lt_heap hS20c.2.1)).trans hS20c.2.1, (hb21.block _ (lt_heap hS20c.2.2.1)).trans hS20c.2.2.1, (hb21.block _ (lt_heap hS20c.2.2.2.1)).trans hS20c.2.2.2.1, (hb21.block _ (lt_heap hS20c.2.2.2.2)).trans hS20c.2.2.2.2⟩) (fun hS21c => ?_)
      clear hK K
      refine wpAnyH_ready (rs := [62]) (by kernel_rfl) (by simp) ?_
      refine AllReadyH.cons rfl (fun K hK => ?_) AllReadyH.nil
      go_simp
      go_wp2_with (go_at_call 45; refine (rskin_any _ _ _ _ _ _ _).mono ?_; rintro e y22 ⟨rfl, hb22⟩)
      have hr22_0 := (hb22.block _ (lt_heap hr21_0)).trans hr21_0
      have hr22_1 := (hb22.block _ (lt_heap hr21_1)).trans hr21_1
      have hr22_2 := (hb22.block _ (lt_heap hr21_2)).trans hr21_2
      have hr22_3 := (hb22.block _ (lt_heap hr21_3)).trans hr21_3
      have hr22_4 := (hb22.block _ (lt_heap hr21_4)).trans hr21_4
      have HU22 := Lib.hid (HU21.out.trans (hb22.mono HU21.out.size))
      refine hK.out _ _ (⟨(hb22.block _ (lt_heap hS21c.1)).trans hS21c.1, (hb22.block _ (lt_heap hS21c.2.1)).trans hS21c.2.1, (hb22.block _ (lt_heap hS21c.2.2.1)).trans hS21c.2.2.1, (hb22.block _ (lt_heap hS21c.2.2.2.1)).trans hS21c.2.2.2.1, (hb22.block _ (lt_heap hS21c.2.2.2.2)).trans hS21c.2.2.2.2⟩) (fun hS22c => ?_)
      clear hK K
      refine wpAnyH_take (i := 63) (v := ?_) rfl (by kernel_rfl) (by kernel_rfl) (by kernel_rfl) (fun _ _ _ h => h) (Or.inl ⟨by kernel_rfl, by (intro wz hSz; go_simp; try with_reducible rfl)⟩) hS22c ?_
      go_simp
      refine wpAnyH_take (i := 64) (v := ?_) rfl (by kernel_rfl) (by kernel_rfl) (by kernel_rfl) (fun _ _ _ h => h) (Or.inl ⟨by kernel_rfl, by (intro wz hSz; go_simp; try with_reducible rfl)⟩) hS22c ?_
      go_simp
      refine wpAnyH_take (i := 65) (v := ?_) rfl (by kernel_rfl) (by kernel_rfl) (by kernel_rfl) (fun _ _ _ h => h) (Or.inl ⟨by kernel_rfl, by (intro wz hSz; go_simp; try with_reducible rfl)⟩) hS22c ?_
      go_simp
      refine wpAnyH_done (by kernel_rfl) ?_ _
      go_wp2
      go_ret
      exact ⟨rfl, HU22.out⟩
    · skip
      go_wp2_with fail
      dsimp only [List.append]
      refine wp_region_held_drew (S := fun y => y.heap[w.heap.size]? = some (.cells #[.int .i64 a0, .int .i64 a1, .int .i64 a2, .int .i64 a3, .int .i64 a4, .int .i64 a5] 82 (0, 0)) ∧ y.heap[w.heap.size + 1]? = some (.cells #[.int .i64 b0, .int .i64 b1, .int .i64 b2, .int .i64 b3, .int .i64 b4, .int .i64 b5] 82 (0, 0)) ∧ y.heap[w.heap.size + 1 + 1]? = some (.cells #[.int .i64 px, .int .i64 py, .int .i64 pz] 60 (0, 0)) ∧ y.heap[g]? = some (.cells #[.int .i64 a0, .int .i64 a1, .int .i64 a2, .int .i64 a3, .int .i64 a4, .int .i64 a5] 84 (0, 0)) ∧ y.heap[h]? = some (.cells #[.int .i64 b0, .int .i64 b1, .int .i64 b2, .int .i64 b3, .int .i64 b4, .int .i64 b5] 84 (0, 0))) (by kernel_rfl) (⟨hr5_0, hr5_1, hr5_2, hr5_3, hr5_4⟩) (fun hS0 => ?_)
      obtain ⟨y6, hy6⟩ : ∃ y, y5.drew = y := ⟨_, rfl⟩
      have HU6 := Lib.hid (show Below w.heap.size w y6 by rw [← hy6]; exact HU5.out.drew)
      have hr6_0 : y6.heap[w.heap.size]? = some (.cells #[.int .i64 a0, .int .i64 a1, .int .i64 a2, .int .i64 a3, .int .i64 a4, .int .i64 a5] 82 (0, 0)) := by rw [← hy6]; exact hr5_0
      have hr6_1 : y6.heap[w.heap.size + 1]? = some (.cells #[.int .i64 b0, .int .i64 b1, .int .i64 b2, .int .i64 b3, .int .i64 b4, .int .i64 b5] 82 (0, 0)) := by rw [← hy6]; exact hr5_1
      have hr6_2 : y6.heap[w.heap.size + 1 + 1]? = some (.cells #[.int .i64 px, .int .i64 py, .int .i64 pz] 60 (0, 0)) := by rw [← hy6]; exact hr5_2
      have hr6_3 : y6.heap[g]? = some (.cells #[.int .i64 a0, .int .i64 a1, .int .i64 a2, .int .i64 a3, .int .i64 a4, .int .i64 a5] 84 (0, 0)) := by rw [← hy6]; exact hr5_3
      have hr6_4 : y6.heap[h]? = some (.cells #[.int .i64 b0, .int .i64 b1, .int .i64 b2, .int .i64 b3, .int .i64 b4, .int .i64 b5] 84 (0, 0)) := by rw [← hy6]; exact hr5_4
      rw [hy6] at hS0 ⊢
      clear hy6
      refine wpAnyH_ready (rs := [0]) (by kernel_rfl) (by simp) ?_
      refine AllReadyH.cons rfl (fun K hK => ?_) AllReadyH.nil
      go_simp
      go_wp2_with (go_at_call 24; refine (awake_any _).mono ?_; rintro e y7 ⟨rfl, hb7⟩)
      have hr7_0 := (hb7.block _ (lt_heap hr6_0)).trans hr6_0
      have hr7_1 := (hb7.block _ (lt_heap hr6_1)).trans hr6_1
      have hr7_2 := (hb7.block _ (lt_heap hr6_2)).trans hr6_2
      have hr7_3 := (hb7.block _ (lt_heap hr6_3)).trans hr6_3
      have hr7_4 := (hb7.block _ (lt_heap hr6_4)).trans hr6_4
      have HU7 := Lib.hid (HU6.out.trans (hb7.mono HU6.out.size))
      refine hK.out _ _ (⟨(hb7.block _ (lt_heap hS0.1)).trans hS0.1, (hb7.block _ (lt_heap hS0.2.1)).trans hS0.2.1, (hb7.block _ (lt_heap hS0.2.2.1)).trans hS0.2.2.1, (hb7.block _ (lt_heap hS0.2.2.2.1)).trans hS0.2.2.2.1, (hb7.block _ (lt_heap hS0.2.2.2.2)).trans hS0.2.2.2.2⟩) (fun hS7c => ?_)
      clear hK K
      refine wpAnyH_take (i := 1) (v := ?_) rfl (by kernel_rfl) (by kernel_rfl) (by kernel_rfl) (fun _ _ _ h => h) (Or.inl ⟨by kernel_rfl, by (intro wz hSz; go_simp; try with_reducible rfl)⟩) hS7c ?_
      go_simp
      refine wpAnyH_take (i := 2) (v := ?_) rfl (by kernel_rfl) (by kernel_rfl) (by kernel_rfl) (fun _ _ _ h => h) (Or.inl ⟨by kernel_rfl, by (intro wz hSz; have c0_0 := cell_of_row _ _ 0 _ _ _ hSz.1; have c0_1 := cell_of_row _ _ 1 _ _ _ hSz.1; have c0_2 := cell_of_row _ _ 2 _ _ _ hSz.1; have c0_3 := cell_of_row _ _ 3 _ _ _ hSz.1; have c0_4 := cell_of_row _ _ 4 _ _ _ hSz.1; have c0_5 := cell_of_row _ _ 5 _ _ _ hSz.1; have c1_0 := cell_of_row _ _ 0 _ _ _ hSz.2.1; have c1_1 := cell_of_row _ _ 1 _ _ _ hSz.2.1; have c1_2 := cell_of_row _ _ 2 _ _ _ hSz.2.1; have c1_3 := cell_of_row _ _ 3 _ _ _ hSz.2.1; have c1_4 := cell_of_row _ _ 4 _ _ _ hSz.2.1; have c1_5 := cell_of_row _ _ 5 _ _ _ hSz.2.1; have c2_0 := cell_of_row _ _ 0 _ _ _ hSz.2.2.1; have c2_1 := cell_of_row _ _ 1 _ _ _ hSz.2.2.1; have c2_2 := cell_of_row _ _ 2 _ _ _ hSz.2.2.1; have c3_0 := cell_of_row _ _ 0 _ _ _ hSz.2.2.2.1; have c3_1 := cell_of_row _ _ 1 _ _ _ hSz.2.2.2.1; have c3_2 := cell_of_row _ _ 2 _ _ _ hSz.2.2.2.1; have c3_3 := cell_of_row _ _ 3 _ _ _ hSz.2.2.2.1; have c3_4 := cell_of_row _ _ 4 _ _ _ hSz.2.2.2.1; have c3_5 := cell_of_row _ _ 5 _ _ _ hSz.2.2.2.1; have c4_0 := cell_of_row _ _ 0 _ _ _ hSz.2.2.2.2; have c4_1 := cell_of_row _ _ 1 _ _ _ hSz.2.2.2.2; have c4_2 := cell_of_row _ _ 2 _ _ _ hSz.2.2.2.2; have c4_3 := cell_of_row _ _ 3 _ _ _ hSz.2.2.2.2; have c4_4 := cell_of_row _ _ 4 _ _ _ hSz.2.2.2.2; have c4_5 := cell_of_row _ _ 5 _ _ _ hSz.2.2.2.2; simp at c0_0 c0_1 c0_2 c0_3 c0_4 c0_5 c1_0 c1_1 c1_2 c1_3 c1_4 c1_5 c2_0 c2_1 c2_2 c3_0 c3_1 c3_2 c3_3 c3_4 c3_5 c4_0 c4_1 c4_2 c4_3 c4_4 c4_5; go_simp; try with_reducible rfl)⟩) hS7c ?_
      go_simp
      refine wpAnyH_take (i := 3) (v := ?_) rfl (by kernel_rfl) (by kernel_rfl) (by kernel_rfl) (fun _ _ _ h => h) (Or.inl ⟨by kernel_rfl, by (intro wz hSz; have c0_0 := cell_of_row _ _ 0 _ _ _ hSz.1; have c0_1 := cell_of_row _ _ 1 _ _ _ hSz.1; have c0_2 := cell_of_row _ _ 2 _ _ _ hSz.1; have c0_3 := cell_of_row _ _ 3 _ _ _ hSz.1; have c0_4 := cell_of_row _ _ 4 _ _ _ hSz.1; have c0_5 := cell_of_row _ _ 5 _ _ _ hSz.1; have c1_0 := cell_of_row _ _ 0 _ _ _ hSz.2.1; have c1_1 := cell_of_row _ _ 1 _ _ _ hSz.2.1; have c1_2 := cell_of_row _ _ 2 _ _ _ hSz.2.1; have c1_3 := cell_of_row _ _ 3 _ _ _ hSz.2.1; have c1_4 := cell_of_row _ _ 4 _ _ _ hSz.2.1; have c1_5 := cell_of_row _ _ 5 _ _ _ hSz.2.1; have c2_0 := cell_of_row _ _ 0 _ _ _ hSz.2.2.1; have c2_1 := cell_of_row _ _ 1 _ _ _ hSz.2.2.1; have c2_2 := cell_of_row _ _ 2 _ _ _ hSz.2.2.1; have c3_0 := cell_of_row _ _ 0 _ _ _ hSz.2.2.2.1; have c3_1 := cell_of_row _ _ 1 _ _ _ hSz.2.2.2.1; have c3_2 := cell_of_row _ _ 2 _ _ _ hSz.2.2.2.1; have c3_3 := cell_of_row _ _ 3 _ _ _ hSz.2.2.2.1; have c3_4 := cell_of_row _ _ 4 _ _ _ hSz.2.2.2.1; have c3_5 := cell_of_row _ _ 5 _ _ _ hSz.2.2.2.1; have c4_0 := cell_of_row _ _ 0 _ _ _ hSz.2.2.2.2; have c4_1 := cell_of_row _ _ 1 _ _ _ hSz.2.2.2.2; have c4_2 := cell_of_row _ _ 2 _ _ _ hSz.2.2.2.2; have c4_3 := cell_of_row _ _ 3 _ _ _ hSz.2.2.2.2; have c4_4 := cell_of_row _ _ 4 _ _ _ hSz.2.2.2.2; have c4_5 := cell_of_row _ _ 5 _ _ _ hSz.2.2.2.2; simp at c0_0 c0_1 c0_2 c0_3 c0_4 c0_5 c1_0 c1_1 c1_2 c1_3 c1_4 c1_5 c2_0 c2_1 c2_2 c3_0 c3_1 c3_2 c3_3 c3_4 c3_5 c4_0 c4_1 c4_2 c4_3 c4_4 c4_5; go_simp; try with_reducible rfl)⟩) hS7c ?_
      go_simp
      refine wpAnyH_take (i := 6) (v := ?_) rfl (by kernel_rfl) (by kernel_rfl) (by kernel_rfl) (fun _ _ _ h => h) (Or.inl ⟨by kernel_rfl, by (intro wz hSz; have c0_0 := cell_of_row _ _ 0 _ _ _ hSz.1; have c0_1 := cell_of_row _ _ 1 _ _ _ hSz.1; have c0_2 := cell_of_row _ _ 2 _ _ _ hSz.1; have c0_3 := cell_of_row _ _ 3 _ _ _ hSz.1; have c0_4 := cell_of_row _ _ 4 _ _ _ hSz.1; have c0_5 := cell_of_row _ _ 5 _ _ _ hSz.1; have c1_0 := cell_of_row _ _ 0 _ _ _ hSz.2.1; have c1_1 := cell_of_row _ _ 1 _ _ _ hSz.2.1; have c1_2 := cell_of_row _ _ 2 _ _ _ hSz.2.1; have c1_3 := cell_of_row _ _ 3 _ _ _ hSz.2.1; have c1_4 := cell_of_row _ _ 4 _ _ _ hSz.2.1; have c1_5 := cell_of_row _ _ 5 _ _ _ hSz.2.1; have c2_0 := cell_of_row _ _ 0 _ _ _ hSz.2.2.1; have c2_1 := cell_of_row _ _ 1 _ _ _ hSz.2.2.1; have c2_2 := cell_of_row _ _ 2 _ _ _ hSz.2.2.1; have c3_0 := cell_of_row _ _ 0 _ _ _ hSz.2.2.2.1; have c3_1 := cell_of_row _ _ 1 _ _ _ hSz.2.2.2.1; have c3_2 := cell_of_row _ _ 2 _ _ _ hSz.2.2.2.1; have c3_3 := cell_of_row _ _ 3 _ _ _ hSz.2.2.2.1; have c3_4 := cell_of_row _ _ 4 _ _ _ hSz.2.2.2.1; have c3_5 := cell_of_row _ _ 5 _ _ _ hSz.2.2.2.1; have c4_0 := cell_of_row _ _ 0 _ _ _ hSz.2.2.2.2; have c4_1 := cell_of_row _ _ 1 _ _ _ hSz.2.2.2.2; have c4_2 := cell_of_row _ _ 2 _ _ _ hSz.2.2.2.2; have c4_3 := cell_of_row _ _ 3 _ _ _ hSz.2.2.2.2; have c4_4 := cell_of_row _ _ 4 _ _ _ hSz.2.2.2.2; have c4_5 := cell_of_row _ _ 5 _ _ _ hSz.2.2.2.2; simp at c0_0 c0_1 c0_2 c0_3 c0_4 c0_5 c1_0 c1_1 c1_2 c1_3 c1_4 c1_5 c2_0 c2_1 c2_2 c3_0 c3_1 c3_2 c3_3 c3_4 c3_5 c4_0 c4_1 c4_2 c4_3 c4_4 c4_5; go_simp; try with_reducible rfl)⟩) hS7c ?_
      go_simp
      refine wpAnyH_take (i := 7) (v := ?_) rfl (by kernel_rfl) (by kernel_rfl) (by kernel_rfl) (fun _ _ _ h => h) (Or.inl ⟨by kernel_rfl, by (intro wz hSz; have c0_0 := cell_of_row _ _ 0 _ _ _ hSz.1; have c0_1 := cell_of_row _ _ 1 _ _ _ hSz.1; have c0_2 := cell_of_row _ _ 2 _ _ _ hSz.1; have c0_3 := cell_of_row _ _ 3 _ _ _ hSz.1; have c0_4 := cell_of_row _ _ 4 _ _ _ hSz.1; have c0_5 := cell_of_row _ _ 5 _ _ _ hSz.1; have c1_0 := cell_of_row _ _ 0 _ _ _ hSz.2.1; have c1_1 := cell_of_row _ _ 1 _ _ _ hSz.2.1; have c1_2 := cell_of_row _ _ 2 _ _ _ hSz.2.1; have c1_3 := cell_of_row _ _ 3 _ _ _ hSz.2.1; have c1_4 := cell_of_row _ _ 4 _ _ _ hSz.2.1; have c1_5 := cell_of_row _ _ 5 _ _ _ hSz.2.1; have c2_0 := cell_of_row _ _ 0 _ _ _ hSz.2.2.1; have c2_1 := cell_of_row _ _ 1 _ _ _ hSz.2.2.1; have c2_2 := cell_of_row _ _ 2 _ _ _ hSz.2.2.1; have c3_0 := cell_of_row _ _ 0 _ _ _ hSz.2.2.2.1; have c3_1 := cell_of_row _ _ 1 _ _ _ hSz.2.2.2.1; have c3_2 := cell_of_row _ _ 2 _ _ _ hSz.2.2.2.1; have c3_3 := cell_of_row _ _ 3 _ _ _ hSz.2.2.2.1; have c3_4 := cell_of_row _ _ 4 _ _ _ hSz.2.2.2.1; have c3_5 := cell_of_row _ _ 5 _ _ _ hSz.2.2.2.1; have c4_0 := cell_of_row _ _ 0 _ _ _ hSz.2.2.2.2; have c4_1 := cell_of_row _ _ 1 _ _ _ hSz.2.2.2.2; have c4_2 := cell_of_row _ _ 2 _ _ _ hSz.2.2.2.2; have c4_3 := cell_of_row _ _ 3 _ _ _ hSz.2.2.2.2; have c4_4 := cell_of_row _ _ 4 _ _ _ hSz.2.2.2.2; have c4_5 := cell_of_row _ _ 5 _ _ _ hSz.2.2.2.2; simp at c0_0 c0_1 c0_2 c0_3 c0_4 c0_5 c1_0 c1_1 c1_2 c1_3 c1_4 c1_5 c2_0 c2_1 c2_2 c3_0 c3_1 c3_2 c3_3 c3_4 c3_5 c4_0 c4_1 c4_2 c4_3 c4_4 c4_5; go_simp; try with_reducible rfl)⟩) hS7c ?_
      go_simp
      refine wpAnyH_ready (rs := [4]) (by kernel_rfl) (by simp) ?_
      refine AllReadyH.cons rfl (fun K hK => ?_) AllReadyH.nil
      go_simp
      go_wp2_with (go_at_call 25; refine (to_any _ _ _ _).mono ?_; rintro e y8 ⟨rfl, hb8⟩)
      have hr8_0 := (hb8.block _ (lt_heap hr7_0)).trans hr7_0
      have hr8_1 := (hb8.block _ (lt_heap hr7_1)).trans hr7_1
      have hr8_2 := (hb8.block _ (lt_heap hr7_2)).trans hr7_2
      have hr8_3 := (hb8.block _ (lt_heap hr7_3)).trans hr7_3
      have hr8_4 := (hb8.block _ (lt_heap hr7_4)).trans hr7_4
      have HU8 := Lib.hid (HU7.out.trans (hb8.mono HU7.out.size))
      refine hK.out _ _ (⟨(hb8.block _ (lt_heap hS7c.1)).trans hS7c.1, (hb8.block _ (lt_heap hS7c.2.1)).trans hS7c.2.1, (hb8.block _ (lt_heap hS7c.2.2.1)).trans hS7c.2.2.1, (hb8.block _ (lt_heap hS7c.2.2.2.1)).trans hS7c.2.2.2.1, (hb8.block _ (lt_heap hS7c.2.2.2.2)).trans hS7c.2.2.2.2⟩) (fun hS8c => ?_)
      clear hK K
      refine wpAnyH_ready (rs := [5]) (by kernel_rfl) (by simp) ?_
      refine AllReadyH.cons rfl (fun K hK => ?_) AllReadyH.nil
      go_simp
      go_wp2_with (go_at_call 34; refine (bhas_any _ _ _ _ _ _ _ _ _ _).mono ?_; rintro e y9 ⟨rfl, hb9⟩)
      have hr9_0 := (hb9.block _ (lt_heap hr8_0)).trans hr8_0
      have hr9_1 := (hb9.block _ (lt_heap hr8_1)).trans hr8_1
      have hr9_2 := (hb9.block _ (lt_heap hr8_2)).trans hr8_2
      have hr9_3 := (hb9.block _ (lt_heap hr8_3)).trans hr8_3
      have hr9_4 := (hb9.block _ (lt_heap hr8_4)).trans hr8_4
      have HU9 := Lib.hid (HU8.out.trans (hb9.mono HU8.out.size))
      refine hK.out _ _ (⟨(hb9.block _ (lt_heap hS8c.1)).trans hS8c.1, (hb9.block _ (lt_heap hS8c.2.1)).trans hS8c.2.1, (hb9.block _ (lt_heap hS8c.2.2.1)).trans hS8c.2.2.1, (hb9.block _ (lt_heap hS8c.2.2.2.1)).trans hS8c.2.2.2.1, (hb9.block _ (lt_heap hS8c.2.2.2.2)).trans hS8c.2.2.2.2⟩) (fun hS9c => ?_)
      clear hK K
      refine wpAnyH_ready (rs := [8]) (by kernel_rfl) (by simp) ?_
      refine AllReadyH.cons rfl (fun K hK => ?_) AllReadyH.nil
      go_simp
      go_wp2_with (go_at_call 35; refine (rhas_any _ _ _ _ _ _ _ _ _ _).mono ?_; rintro e y10 ⟨rfl, hb10⟩)
      have hr10_0 := (hb10.block _ (lt_heap hr9_0)).trans hr9_0
      have hr10_1 := (hb10.block _ (lt_heap hr9_1)).trans hr9_1
      have hr10_2 := (hb10.block _ (lt_heap hr9_2)).trans hr9_2
      have hr10_3 := (hb10.block _ (lt_heap hr9_3)).trans hr9_3
      have hr10_4 := (hb10.block _ (lt_heap hr9_4)).trans hr9_4
      have HU10 := Lib.hid (HU9.out.trans (hb10.mono HU9.out.size))
      refine hK.out _ _ (⟨(hb10.block _ (lt_heap hS9c.1)).trans hS9c.1, (hb10.block _ (lt_heap hS9c.2.1)).trans hS9c.2.1, (hb10.block _ (lt_heap hS9c.2.2.1)).trans hS9c.2.2.1, (hb10.block _ (lt_heap hS9c.2.2.2.1)).trans hS9c.2.2.2.1, (hb10.block _ (lt_heap hS9c.2.2.2.2)).trans hS9c.2.2.2.2⟩) (fun hS10c => ?_)
      clear hK K
      refine wpAnyH_take (i := 9) (v := ?_) rfl (by kernel_rfl) (by kernel_rfl) (by kernel_rfl) (fun _ _ _ h => h) (Or.inl ⟨by kernel_rfl, by (intro wz hSz; go_simp; try with_reducible rfl)⟩) hS10c ?_
      go_simp
      refine wpAnyH_take (i := 10) (v := ?_) rfl (by kernel_rfl) (by kernel_rfl) (by kernel_rfl) (fun _ _ _ h => h) (Or.inl ⟨by kernel_rfl, by (intro wz hSz; go_simp; try with_reducible rfl)⟩) hS10c ?_
      go_simp
      refine wpAnyH_take (i := 11) (v := ?_) rfl (by kernel_rfl) (by kernel_rfl) (by kernel_rfl) (fun _ _ _ h => h) (Or.inl ⟨by kernel_rfl, by (intro wz hSz; go_simp; try with_reducible rfl)⟩) hS10c ?_
      go_simp
      refine wpAnyH_take (i := 12) (v := ?_) rfl (by kernel_rfl) (by kernel_rfl) (by kernel_rfl) (fun _ _ _ h => h) (Or.inl ⟨by kernel_rfl, by (intro wz hSz; have c0_0 := cell_of_row _ _ 0 _ _ _ hSz.1; have c0_1 := cell_of_row _ _ 1 _ _ _ hSz.1; have c0_2 := cell_of_row _ _ 2 _ _ _ hSz.1; have c0_3 := cell_of_row _ _ 3 _ _ _ hSz.1; have c0_4 := cell_of_row _ _ 4 _ _ _ hSz.1; have c0_5 := cell_of_row _ _ 5 _ _ _ hSz.1; have c1_0 := cell_of_row _ _ 0 _ _ _ hSz.2.1; have c1_1 := cell_of_row _ _ 1 _ _ _ hSz.2.1; have c1_2 := cell_of_row _ _ 2 _ _ _ hSz.2.1; have c1_3 := cell_of_row _ _ 3 _ _ _ hSz.2.1; have c1_4 := cell_of_row _ _ 4 _ _ _ hSz.2.1; have c1_5 := cell_of_row _ _ 5 _ _ _ hSz.2.1; have c2_0 := cell_of_row _ _ 0 _ _ _ hSz.2.2.1; have c2_1 := cell_of_row _ _ 1 _ _ _ hSz.2.2.1; have c2_2 := cell_of_row _ _ 2 _ _ _ hSz.2.2.1; have c3_0 := cell_of_row _ _ 0 _ _ _ hSz.2.2.2.1; have c3_1 := cell_of_row _ _ 1 _ _ _ hSz.2.2.2.1; have c3_2 := cell_of_row _ _ 2 _ _ _ hSz.2.2.2.1; have c3_3 := cell_of_row _ _ 3 _ _ _ hSz.2.2.2.1; have c3_4 := cell_of_row _ _ 4 _ _ _ hSz.2.2.2.1; have c3_5 := cell_of_row _ _ 5 _ _ _ hSz.2.2.2.1; have c4_0 := cell_of_row _ _ 0 _ _ _ hSz.2.2.2.2; have c4_1 := cell_of_row _ _ 1 _ _ _ hSz.2.2.2.2; have c4_2 := cell_of_row _ _ 2 _ _ _ hSz.2.2.2.2; have c4_3 := cell_of_row _ _ 3 _ _ _ hSz.2.2.2.2; have c4_4 := cell_of_row _ _ 4 _ _ _ hSz.2.2.2.2; have c4_5 := cell_of_row _ _ 5 _ _ _ hSz.2.2.2.2; simp at c0_0 c0_1 c0_2 c0_3 c0_4 c0_5 c1_0 c1_1 c1_2 c1_3 c1_4 c1_5 c2_0 c2_1 c2_2 c3_0 c3_1 c3_2 c3_3 c3_4 c3_5 c4_0 c4_1 c4_2 c4_3 c4_4 c4_5; go_simp; try with_reducible rfl)⟩) hS10c ?_
      go_simp
      refine wpAnyH_take (i := 13) (v := ?_) rfl (by kernel_rfl) (by kernel_rfl) (by kernel_rfl) (fun _ _ _ h => h) (Or.inl ⟨by kernel_rfl, by (intro wz hSz; have c0_0 := cell_of_row _ _ 0 _ _ _ hSz.1; have c0_1 := cell_of_row _ _ 1 _ _ _ hSz.1; have c0_2 := cell_of_row _ _ 2 _ _ _ hSz.1; have c0_3 := cell_of_row _ _ 3 _ _ _ hSz.1; have c0_4 := cell_of_row _ _ 4 _ _ _ hSz.1; have c0_5 := cell_of_row _ _ 5 _ _ _ hSz.1; have c1_0 := cell_of_row _ _ 0 _ _ _ hSz.2.1; have c1_1 := cell_of_row _ _ 1 _ _ _ hSz.2.1; have c1_2 := cell_of_row _ _ 2 _ _ _ hSz.2.1; have c1_3 := cell_of_row _ _ 3 _ _ _ hSz.2.1; have c1_4 := cell_of_row _ _ 4 _ _ _ hSz.2.1; have c1_5 := cell_of_row _ _ 5 _ _ _ hSz.2.1; have c2_0 := cell_of_row _ _ 0 _ _ _ hSz.2.2.1; have c2_1 := cell_of_row _ _ 1 _ _ _ hSz.2.2.1; have c2_2 := cell_of_row _ _ 2 _ _ _ hSz.2.2.1; have c3_0 := cell_of_row _ _ 0 _ _ _ hSz.2.2.2.1; have c3_1 := cell_of_row _ _ 1 _ _ _ hSz.2.2.2.1; have c3_2 := cell_of_row _ _ 2 _ _ _ hSz.2.2.2.1; have c3_3 := cell_of_row _ _ 3 _ _ _ hSz.2.2.2.1; have c3_4 := cell_of_row _ _ 4 _ _ _ hSz.2.2.2.1; have c3_5 := cell_of_row _ _ 5 _ _ _ hSz.2.2.2.1; have c4_0 := cell_of_row _ _ 0 _ _ _ hSz.2.2.2.2; have c4_1 := cell_of_row _ _ 1 _ _ _ hSz.2.2.2.2; have c4_2 := cell_of_row _ _ 2 _ _ _ hSz.2.2.2.2; have c4_3 := cell_of_row _ _ 3 _ _ _ hSz.2.2.2.2; have c4_4 := cell_of_row _ _ 4 _ _ _ hSz.2.2.2.2; have c4_5 := cell_of_row _ _ 5 _ _ _ hSz.2.2.2.2; simp at c0_0 c0_1 c0_2 c0_3 c0_4 c0_5 c1_0 c1_1 c1_2 c1_3 c1_4 c1_5 c2_0 c2_1 c2_2 c3_0 c3_1 c3_2 c3_3 c3_4 c3_5 c4_0 c4_1 c4_2 c4_3 c4_4 c4_5; go_simp; try with_reducible rfl)⟩) hS10c ?_
      go_simp
      refine wpAnyH_take (i := 15) (v := ?_) rfl (by kernel_rfl) (by kernel_rfl) (by kernel_rfl) (fun _ _ _ h => h) (Or.inl ⟨by kernel_rfl, by (intro wz hSz; have c0_0 := cell_of_row _ _ 0 _ _ _ hSz.1; have c0_1 := cell_of_row _ _ 1 _ _ _ hSz.1; have c0_2 := cell_of_row _ _ 2 _ _ _ hSz.1; have c0_3 := cell_of_row _ _ 3 _ _ _ hSz.1; have c0_4 := cell_of_row _ _ 4 _ _ _ hSz.1; have c0_5 := cell_of_row _ _ 5 _ _ _ hSz.1; have c1_0 := cell_of_row _ _ 0 _ _ _ hSz.2.1; have c1_1 := cell_of_row _ _ 1 _ _ _ hSz.2.1; have c1_2 := cell_of_row _ _ 2 _ _ _ hSz.2.1; have c1_3 := cell_of_row _ _ 3 _ _ _ hSz.2.1; have c1_4 := cell_of_row _ _ 4 _ _ _ hSz.2.1; have c1_5 := cell_of_row _ _ 5 _ _ _ hSz.2.1; have c2_0 := cell_of_row _ _ 0 _ _ _ hSz.2.2.1; have c2_1 := cell_of_row _ _ 1 _ _ _ hSz.2.2.1; have c2_2 := cell_of_row _ _ 2 _ _ _ hSz.2.2.1; have c3_0 := cell_of_row _ _ 0 _ _ _ hSz.2.2.2.1; have c3_1 := cell_of_row _ _ 1 _ _ _ hSz.2.2.2.1; have c3_2 := cell_of_row _ _ 2 _ _ _ hSz.2.2.2.1; have c3_3 := cell_of_row _ _ 3 _ _ _ hSz.2.2.2.1; have c3_4 := cell_of_row _ _ 4 _ _ _ hSz.2.2.2.1; have c3_5 := cell_of_row _ _ 5 _ _ _ hSz.2.2.2.1; have c4_0 := cell_of_row _ _ 0 _ _ _ hSz.2.2.2.2; have c4_1 := cell_of_row _ _ 1 _ _ _ hSz.2.2.2.2; have c4_2 := cell_of_row _ _ 2 _ _ _ hSz.2.2.2.2; have c4_3 := cell_of_row _ _ 3 _ _ _ hSz.2.2.2.2; have c4_4 := cell_of_row _ _ 4 _ _ _ hSz.2.2.2.2; have c4_5 := cell_of_row _ _ 5 _ _ _ hSz.2.2.2.2; simp at c0_0 c0_1 c0_2 c0_3 c0_4 c0_5 c1_0 c1_1 c1_2 c1_3 c1_4 c1_5 c2_0 c2_1 c2_2 c3_0 c3_1 c3_2 c3_3 c3_4 c3_5 c4_0 c4_1 c4_2 c4_3 c4_4 c4_5; go_simp; try with_reducible rfl)⟩) hS10c ?_
      go_simp
      refine wpAnyH_take (i := 16) (v := ?_) rfl (by kernel_rfl) (by kernel_rfl) (by kernel_rfl) (fun _ _ _ h => h) (Or.inl ⟨by kernel_rfl, by (intro wz hSz; go_simp; try with_reducible rfl)⟩) hS10c ?_
      go_simp
      refine wpAnyH_take (i := 17) (v := ?_) rfl (by kernel_rfl) (by kernel_rfl) (by kernel_rfl) (fun _ _ _ h => h) (Or.inl ⟨by kernel_rfl, by (intro wz hSz; have c0_0 := cell_of_row _ _ 0 _ _ _ hSz.1; have c0_1 := cell_of_row _ _ 1 _ _ _ hSz.1; have c0_2 := cell_of_row _ _ 2 _ _ _ hSz.1; have c0_3 := cell_of_row _ _ 3 _ _ _ hSz.1; have c0_4 := cell_of_row _ _ 4 _ _ _ hSz.1; have c0_5 := cell_of_row _ _ 5 _ _ _ hSz.1; have c1_0 := cell_of_row _ _ 0 _ _ _ hSz.2.1; have c1_1 := cell_of_row _ _ 1 _ _ _ hSz.2.1; have c1_2 := cell_of_row _ _ 2 _ _ _ hSz.2.1; have c1_3 := cell_of_row _ _ 3 _ _ _ hSz.2.1; have c1_4 := cell_of_row _ _ 4 _ _ _ hSz.2.1; have c1_5 := cell_of_row _ _ 5 _ _ _ hSz.2.1; have c2_0 := cell_of_row _ _ 0 _ _ _ hSz.2.2.1; have c2_1 := cell_of_row _ _ 1 _ _ _ hSz.2.2.1; have c2_2 := cell_of_row _ _ 2 _ _ _ hSz.2.2.1; have c3_0 := cell_of_row _ _ 0 _ _ _ hSz.2.2.2.1; have c3_1 := cell_of_row _ _ 1 _ _ _ hSz.2.2.2.1; have c3_2 := cell_of_row _ _ 2 _ _ _ hSz.2.2.2.1; have c3_3 := cell_of_row _ _ 3 _ _ _ hSz.2.2.2.1; have c3_4 := cell_of_row _ _ 4 _ _ _ hSz.2.2.2.1; have c3_5 := cell_of_row _ _ 5 _ _ _ hSz.2.2.2.1; have c4_0 := cell_of_row _ _ 0 _ _ _ hSz.2.2.2.2; have c4_1 := cell_of_row _ _ 1 _ _ _ hSz.2.2.2.2; have c4_2 := cell_of_row _ _ 2 _ _ _ hSz.2.2.2.2; have c4_3 := cell_of_row _ _ 3 _ _ _ hSz.2.2.2.2; have c4_4 := cell_of_row _ _ 4 _ _ _ hSz.2.2.2.2; have c4_5 := cell_of_row _ _ 5 _ _ _ hSz.2.2.2.2; simp at c0_0 c0_1 c0_2 c0_3 c0_4 c0_5 c1_0 c1_1 c1_2 c1_3 c1_4 c1_5 c2_0 c2_1 c2_2 c3_0 c3_1 c3_2 c3_3 c3_4 c3_5 c4_0 c4_1 c4_2 c4_3 c4_4 c4_5; go_simp; try with_reducible rfl)⟩) hS10c ?_
      go_simp
      refine wpAnyH_ready (rs := [14]) (by kernel_rfl) (by simp) ?_
      refine AllReadyH.cons rfl (fun K hK => ?_) AllReadyH.nil
      go_simp
      go_wp2_with (go_at_call 36; refine (bholds_any _ _ _ _ _ _ _ _ _ _ _ _ _).mono ?_; rintro e y11 ⟨rfl, hb11⟩; rw [show holds6 a0 a1 a2 a3 a4 a5 b0 b1 b2 b3 b4 b5 = (has6 a0 a1 a2 a3 a4 a5 b3 b4 b5) by simp [holds6, h1]])
      have hr11_0 := (hb11.block _ (lt_heap hr10_0)).trans hr10_0
      have hr11_1 := (hb11.block _ (lt_heap hr10_1)).trans hr10_1
      have hr11_2 := (hb11.block _ (lt_heap hr10_2)).trans hr10_2
      have hr11_3 := (hb11.block _ (lt_heap hr10_3)).trans hr10_3
      have hr11_4 := (hb11.block _ (lt_heap hr10_4)).trans hr10_4
      have HU11 := Lib.hid (HU10.out.trans (hb11.mono HU10.out.size))
      refine hK.out _ _ (⟨(hb11.block _ (lt_heap hS10c.1)).trans hS10c.1, (hb11.block _ (lt_heap hS10c.2.1)).trans hS10c.2.1, (hb11.block _ (lt_heap hS10c.2.2.1)).trans hS10c.2.2.1, (hb11.block _ (lt_heap hS10c.2.2.2.1)).trans hS10c.2.2.2.1, (hb11.block _ (lt_heap hS10c.2.2.2.2)).trans hS10c.2.2.2.2⟩) (fun hS11c => ?_)
      clear hK K
      refine wpAnyH_ready (rs := [18]) (by kernel_rfl) (by simp) ?_
      refine AllReadyH.cons rfl (fun K hK => ?_) AllReadyH.nil
      go_simp
      go_wp2_with (go_at_call 35; refine (rhas_any _ _ _ _ _ _ _ _ _ _).mono ?_; rintro e y12 ⟨rfl, hb12⟩; rw [h1])
      have hr12_0 := (hb12.block _ (lt_heap hr11_0)).trans hr11_0
      have hr12_1 := (hb12.block _ (lt_heap hr11_1)).trans hr11_1
      have hr12_2 := (hb12.block _ (lt_heap hr11_2)).trans hr11_2
      have hr12_3 := (hb12.block _ (lt_heap hr11_3)).trans hr11_3
      have hr12_4 := (hb12.block _ (lt_heap hr11_4)).trans hr11_4
      have HU12 := Lib.hid (HU11.out.trans (hb12.mono HU11.out.size))
      refine hK.out _ _ (⟨(hb12.block _ (lt_heap hS11c.1)).trans hS11c.1, (hb12.block _ (lt_heap hS11c.2.1)).trans hS11c.2.1, (hb12.block _ (lt_heap hS11c.2.2.1)).trans hS11c.2.2.1, (hb12.block _ (lt_heap hS11c.2.2.2.1)).trans hS11c.2.2.2.1, (hb12.block _ (lt_heap hS11c.2.2.2.2)).trans hS11c.2.2.2.2⟩) (fun hS12c => ?_)
      clear hK K
      refine wpAnyH_take (i := 19) (v := ?_) rfl (by kernel_rfl) (by kernel_rfl) (by kernel_rfl) (fun _ _ _ h => h) (Or.inl ⟨by kernel_rfl, by (intro wz hSz; go_simp; try with_reducible rfl)⟩) hS12c ?_
      go_simp
      refine wpAnyH_take (i := 20) (v := ?_) rfl (by kernel_rfl) (by kernel_rfl) (by kernel_rfl) (fun _ _ _ h => h) (Or.inl ⟨by kernel_rfl, by (intro wz hSz; have c0_0 := cell_of_row _ _ 0 _ _ _ hSz.1; have c0_1 := cell_of_row _ _ 1 _ _ _ hSz.1; have c0_2 := cell_of_row _ _ 2 _ _ _ hSz.1; have c0_3 := cell_of_row _ _ 3 _ _ _ hSz.1; have c0_4 := cell_of_row _ _ 4 _ _ _ hSz.1; have c0_5 := cell_of_row _ _ 5 _ _ _ hSz.1; have c1_0 := cell_of_row _ _ 0 _ _ _ hSz.2.1; have c1_1 := cell_of_row _ _ 1 _ _ _ hSz.2.1; have c1_2 := cell_of_row _ _ 2 _ _ _ hSz.2.1; have c1_3 := cell_of_row _ _ 3 _ _ _ hSz.2.1; have c1_4 := cell_of_row _ _ 4 _ _ _ hSz.2.1; have c1_5 := cell_of_row _ _ 5 _ _ _ hSz.2.1; have c2_0 := cell_of_row _ _ 0 _ _ _ hSz.2.2.1; have c2_1 := cell_of_row _ _ 1 _ _ _ hSz.2.2.1; have c2_2 := cell_of_row _ _ 2 _ _ _ hSz.2.2.1; have c3_0 := cell_of_row _ _ 0 _ _ _ hSz.2.2.2.1; have c3_1 := cell_of_row _ _ 1 _ _ _ hSz.2.2.2.1; have c3_2 := cell_of_row _ _ 2 _ _ _ hSz.2.2.2.1; have c3_3 := cell_of_row _ _ 3 _ _ _ hSz.2.2.2.1; have c3_4 := cell_of_row _ _ 4 _ _ _ hSz.2.2.2.1; have c3_5 := cell_of_row _ _ 5 _ _ _ hSz.2.2.2.1; have c4_0 := cell_of_row _ _ 0 _ _ _ hSz.2.2.2.2; have c4_1 := cell_of_row _ _ 1 _ _ _ hSz.2.2.2.2; have c4_2 := cell_of_row _ _ 2 _ _ _ hSz.2.2.2.2; have c4_3 := cell_of_row _ _ 3 _ _ _ hSz.2.2.2.2; have c4_4 := cell_of_row _ _ 4 _ _ _ hSz.2.2.2.2; have c4_5 := cell_of_row _ _ 5 _ _ _ hSz.2.2.2.2; simp at c0_0 c0_1 c0_2 c0_3 c0_4 c0_5 c1_0 c1_1 c1_2 c1_3 c1_4 c1_5 c2_0 c2_1 c2_2 c3_0 c3_1 c3_2 c3_3 c3_4 c3_5 c4_0 c4_1 c4_2 c4_3 c4_4 c4_5; go_simp; try with_reducible rfl)⟩) hS12c ?_
      go_simp
      refine wpAnyH_take (i := 21) (v := ?_) rfl (by kernel_rfl) (by kernel_rfl) (by kernel_rfl) (fun _ _ _ h => h) (Or.inl ⟨by kernel_rfl, by (intro wz hSz; go_simp; try with_reducible rfl)⟩) hS12c ?_
      go_simp
      refine wpAnyH_take (i := 22) (v := ?_) rfl (by kernel_rfl) (by kernel_rfl) (by kernel_rfl) (fun _ _ _ h => h) (Or.inl ⟨by kernel_rfl, by (intro wz hSz; have c0_0 := cell_of_row _ _ 0 _ _ _ hSz.1; have c0_1 := cell_of_row _ _ 1 _ _ _ hSz.1; have c0_2 := cell_of_row _ _ 2 _ _ _ hSz.1; have c0_3 := cell_of_row _ _ 3 _ _ _ hSz.1; have c0_4 := cell_of_row _ _ 4 _ _ _ hSz.1; have c0_5 := cell_of_row _ _ 5 _ _ _ hSz.1; have c1_0 := cell_of_row _ _ 0 _ _ _ hSz.2.1; have c1_1 := cell_of_row _ _ 1 _ _ _ hSz.2.1; have c1_2 := cell_of_row _ _ 2 _ _ _ hSz.2.1; have c1_3 := cell_of_row _ _ 3 _ _ _ hSz.2.1; have c1_4 := cell_of_row _ _ 4 _ _ _ hSz.2.1; have c1_5 := cell_of_row _ _ 5 _ _ _ hSz.2.1; have c2_0 := cell_of_row _ _ 0 _ _ _ hSz.2.2.1; have c2_1 := cell_of_row _ _ 1 _ _ _ hSz.2.2.1; have c2_2 := cell_of_row _ _ 2 _ _ _ hSz.2.2.1; have c3_0 := cell_of_row _ _ 0 _ _ _ hSz.2.2.2.1; have c3_1 := cell_of_row _ _ 1 _ _ _ hSz.2.2.2.1; have c3_2 := cell_of_row _ _ 2 _ _ _ hSz.2.2.2.1; have c3_3 := cell_of_row _ _ 3 _ _ _ hSz.2.2.2.1; have c3_4 := cell_of_row _ _ 4 _ _ _ hSz.2.2.2.1; have c3_5 := cell_of_row _ _ 5 _ _ _ hSz.2.2.2.1; have c4_0 := cell_of_row _ _ 0 _ _ _ hSz.2.2.2.2; have c4_1 := cell_of_row _ _ 1 _ _ _ hSz.2.2.2.2; have c4_2 := cell_of_row _ _ 2 _ _ _ hSz.2.2.2.2; have c4_3 := cell_of_row _ _ 3 _ _ _ hSz.2.2.2.2; have c4_4 := cell_of_row _ _ 4 _ _ _ hSz.2.2.2.2; have c4_5 := cell_of_row _ _ 5 _ _ _ hSz.2.2.2.2; simp at c0_0 c0_1 c0_2 c0_3 c0_4 c0_5 c1_0 c1_1 c1_2 c1_3 c1_4 c1_5 c2_0 c2_1 c2_2 c3_0 c3_1 c3_2 c3_3 c3_4 c3_5 c4_0 c4_1 c4_2 c4_3 c4_4 c4_5; go_simp; try with_reducible rfl)⟩) hS12c ?_
      go_simp
      refine wpAnyH_ready (rs := [23]) (by kernel_rfl) (by simp) ?_
      refine AllReadyH.cons rfl (fun K hK => ?_) AllReadyH.nil
      go_simp
      go_wp2_with (go_at_call 35; refine (rhas_any _ _ _ _ _ _ _ _ _ _).mono ?_; rintro e y13 ⟨rfl, hb13⟩)
      have hr13_0 := (hb13.block _ (lt_heap hr12_0)).trans hr12_0
      have hr13_1 := (hb13.block _ (lt_heap hr12_1)).trans hr12_1
      have hr13_2 := (hb13.block _ (lt_heap hr12_2)).trans hr12_2
      have hr13_3 := (hb13.block _ (lt_heap hr12_3)).trans hr12_3
      have hr13_4 := (hb13.block _ (lt_heap hr12_4)).trans hr12_4
      have HU13 := Lib.hid (HU12.out.trans (hb13.mono HU12.out.size))
      refine hK.out _ _ (⟨(hb13.block _ (lt_heap hS12c.1)).trans hS12c.1, (hb13.block _ (lt_heap hS12c.2.1)).trans hS12c.2.1, (hb13.block _ (lt_heap hS12c.2.2.1)).trans hS12c.2.2.1, (hb13.block _ (lt_heap hS12c.2.2.2.1)).trans hS12c.2.2.2.1, (hb13.block _ (lt_heap hS12c.2.2.2.2)).trans hS12c.2.2.2.2⟩) (fun hS13c => ?_)
      clear hK K
      refine wpAnyH_take (i := 24) (v := ?_) rfl (by kernel_rfl) (by kernel_rfl) (by kernel_rfl) (fun _ _ _ h => h) (Or.inl ⟨by kernel_rfl, by (intro wz hSz; go_simp; try with_reducible rfl)⟩) hS13c ?_
      go_simp
      refine wpAnyH_take (i := 25) (v := ?_) rfl (by kernel_rfl) (by kernel_rfl) (by kernel_rfl) (fun _ _ _ h => h) (Or.inl ⟨by kernel_rfl, by (intro wz hSz; go_simp; try with_reducible rfl)⟩) hS13c ?_
      go_simp
      refine wpAnyH_take (i := 26) (v := ?_) rfl (by kernel_rfl) (by kernel_rfl) (by kernel_rfl) (fun _ _ _ h => h) (Or.inl ⟨by kernel_rfl, by (intro wz hSz; go_simp; try with_reducible rfl)⟩) hS13c ?_
      go_simp
      refine wpAnyH_take (i := 27) (v := ?_) rfl (by kernel_rfl) (by kernel_rfl) (by kernel_rfl) (fun _ _ _ h => h) (Or.inl ⟨by kernel_rfl, by (intro wz hSz; go_simp; try with_reducible rfl)⟩) hS13c ?_
      go_simp
      refine wpAnyH_take (i := 28) (v := ?_) rfl (by kernel_rfl) (by kernel_rfl) (by kernel_rfl) (fun _ _ _ h => h) (Or.inl ⟨by kernel_rfl, by (intro wz hSz; have c0_0 := cell_of_row _ _ 0 _ _ _ hSz.1; have c0_1 := cell_of_row _ _ 1 _ _ _ hSz.1; have c0_2 := cell_of_row _ _ 2 _ _ _ hSz.1; have c0_3 := cell_of_row _ _ 3 _ _ _ hSz.1; have c0_4 := cell_of_row _ _ 4 _ _ _ hSz.1; have c0_5 := cell_of_row _ _ 5 _ _ _ hSz.1; have c1_0 := cell_of_row _ _ 0 _ _ _ hSz.2.1; have c1_1 := cell_of_row _ _ 1 _ _ _ hSz.2.1; have c1_2 := cell_of_row _ _ 2 _ _ _ hSz.2.1; have c1_3 := cell_of_row _ _ 3 _ _ _ hSz.2.1; have c1_4 := cell_of_row _ _ 4 _ _ _ hSz.2.1; have c1_5 := cell_of_row _ _ 5 _ _ _ hSz.2.1; have c2_0 := cell_of_row _ _ 0 _ _ _ hSz.2.2.1; have c2_1 := cell_of_row _ _ 1 _ _ _ hSz.2.2.1; have c2_2 := cell_of_row _ _ 2 _ _ _ hSz.2.2.1; have c3_0 := cell_of_row _ _ 0 _ _ _ hSz.2.2.2.1; have c3_1 := cell_of_row _ _ 1 _ _ _ hSz.2.2.2.1; have c3_2 := cell_of_row _ _ 2 _ _ _ hSz.2.2.2.1; have c3_3 := cell_of_row _ _ 3 _ _ _ hSz.2.2.2.1; have c3_4 := cell_of_row _ _ 4 _ _ _ hSz.2.2.2.1; have c3_5 := cell_of_row _ _ 5 _ _ _ hSz.2.2.2.1; have c4_0 := cell_of_row _ _ 0 _ _ _ hSz.2.2.2.2; have c4_1 := cell_of_row _ _ 1 _ _ _ hSz.2.2.2.2; have c4_2 := cell_of_row _ _ 2 _ _ _ hSz.2.2.2.2; have c4_3 := cell_of_row _ _ 3 _ _ _ hSz.2.2.2.2; have c4_4 := cell_of_row _ _ 4 _ _ _ hSz.2.2.2.2; have c4_5 := cell_of_row _ _ 5 _ _ _ hSz.2.2.2.2; simp at c0_0 c0_1 c0_2 c0_3 c0_4 c0_5 c1_0 c1_1 c1_2 c1_3 c1_4 c1_5 c2_0 c2_1 c2_2 c3_0 c3_1 c3_2 c3_3 c3_4 c3_5 c4_0 c4_1 c4_2 c4_3 c4_4 c4_5; go_simp; try with_reducible rfl)⟩) hS13c ?_
      go_simp
      refine wpAnyH_take (i := 29) (v := ?_) rfl (by kernel_rfl) (by kernel_rfl) (by kernel_rfl) (fun _ _ _ h => h) (Or.inl ⟨by kernel_rfl, by (intro wz hSz; have c0_0 := cell_of_row _ _ 0 _ _ _ hSz.1; have c0_1 := cell_of_row _ _ 1 _ _ _ hSz.1; have c0_2 := cell_of_row _ _ 2 _ _ _ hSz.1; have c0_3 := cell_of_row _ _ 3 _ _ _ hSz.1; have c0_4 := cell_of_row _ _ 4 _ _ _ hSz.1; have c0_5 := cell_of_row _ _ 5 _ _ _ hSz.1; have c1_0 := cell_of_row _ _ 0 _ _ _ hSz.2.1; have c1_1 := cell_of_row _ _ 1 _ _ _ hSz.2.1; have c1_2 := cell_of_row _ _ 2 _ _ _ hSz.2.1; have c1_3 := cell_of_row _ _ 3 _ _ _ hSz.2.1; have c1_4 := cell_of_row _ _ 4 _ _ _ hSz.2.1; have c1_5 := cell_of_row _ _ 5 _ _ _ hSz.2.1; have c2_0 := cell_of_row _ _ 0 _ _ _ hSz.2.2.1; have c2_1 := cell_of_row _ _ 1 _ _ _ hSz.2.2.1; have c2_2 := cell_of_row _ _ 2 _ _ _ hSz.2.2.1; have c3_0 := cell_of_row _ _ 0 _ _ _ hSz.2.2.2.1; have c3_1 := cell_of_row _ _ 1 _ _ _ hSz.2.2.2.1; have c3_2 := cell_of_row _ _ 2 _ _ _ hSz.2.2.2.1; have c3_3 := cell_of_row _ _ 3 _ _ _ hSz.2.2.2.1; have c3_4 := cell_of_row _ _ 4 _ _ _ hSz.2.2.2.1; have c3_5 := cell_of_row _ _ 5 _ _ _ hSz.2.2.2.1; have c4_0 := cell_of_row _ _ 0 _ _ _ hSz.2.2.2.2; have c4_1 := cell_of_row _ _ 1 _ _ _ hSz.2.2.2.2; have c4_2 := cell_of_row _ _ 2 _ _ _ hSz.2.2.2.2; have c4_3 := cell_of_row _ _ 3 _ _ _ hSz.2.2.2.2; have c4_4 := cell_of_row _ _ 4 _ _ _ hSz.2.2.2.2; have c4_5 := cell_of_row _ _ 5 _ _ _ hSz.2.2.2.2; simp at c0_0 c0_1 c0_2 c0_3 c0_4 c0_5 c1_0 c1_1 c1_2 c1_3 c1_4 c1_5 c2_0 c2_1 c2_2 c3_0 c3_1 c3_2 c3_3 c3_4 c3_5 c4_0 c4_1 c4_2 c4_3 c4_4 c4_5; go_simp; try with_reducible rfl)⟩) hS13c ?_
      go_simp
      refine wpAnyH_take (i := 31) (v := ?_) rfl (by kernel_rfl) (by kernel_rfl) (by kernel_rfl) (fun _ _ _ h => h) (Or.inl ⟨by kernel_rfl, by (intro wz hSz; have c0_0 := cell_of_row _ _ 0 _ _ _ hSz.1; have c0_1 := cell_of_row _ _ 1 _ _ _ hSz.1; have c0_2 := cell_of_row _ _ 2 _ _ _ hSz.1; have c0_3 := cell_of_row _ _ 3 _ _ _ hSz.1; have c0_4 := cell_of_row _ _ 4 _ _ _ hSz.1; have c0_5 := cell_of_row _ _ 5 _ _ _ hSz.1; have c1_0 := cell_of_row _ _ 0 _ _ _ hSz.2.1; have c1_1 := cell_of_row _ _ 1 _ _ _ hSz.2.1; have c1_2 := cell_of_row _ _ 2 _ _ _ hSz.2.1; have c1_3 := cell_of_row _ _ 3 _ _ _ hSz.2.1; have c1_4 := cell_of_row _ _ 4 _ _ _ hSz.2.1; have c1_5 := cell_of_row _ _ 5 _ _ _ hSz.2.1; have c2_0 := cell_of_row _ _ 0 _ _ _ hSz.2.2.1; have c2_1 := cell_of_row _ _ 1 _ _ _ hSz.2.2.1; have c2_2 := cell_of_row _ _ 2 _ _ _ hSz.2.2.1; have c3_0 := cell_of_row _ _ 0 _ _ _ hSz.2.2.2.1; have c3_1 := cell_of_row _ _ 1 _ _ _ hSz.2.2.2.1; have c3_2 := cell_of_row _ _ 2 _ _ _ hSz.2.2.2.1; have c3_3 := cell_of_row _ _ 3 _ _ _ hSz.2.2.2.1; have c3_4 := cell_of_row _ _ 4 _ _ _ hSz.2.2.2.1; have c3_5 := cell_of_row _ _ 5 _ _ _ hSz.2.2.2.1; have c4_0 := cell_of_row _ _ 0 _ _ _ hSz.2.2.2.2; have c4_1 := cell_of_row _ _ 1 _ _ _ hSz.2.2.2.2; have c4_2 := cell_of_row _ _ 2 _ _ _ hSz.2.2.2.2; have c4_3 := cell_of_row _ _ 3 _ _ _ hSz.2.2.2.2; have c4_4 := cell_of_row _ _ 4 _ _ _ hSz.2.2.2.2; have c4_5 := cell_of_row _ _ 5 _ _ _ hSz.2.2.2.2; simp at c0_0 c0_1 c0_2 c0_3 c0_4 c0_5 c1_0 c1_1 c1_2 c1_3 c1_4 c1_5 c2_0 c2_1 c2_2 c3_0 c3_1 c3_2 c3_3 c3_4 c3_5 c4_0 c4_1 c4_2 c4_3 c4_4 c4_5; go_simp; try with_reducible rfl)⟩) hS13c ?_
      go_simp
      refine wpAnyH_take (i := 32) (v := ?_) rfl (by kernel_rfl) (by kernel_rfl) (by kernel_rfl) (fun _ _ _ h => h) (Or.inl ⟨by kernel_rfl, by (intro wz hSz; have c0_0 := cell_of_row _ _ 0 _ _ _ hSz.1; have c0_1 := cell_of_row _ _ 1 _ _ _ hSz.1; have c0_2 := cell_of_row _ _ 2 _ _ _ hSz.1; have c0_3 := cell_of_row _ _ 3 _ _ _ hSz.1; have c0_4 := cell_of_row _ _ 4 _ _ _ hSz.1; have c0_5 := cell_of_row _ _ 5 _ _ _ hSz.1; have c1_0 := cell_of_row _ _ 0 _ _ _ hSz.2.1; have c1_1 := cell_of_row _ _ 1 _ _ _ hSz.2.1; have c1_2 := cell_of_row _ _ 2 _ _ _ hSz.2.1; have c1_3 := cell_of_row _ _ 3 _ _ _ hSz.2.1; have c1_4 := cell_of_row _ _ 4 _ _ _ hSz.2.1; have c1_5 := cell_of_row _ _ 5 _ _ _ hSz.2.1; have c2_0 := cell_of_row _ _ 0 _ _ _ hSz.2.2.1; have c2_1 := cell_of_row _ _ 1 _ _ _ hSz.2.2.1; have c2_2 := cell_of_row _ _ 2 _ _ _ hSz.2.2.1; have c3_0 := cell_of_row _ _ 0 _ _ _ hSz.2.2.2.1; have c3_1 := cell_of_row _ _ 1 _ _ _ hSz.2.2.2.1; have c3_2 := cell_of_row _ _ 2 _ _ _ hSz.2.2.2.1; have c3_3 := cell_of_row _ _ 3 _ _ _ hSz.2.2.2.1; have c3_4 := cell_of_row _ _ 4 _ _ _ hSz.2.2.2.1; have c3_5 := cell_of_row _ _ 5 _ _ _ hSz.2.2.2.1; have c4_0 := cell_of_row _ _ 0 _ _ _ hSz.2.2.2.2; have c4_1 := cell_of_row _ _ 1 _ _ _ hSz.2.2.2.2; have c4_2 := cell_of_row _ _ 2 _ _ _ hSz.2.2.2.2; have c4_3 := cell_of_row _ _ 3 _ _ _ hSz.2.2.2.2; have c4_4 := cell_of_row _ _ 4 _ _ _ hSz.2.2.2.2; have c4_5 := cell_of_row _ _ 5 _ _ _ hSz.2.2.2.2; simp at c0_0 c0_1 c0_2 c0_3 c0_4 c0_5 c1_0 c1_1 c1_2 c1_3 c1_4 c1_5 c2_0 c2_1 c2_2 c3_0 c3_1 c3_2 c3_3 c3_4 c3_5 c4_0 c4_1 c4_2 c4_3 c4_4 c4_5; go_simp; try with_reducible rfl)⟩) hS13c ?_
      go_simp
      refine wpAnyH_ready (rs := [30]) (by kernel_rfl) (by simp) ?_
      refine AllReadyH.cons rfl (fun K hK => ?_) AllReadyH.nil
      go_simp
      go_wp2_with (go_at_call 37; refine (bmeets_any _ _ _ _ _ _ _ _ _ _ _ _ _).mono ?_; rintro e y14 ⟨rfl, hb14⟩)
      have hr14_0 := (hb14.block _ (lt_heap hr13_0)).trans hr13_0
      have hr14_1 := (hb14.block _ (lt_heap hr13_1)).trans hr13_1
      have hr14_2 := (hb14.block _ (lt_heap hr13_2)).trans hr13_2
      have hr14_3 := (hb14.block _ (lt_heap hr13_3)).trans hr13_3
      have hr14_4 := (hb14.block _ (lt_heap hr13_4)).trans hr13_4
      have HU14 := Lib.hid (HU13.out.trans (hb14.mono HU13.out.size))
      refine hK.out _ _ (⟨(hb14.block _ (lt_heap hS13c.1)).trans hS13c.1, (hb14.block _ (lt_heap hS13c.2.1)).trans hS13c.2.1, (hb14.block _ (lt_heap hS13c.2.2.1)).trans hS13c.2.2.1, (hb14.block _ (lt_heap hS13c.2.2.2.1)).trans hS13c.2.2.2.1, (hb14.block _ (lt_heap hS13c.2.2.2.2)).trans hS13c.2.2.2.2⟩) (fun hS14c => ?_)
      clear hK K
      refine wpAnyH_ready (rs := [33]) (by kernel_rfl) (by simp) ?_
      refine AllReadyH.cons rfl (fun K hK => ?_) AllReadyH.nil
      go_simp
      go_wp2_with (go_at_call 38; refine (rmeets_any _ _ _ _ _ _ _ _ _ _ _ _ _).mono ?_; rintro e y15 ⟨rfl, hb15⟩)
      have hr15_0 := (hb15.block _ (lt_heap hr14_0)).trans hr14_0
      have hr15_1 := (hb15.block _ (lt_heap hr14_1)).trans hr14_1
      have hr15_2 := (hb15.block _ (lt_heap hr14_2)).trans hr14_2
      have hr15_3 := (hb15.block _ (lt_heap hr14_3)).trans hr14_3
      have hr15_4 := (hb15.block _ (lt_heap hr14_4)).trans hr14_4
      have HU15 := Lib.hid (HU14.out.trans (hb15.mono HU14.out.size))
      refine hK.out _ _ (⟨(hb15.block _ (lt_heap hS14c.1)).trans hS14c.1, (hb15.block _ (lt_heap hS14c.2.1)).trans hS14c.2.1, (hb15.block _ (lt_heap hS14c.2.2.1)).trans hS14c.2.2.1, (hb15.block _ (lt_heap hS14c.2.2.2.1)).trans hS14c.2.2.2.1, (hb15.block _ (lt_heap hS14c.2.2.2.2)).trans hS14c.2.2.2.2⟩) (fun hS15c => ?_)
      clear hK K
      refine wpAnyH_take (i := 34) (v := ?_) rfl (by kernel_rfl) (by kernel_rfl) (by kernel_rfl) (fun _ _ _ h => h) (Or.inl ⟨by kernel_rfl, by (intro wz hSz; go_simp; try with_reducible rfl)⟩) hS15c ?_
      go_simp
      refine wpAnyH_take (i := 35) (v := ?_) rfl (by kernel_rfl) (by kernel_rfl) (by kernel_rfl) (fun _ _ _ h => h) (Or.inl ⟨by kernel_rfl, by (intro wz hSz; go_simp; try with_reducible rfl)⟩) hS15c ?_
      go_simp
      refine wpAnyH_take (i := 36) (v := ?_) rfl (by kernel_rfl) (by kernel_rfl) (by kernel_rfl) (fun _ _ _ h => h) (Or.inl ⟨by kernel_rfl, by (intro wz hSz; go_simp; try with_reducible rfl)⟩) hS15c ?_
      go_simp
      refine wpAnyH_take (i := 37) (v := ?_) rfl (by kernel_rfl) (by kernel_rfl) (by kernel_rfl) (fun _ _ _ h => h) (Or.inl ⟨by kernel_rfl, by (intro wz hSz; have c0_0 := cell_of_row _ _ 0 _ _ _ hSz.1; have c0_1 := cell_of_row _ _ 1 _ _ _ hSz.1; have c0_2 := cell_of_row _ _ 2 _ _ _ hSz.1; have c0_3 := cell_of_row _ _ 3 _ _ _ hSz.1; have c0_4 := cell_of_row _ _ 4 _ _ _ hSz.1; have c0_5 := cell_of_row _ _ 5 _ _ _ hSz.1; have c1_0 := cell_of_row _ _ 0 _ _ _ hSz.2.1; have c1_1 := cell_of_row _ _ 1 _ _ _ hSz.2.1; have c1_2 := cell_of_row _ _ 2 _ _ _ hSz.2.1; have c1_3 := cell_of_row _ _ 3 _ _ _ hSz.2.1; have c1_4 := cell_of_row _ _ 4 _ _ _ hSz.2.1; have c1_5 := cell_of_row _ _ 5 _ _ _ hSz.2.1; have c2_0 := cell_of_row _ _ 0 _ _ _ hSz.2.2.1; have c2_1 := cell_of_row _ _ 1 _ _ _ hSz.2.2.1; have c2_2 := cell_of_row _ _ 2 _ _ _ hSz.2.2.1; have c3_0 := cell_of_row _ _ 0 _ _ _ hSz.2.2.2.1; have c3_1 := cell_of_row _ _ 1 _ _ _ hSz.2.2.2.1; have c3_2 := cell_of_row _ _ 2 _ _ _ hSz.2.2.2.1; have c3_3 := cell_of_row _ _ 3 _ _ _ hSz.2.2.2.1; have c3_4 := cell_of_row _ _ 4 _ _ _ hSz.2.2.2.1; have c3_5 := cell_of_row _ _ 5 _ _ _ hSz.2.2.2.1; have c4_0 := cell_of_row _ _ 0 _ _ _ hSz.2.2.2.2; have c4_1 := cell_of_row _ _ 1 _ _ _ hSz.2.2.2.2; have c4_2 := cell_of_row _ _ 2 _ _ _ hSz.2.2.2.2; have c4_3 := cell_of_row _ _ 3 _ _ _ hSz.2.2.2.2; have c4_4 := cell_of_row _ _ 4 _ _ _ hSz.2.2.2.2; have c4_5 := cell_of_row _ _ 5 _ _ _ hSz.2.2.2.2; simp at c0_0 c0_1 c0_2 c0_3 c0_4 c0_5 c1_0 c1_1 c1_2 c1_3 c1_4 c1_5 c2_0 c2_1 c2_2 c3_0 c3_1 c3_2 c3_3 c3_4 c3_5 c4_0 c4_1 c4_2 c4_3 c4_4 c4_5; go_simp; try with_reducible rfl)⟩) hS15c ?_
      go_simp
      refine wpAnyH_take (i := 40) (v := ?_) rfl (by kernel_rfl) (by kernel_rfl) (by kernel_rfl) (fun _ _ _ h => h) (Or.inl ⟨by kernel_rfl, by (intro wz hSz; go_simp; try with_reducible rfl)⟩) hS15c ?_
      go_simp
      refine wpAnyH_take (i := 41) (v := ?_) rfl (by kernel_rfl) (by kernel_rfl) (by kernel_rfl) (fun _ _ _ h => h) (Or.inl ⟨by kernel_rfl, by (intro wz hSz; have c0_0 := cell_of_row _ _ 0 _ _ _ hSz.1; have c0_1 := cell_of_row _ _ 1 _ _ _ hSz.1; have c0_2 := cell_of_row _ _ 2 _ _ _ hSz.1; have c0_3 := cell_of_row _ _ 3 _ _ _ hSz.1; have c0_4 := cell_of_row _ _ 4 _ _ _ hSz.1; have c0_5 := cell_of_row _ _ 5 _ _ _ hSz.1; have c1_0 := cell_of_row _ _ 0 _ _ _ hSz.2.1; have c1_1 := cell_of_row _ _ 1 _ _ _ hSz.2.1; have c1_2 := cell_of_row _ _ 2 _ _ _ hSz.2.1; have c1_3 := cell_of_row _ _ 3 _ _ _ hSz.2.1; have c1_4 := cell_of_row _ _ 4 _ _ _ hSz.2.1; have c1_5 := cell_of_row _ _ 5 _ _ _ hSz.2.1; have c2_0 := cell_of_row _ _ 0 _ _ _ hSz.2.2.1; have c2_1 := cell_of_row _ _ 1 _ _ _ hSz.2.2.1; have c2_2 := cell_of_row _ _ 2 _ _ _ hSz.2.2.1; have c3_0 := cell_of_row _ _ 0 _ _ _ hSz.2.2.2.1; have c3_1 := cell_of_row _ _ 1 _ _ _ hSz.2.2.2.1; have c3_2 := cell_of_row _ _ 2 _ _ _ hSz.2.2.2.1; have c3_3 := cell_of_row _ _ 3 _ _ _ hSz.2.2.2.1; have c3_4 := cell_of_row _ _ 4 _ _ _ hSz.2.2.2.1; have c3_5 := cell_of_row _ _ 5 _ _ _ hSz.2.2.2.1; have c4_0 := cell_of_row _ _ 0 _ _ _ hSz.2.2.2.2; have c4_1 := cell_of_row _ _ 1 _ _ _ hSz.2.2.2.2; have c4_2 := cell_of_row _ _ 2 _ _ _ hSz.2.2.2.2; have c4_3 := cell_of_row _ _ 3 _ _ _ hSz.2.2.2.2; have c4_4 := cell_of_row _ _ 4 _ _ _ hSz.2.2.2.2; have c4_5 := cell_of_row _ _ 5 _ _ _ hSz.2.2.2.2; simp at c0_0 c0_1 c0_2 c0_3 c0_4 c0_5 c1_0 c1_1 c1_2 c1_3 c1_4 c1_5 c2_0 c2_1 c2_2 c3_0 c3_1 c3_2 c3_3 c3_4 c3_5 c4_0 c4_1 c4_2 c4_3 c4_4 c4_5; go_simp; try with_reducible rfl)⟩) hS15c ?_
      go_simp
      refine wpAnyH_take (i := 42) (v := ?_) rfl (by kernel_rfl) (by kernel_rfl) (by kernel_rfl) (fun _ _ _ h => h) (Or.inl ⟨by kernel_rfl, by (intro wz hSz; go_simp; try with_reducible rfl)⟩) hS15c ?_
      go_simp
      refine wpAnyH_take (i := 43) (v := ?_) rfl (by kernel_rfl) (by kernel_rfl) (by kernel_rfl) (fun _ _ _ h => h) (Or.inl ⟨by kernel_rfl, by (intro wz hSz; have c0_0 := cell_of_row _ _ 0 _ _ _ hSz.1; have c0_1 := cell_of_row _ _ 1 _ _ _ hSz.1; have c0_2 := cell_of_row _ _ 2 _ _ _ hSz.1; have c0_3 := cell_of_row _ _ 3 _ _ _ hSz.1; have c0_4 := cell_of_row _ _ 4 _ _ _ hSz.1; have c0_5 := cell_of_row _ _ 5 _ _ _ hSz.1; have c1_0 := cell_of_row _ _ 0 _ _ _ hSz.2.1; have c1_1 := cell_of_row _ _ 1 _ _ _ hSz.2.1; have c1_2 := cell_of_row _ _ 2 _ _ _ hSz.2.1; have c1_3 := cell_of_row _ _ 3 _ _ _ hSz.2.1; have c1_4 := cell_of_row _ _ 4 _ _ _ hSz.2.1; have c1_5 := cell_of_row _ _ 5 _ _ _ hSz.2.1; have c2_0 := cell_of_row _ _ 0 _ _ _ hSz.2.2.1; have c2_1 := cell_of_row _ _ 1 _ _ _ hSz.2.2.1; have c2_2 := cell_of_row _ _ 2 _ _ _ hSz.2.2.1; have c3_0 := cell_of_row _ _ 0 _ _ _ hSz.2.2.2.1; have c3_1 := cell_of_row _ _ 1 _ _ _ hSz.2.2.2.1; have c3_2 := cell_of_row _ _ 2 _ _ _ hSz.2.2.2.1; have c3_3 := cell_of_row _ _ 3 _ _ _ hSz.2.2.2.1; have c3_4 := cell_of_row _ _ 4 _ _ _ hSz.2.2.2.1; have c3_5 := cell_of_row _ _ 5 _ _ _ hSz.2.2.2.1; have c4_0 := cell_of_row _ _ 0 _ _ _ hSz.2.2.2.2; have c4_1 := cell_of_row _ _ 1 _ _ _ hSz.2.2.2.2; have c4_2 := cell_of_row _ _ 2 _ _ _ hSz.2.2.2.2; have c4_3 := cell_of_row _ _ 3 _ _ _ hSz.2.2.2.2; have c4_4 := cell_of_row _ _ 4 _ _ _ hSz.2.2.2.2; have c4_5 := cell_of_row _ _ 5 _ _ _ hSz.2.2.2.2; simp at c0_0 c0_1 c0_2 c0_3 c0_4 c0_5 c1_0 c1_1 c1_2 c1_3 c1_4 c1_5 c2_0 c2_1 c2_2 c3_0 c3_1 c3_2 c3_3 c3_4 c3_5 c4_0 c4_1 c4_2 c4_3 c4_4 c4_5; go_simp; try with_reducible rfl)⟩) hS15c ?_
      go_simp
      refine wpAnyH_ready (rs := [38]) (by kernel_rfl) (by simp) ?_
      refine AllReadyH.cons rfl (fun K hK => ?_) AllReadyH.nil
      go_simp
      go_wp2_with (go_at_call 40; refine (bmiddle_any _ _ _ _ _ _ _).mono ?_; rintro e y16 ⟨rfl, hb16⟩)
      have hr16_0 := (hb16.block _ (lt_heap hr15_0)).trans hr15_0
      have hr16_1 := (hb16.block _ (lt_heap hr15_1)).trans hr15_1
      have hr16_2 := (hb16.block _ (lt_heap hr15_2)).trans hr15_2
      have hr16_3 := (hb16.block _ (lt_heap hr15_3)).trans hr15_3
      have hr16_4 := (hb16.block _ (lt_heap hr15_4)).trans hr15_4
      have HU16 := Lib.hid (HU15.out.trans (hb16.mono HU15.out.size))
      refine hK.out _ _ (⟨(hb16.block _ (lt_heap hS15c.1)).trans hS15c.1, (hb16.block _ (lt_heap hS15c.2.1)).trans hS15c.2.1, (hb16.block _ (lt_heap hS15c.2.2.1)).trans hS15c.2.2.1, (hb16.block _ (lt_heap hS15c.2.2.2.1)).trans hS15c.2.2.2.1, (hb16.block _ (lt_heap hS15c.2.2.2.2)).trans hS15c.2.2.2.2⟩) (fun hS16c => ?_)
      clear hK K
      refine wpAnyH_ready (rs := [39]) (by kernel_rfl) (by simp) ?_
      refine AllReadyH.cons rfl (fun K hK => ?_) AllReadyH.nil
      go_simp
      go_wp2_with (go_at_call 39; refine (from_any _ _ _ _).mono ?_; rintro e y17 ⟨rfl, hb17⟩)
      have hr17_0 := (hb17.block _ (lt_heap hr16_0)).trans hr16_0
      have hr17_1 := (hb17.block _ (lt_heap hr16_1)).trans hr16_1
      have hr17_2 := (hb17.block _ (lt_heap hr16_2)).trans hr16_2
      have hr17_3 := (hb17.block _ (lt_heap hr16_3)).trans hr16_3
      have hr17_4 := (hb17.block _ (lt_heap hr16_4)).trans hr16_4
      have HU17 := Lib.hid (HU16.out.trans (hb17.mono HU16.out.size))
      refine hK.out _ _ (⟨(hb17.block _ (lt_heap hS16c.1)).trans hS16c.1, (hb17.block _ (lt_heap hS16c.2.1)).trans hS16c.2.1, (hb17.block _ (lt_heap hS16c.2.2.1)).trans hS16c.2.2.1, (hb17.block _ (lt_heap hS16c.2.2.2.1)).trans hS16c.2.2.2.1, (hb17.block _ (lt_heap hS16c.2.2.2.2)).trans hS16c.2.2.2.2⟩) (fun hS17c => ?_)
      clear hK K
      refine wpAnyH_ready (rs := [44]) (by kernel_rfl) (by simp) ?_
      refine AllReadyH.cons rfl (fun K hK => ?_) AllReadyH.nil
      go_simp
      go_wp2_with (go_at_call 41; refine (rmix_any _ _ _ _ _ _ _ _).mono ?_; rintro e y18 ⟨rfl, hb18⟩)
      have hr18_0 := (hb18.block _ (lt_heap hr17_0)).trans hr17_0
      have hr18_1 := (hb18.block _ (lt_heap hr17_1)).trans hr17_1
      have hr18_2 := (hb18.block _ (lt_heap hr17_2)).trans hr17_2
      have hr18_3 := (hb18.block _ (lt_heap hr17_3)).trans hr17_3
      have hr18_4 := (hb18.block _ (lt_heap hr17_4)).trans hr17_4
      have HU18 := Lib.hid (HU17.out.trans (hb18.mono HU17.out.size))
      refine hK.out _ _ (⟨(hb18.block _ (lt_heap hS17c.1)).trans hS17c.1, (hb18.block _ (lt_heap hS17c.2.1)).trans hS17c.2.1, (hb18.block _ (lt_heap hS17c.2.2.1)).trans hS17c.2.2.1, (hb18.block _ (lt_heap hS17c.2.2.2.1)).trans hS17c.2.2.2.1, (hb18.block _ (lt_heap hS17c.2.2.2.2)).trans hS17c.2.2.2.2⟩) (fun hS18c => ?_)
      clear hK K
      refine wpAnyH_take (i := 45) (v := ?_) rfl (by kernel_rfl) (by kernel_rfl) (by kernel_rfl) (fun _ _ _ h => h) (Or.inl ⟨by kernel_rfl, by (intro wz hSz; go_simp; try with_reducible rfl)⟩) hS18c ?_
      go_simp
      refine wpAnyH_take (i := 46) (v := ?_) rfl (by kernel_rfl) (by kernel_rfl) (by kernel_rfl) (fun _ _ _ h => h) (Or.inl ⟨by kernel_rfl, by (intro wz hSz; go_simp; try with_reducible rfl)⟩) hS18c ?_
      go_simp
      refine wpAnyH_take (i := 47) (v := ?_) rfl (by kernel_rfl) (by kernel_rfl) (by kernel_rfl) (fun _ _ _ h => h) (Or.inl ⟨by kernel_rfl, by (intro wz hSz; go_simp; try with_reducible rfl)⟩) hS18c ?_
      go_simp
      refine wpAnyH_take (i := 48) (v := ?_) rfl (by kernel_rfl) (by kernel_rfl) (by kernel_rfl) (fun _ _ _ h => h) (Or.inl ⟨by kernel_rfl, by (intro wz hSz; have c0_0 := cell_of_row _ _ 0 _ _ _ hSz.1; have c0_1 := cell_of_row _ _ 1 _ _ _ hSz.1; have c0_2 := cell_of_row _ _ 2 _ _ _ hSz.1; have c0_3 := cell_of_row _ _ 3 _ _ _ hSz.1; have c0_4 := cell_of_row _ _ 4 _ _ _ hSz.1; have c0_5 := cell_of_row _ _ 5 _ _ _ hSz.1; have c1_0 := cell_of_row _ _ 0 _ _ _ hSz.2.1; have c1_1 := cell_of_row _ _ 1 _ _ _ hSz.2.1; have c1_2 := cell_of_row _ _ 2 _ _ _ hSz.2.1; have c1_3 := cell_of_row _ _ 3 _ _ _ hSz.2.1; have c1_4 := cell_of_row _ _ 4 _ _ _ hSz.2.1; have c1_5 := cell_of_row _ _ 5 _ _ _ hSz.2.1; have c2_0 := cell_of_row _ _ 0 _ _ _ hSz.2.2.1; have c2_1 := cell_of_row _ _ 1 _ _ _ hSz.2.2.1; have c2_2 := cell_of_row _ _ 2 _ _ _ hSz.2.2.1; have c3_0 := cell_of_row _ _ 0 _ _ _ hSz.2.2.2.1; have c3_1 := cell_of_row _ _ 1 _ _ _ hSz.2.2.2.1; have c3_2 := cell_of_row _ _ 2 _ _ _ hSz.2.2.2.1; have c3_3 := cell_of_row _ _ 3 _ _ _ hSz.2.2.2.1; have c3_4 := cell_of_row _ _ 4 _ _ _ hSz.2.2.2.1; have c3_5 := cell_of_row _ _ 5 _ _ _ hSz.2.2.2.1; have c4_0 := cell_of_row _ _ 0 _ _ _ hSz.2.2.2.2; have c4_1 := cell_of_row _ _ 1 _ _ _ hSz.2.2.2.2; have c4_2 := cell_of_row _ _ 2 _ _ _ hSz.2.2.2.2; have c4_3 := cell_of_row _ _ 3 _ _ _ hSz.2.2.2.2; have c4_4 := cell_of_row _ _ 4 _ _ _ hSz.2.2.2.2; have c4_5 := cell_of_row _ _ 5 _ _ _ hSz.2.2.2.2; simp at c0_0 c0_1 c0_2 c0_3 c0_4 c0_5 c1_0 c1_1 c1_2 c1_3 c1_4 c1_5 c2_0 c2_1 c2_2 c3_0 c3_1 c3_2 c3_3 c3_4 c3_5 c4_0 c4_1 c4_2 c4_3 c4_4 c4_5; go_simp; try with_reducible rfl)⟩) hS18c ?_
      go_simp
      refine wpAnyH_take (i := 51) (v := ?_) rfl (by kernel_rfl) (by kernel_rfl) (by kernel_rfl) (fun _ _ _ h => h) (Or.inl ⟨by kernel_rfl, by (intro wz hSz; go_simp; try with_reducible rfl)⟩) hS18c ?_
      go_simp
      refine wpAnyH_take (i := 52) (v := ?_) rfl (by kernel_rfl) (by kernel_rfl) (by kernel_rfl) (fun _ _ _ h => h) (Or.inl ⟨by kernel_rfl, by (intro wz hSz; have c0_0 := cell_of_row _ _ 0 _ _ _ hSz.1; have c0_1 := cell_of_row _ _ 1 _ _ _ hSz.1; have c0_2 := cell_of_row _ _ 2 _ _ _ hSz.1; have c0_3 := cell_of_row _ _ 3 _ _ _ hSz.1; have c0_4 := cell_of_row _ _ 4 _ _ _ hSz.1; have c0_5 := cell_of_row _ _ 5 _ _ _ hSz.1; have c1_0 := cell_of_row _ _ 0 _ _ _ hSz.2.1; have c1_1 := cell_of_row _ _ 1 _ _ _ hSz.2.1; have c1_2 := cell_of_row _ _ 2 _ _ _ hSz.2.1; have c1_3 := cell_of_row _ _ 3 _ _ _ hSz.2.1; have c1_4 := cell_of_row _ _ 4 _ _ _ hSz.2.1; have c1_5 := cell_of_row _ _ 5 _ _ _ hSz.2.1; have c2_0 := cell_of_row _ _ 0 _ _ _ hSz.2.2.1; have c2_1 := cell_of_row _ _ 1 _ _ _ hSz.2.2.1; have c2_2 := cell_of_row _ _ 2 _ _ _ hSz.2.2.1; have c3_0 := cell_of_row _ _ 0 _ _ _ hSz.2.2.2.1; have c3_1 := cell_of_row _ _ 1 _ _ _ hSz.2.2.2.1; have c3_2 := cell_of_row _ _ 2 _ _ _ hSz.2.2.2.1; have c3_3 := cell_of_row _ _ 3 _ _ _ hSz.2.2.2.1; have c3_4 := cell_of_row _ _ 4 _ _ _ hSz.2.2.2.1; have c3_5 := cell_of_row _ _ 5 _ _ _ hSz.2.2.2.1; have c4_0 := cell_of_row _ _ 0 _ _ _ hSz.2.2.2.2; have c4_1 := cell_of_row _ _ 1 _ _ _ hSz.2.2.2.2; have c4_2 := cell_of_row _ _ 2 _ _ _ hSz.2.2.2.2; have c4_3 := cell_of_row _ _ 3 _ _ _ hSz.2.2.2.2; have c4_4 := cell_of_row _ _ 4 _ _ _ hSz.2.2.2.2; have c4_5 := cell_of_row _ _ 5 _ _ _ hSz.2.2.2.2; simp at c0_0 c0_1 c0_2 c0_3 c0_4 c0_5 c1_0 c1_1 c1_2 c1_3 c1_4 c1_5 c2_0 c2_1 c2_2 c3_0 c3_1 c3_2 c3_3 c3_4 c3_5 c4_0 c4_1 c4_2 c4_3 c4_4 c4_5; go_simp; try with_reducible rfl)⟩) hS18c ?_
      go_simp
      refine wpAnyH_take (i := 53) (v := ?_) rfl (by kernel_rfl) (by kernel_rfl) (by kernel_rfl) (fun _ _ _ h => h) (Or.inl ⟨by kernel_rfl, by (intro wz hSz; go_simp; try with_reducible rfl)⟩) hS18c ?_
      go_simp
      refine wpAnyH_take (i := 54) (v := ?_) rfl (by kernel_rfl) (by kernel_rfl) (by kernel_rfl) (fun _ _ _ h => h) (Or.inl ⟨by kernel_rfl, by (intro wz hSz; have c0_0 := cell_of_row _ _ 0 _ _ _ hSz.1; have c0_1 := cell_of_row _ _ 1 _ _ _ hSz.1; have c0_2 := cell_of_row _ _ 2 _ _ _ hSz.1; have c0_3 := cell_of_row _ _ 3 _ _ _ hSz.1; have c0_4 := cell_of_row _ _ 4 _ _ _ hSz.1; have c0_5 := cell_of_row _ _ 5 _ _ _ hSz.1; have c1_0 := cell_of_row _ _ 0 _ _ _ hSz.2.1; have c1_1 := cell_of_row _ _ 1 _ _ _ hSz.2.1; have c1_2 := cell_of_row _ _ 2 _ _ _ hSz.2.1; have c1_3 := cell_of_row _ _ 3 _ _ _ hSz.2.1; have c1_4 := cell_of_row _ _ 4 _ _ _ hSz.2.1; have c1_5 := cell_of_row _ _ 5 _ _ _ hSz.2.1; have c2_0 := cell_of_row _ _ 0 _ _ _ hSz.2.2.1; have c2_1 := cell_of_row _ _ 1 _ _ _ hSz.2.2.1; have c2_2 := cell_of_row _ _ 2 _ _ _ hSz.2.2.1; have c3_0 := cell_of_row _ _ 0 _ _ _ hSz.2.2.2.1; have c3_1 := cell_of_row _ _ 1 _ _ _ hSz.2.2.2.1; have c3_2 := cell_of_row _ _ 2 _ _ _ hSz.2.2.2.1; have c3_3 := cell_of_row _ _ 3 _ _ _ hSz.2.2.2.1; have c3_4 := cell_of_row _ _ 4 _ _ _ hSz.2.2.2.1; have c3_5 := cell_of_row _ _ 5 _ _ _ hSz.2.2.2.1; have c4_0 := cell_of_row _ _ 0 _ _ _ hSz.2.2.2.2; have c4_1 := cell_of_row _ _ 1 _ _ _ hSz.2.2.2.2; have c4_2 := cell_of_row _ _ 2 _ _ _ hSz.2.2.2.2; have c4_3 := cell_of_row _ _ 3 _ _ _ hSz.2.2.2.2; have c4_4 := cell_of_row _ _ 4 _ _ _ hSz.2.2.2.2; have c4_5 := cell_of_row _ _ 5 _ _ _ hSz.2.2.2.2; simp at c0_0 c0_1 c0_2 c0_3 c0_4 c0_5 c1_0 c1_1 c1_2 c1_3 c1_4 c1_5 c2_0 c2_1 c2_2 c3_0 c3_1 c3_2 c3_3 c3_4 c3_5 c4_0 c4_1 c4_2 c4_3 c4_4 c4_5; go_simp; try with_reducible rfl)⟩) hS18c ?_
      go_simp
      refine wpAnyH_ready (rs := [49]) (by kernel_rfl) (by simp) ?_
      refine AllReadyH.cons rfl (fun K hK => ?_) AllReadyH.nil
      go_simp
      go_wp2_with (go_at_call 42; refine (bsize_any _ _ _ _ _ _ _).mono ?_; rintro e y19 ⟨rfl, hb19⟩)
      have hr19_0 := (hb19.block _ (lt_heap hr18_0)).trans hr18_0
      have hr19_1 := (hb19.block _ (lt_heap hr18_1)).trans hr18_1
      have hr19_2 := (hb19.block _ (lt_heap hr18_2)).trans hr18_2
      have hr19_3 := (hb19.block _ (lt_heap hr18_3)).trans hr18_3
      have hr19_4 := (hb19.block _ (lt_heap hr18_4)).trans hr18_4
      have HU19 := Lib.hid (HU18.out.trans (hb19.mono HU18.out.size))
      refine hK.out _ _ (⟨(hb19.block _ (lt_heap hS18c.1)).trans hS18c.1, (hb19.block _ (lt_heap hS18c.2.1)).trans hS18c.2.1, (hb19.block _ (lt_heap hS18c.2.2.1)).trans hS18c.2.2.1, (hb19.block _ (lt_heap hS18c.2.2.2.1)).trans hS18c.2.2.2.1, (hb19.block _ (lt_heap hS18c.2.2.2.2)).trans hS18c.2.2.2.2⟩) (fun hS19c => ?_)
      clear hK K
      refine wpAnyH_ready (rs := [50]) (by kernel_rfl) (by simp) ?_
      refine AllReadyH.cons rfl (fun K hK => ?_) AllReadyH.nil
      go_simp
      go_wp2_with (go_at_call 39; refine (from_any _ _ _ _).mono ?_; rintro e y20 ⟨rfl, hb20⟩)
      have hr20_0 := (hb20.block _ (lt_heap hr19_0)).trans hr19_0
      have hr20_1 := (hb20.block _ (lt_heap hr19_1)).trans hr19_1
      have hr20_2 := (hb20.block _ (lt_heap hr19_2)).trans hr19_2
      have hr20_3 := (hb20.block _ (lt_heap hr19_3)).trans hr19_3
      have hr20_4 := (hb20.block _ (lt_heap hr19_4)).trans hr19_4
      have HU20 := Lib.hid (HU19.out.trans (hb20.mono HU19.out.size))
      refine hK.out _ _ (⟨(hb20.block _ (lt_heap hS19c.1)).trans hS19c.1, (hb20.block _ (lt_heap hS19c.2.1)).trans hS19c.2.1, (hb20.block _ (lt_heap hS19c.2.2.1)).trans hS19c.2.2.1, (hb20.block _ (lt_heap hS19c.2.2.2.1)).trans hS19c.2.2.2.1, (hb20.block _ (lt_heap hS19c.2.2.2.2)).trans hS19c.2.2.2.2⟩) (fun hS20c => ?_)
      clear hK K
      refine wpAnyH_ready (rs := [55]) (by kernel_rfl) (by simp) ?_
      refine AllReadyH.cons rfl (fun K hK => ?_) AllReadyH.nil
      go_simp
      go_wp2_with (go_at_call 43; refine (rsub_any _ _ _ _ _ _ _).mono ?_; rintro e y21 ⟨rfl, hb21⟩)
      have hr21_0 := (hb21.block _ (lt_heap hr20_0)).trans hr20_0
      have hr21_1 := (hb21.block _ (lt_heap hr20_1)).trans hr20_1
      have hr21_2 := (hb21.block _ (lt_heap hr20_2)).trans hr20_2
      have hr21_3 := (hb21.block _ (lt_heap hr20_3)).trans hr20_3
      have hr21_4 := (hb21.block _ (lt_heap hr20_4)).trans hr20_4
      have HU21 := Lib.hid (HU20.out.trans (hb21.mono HU20.out.size))
      refine hK.out _ _ (⟨(hb21.block _ (lt_heap hS20c.1)).trans hS20c.1, (hb21.block _ (lt_heap hS20c.2.1)).trans hS20c.2.1, (hb21.block _ (lt_heap hS20c.2.2.1)).trans hS20c.2.2.1, (hb21.block _ (lt_heap hS20c.2.2.2.1)).trans hS20c.2.2.2.1, (hb21.block _ (lt_heap hS20c.2.2.2.2)).trans hS20c.2.2.2.2⟩) (fun hS21c => ?_)
      clear hK K
      refine wpAnyH_take (i := 56) (v := ?_) rfl (by kernel_rfl) (by kernel_rfl) (by kernel_rfl) (fun _ _ _ h => h) (Or.inl ⟨by kernel_rfl, by (intro wz hSz; go_simp; try with_reducible rfl)⟩) hS21c ?_
      go_simp
      refine wpAnyH_take (i := 57) (v := ?_) rfl (by kernel_rfl) (by kernel_rfl) (by kernel_rfl) (fun _ _ _ h => h) (Or.inl ⟨by kernel_rfl, by (intro wz hSz; go_simp; try with_reducible rfl)⟩) hS21c ?_
      go_simp
      refine wpAnyH_take (i := 58) (v := ?_) rfl (by kernel_rfl) (by kernel_rfl) (by kernel_rfl) (fun _ _ _ h => h) (Or.inl ⟨by kernel_rfl, by (intro wz hSz; go_simp; try with_reducible rfl)⟩) hS21c ?_
      go_simp
      refine wpAnyH_take (i := 59) (v := ?_) rfl (by kernel_rfl) (by kernel_rfl) (by kernel_rfl) (fun _ _ _ h => h) (Or.inl ⟨by kernel_rfl, by (intro wz hSz; have c0_0 := cell_of_row _ _ 0 _ _ _ hSz.1; have c0_1 := cell_of_row _ _ 1 _ _ _ hSz.1; have c0_2 := cell_of_row _ _ 2 _ _ _ hSz.1; have c0_3 := cell_of_row _ _ 3 _ _ _ hSz.1; have c0_4 := cell_of_row _ _ 4 _ _ _ hSz.1; have c0_5 := cell_of_row _ _ 5 _ _ _ hSz.1; have c1_0 := cell_of_row _ _ 0 _ _ _ hSz.2.1; have c1_1 := cell_of_row _ _ 1 _ _ _ hSz.2.1; have c1_2 := cell_of_row _ _ 2 _ _ _ hSz.2.1; have c1_3 := cell_of_row _ _ 3 _ _ _ hSz.2.1; have c1_4 := cell_of_row _ _ 4 _ _ _ hSz.2.1; have c1_5 := cell_of_row _ _ 5 _ _ _ hSz.2.1; have c2_0 := cell_of_row _ _ 0 _ _ _ hSz.2.2.1; have c2_1 := cell_of_row _ _ 1 _ _ _ hSz.2.2.1; have c2_2 := cell_of_row _ _ 2 _ _ _ hSz.2.2.1; have c3_0 := cell_of_row _ _ 0 _ _ _ hSz.2.2.2.1; have c3_1 := cell_of_row _ _ 1 _ _ _ hSz.2.2.2.1; have c3_2 := cell_of_row _ _ 2 _ _ _ hSz.2.2.2.1; have c3_3 := cell_of_row _ _ 3 _ _ _ hSz.2.2.2.1; have c3_4 := cell_of_row _ _ 4 _ _ _ hSz.2.2.2.1; have c3_5 := cell_of_row _ _ 5 _ _ _ hSz.2.2.2.1; have c4_0 := cell_of_row _ _ 0 _ _ _ hSz.2.2.2.2; have c4_1 := cell_of_row _ _ 1 _ _ _ hSz.2.2.2.2; have c4_2 := cell_of_row _ _ 2 _ _ _ hSz.2.2.2.2; have c4_3 := cell_of_row _ _ 3 _ _ _ hSz.2.2.2.2; have c4_4 := cell_of_row _ _ 4 _ _ _ hSz.2.2.2.2; have c4_5 := cell_of_row _ _ 5 _ _ _ hSz.2.2.2.2; simp at c0_0 c0_1 c0_2 c0_3 c0_4 c0_5 c1_0 c1_1 c1_2 c1_3 c1_4 c1_5 c2_0 c2_1 c2_2 c3_0 c3_1 c3_2 c3_3 c3_4 c3_5 c4_0 c4_1 c4_2 c4_3 c4_4 c4_5; go_simp; try with_reducible rfl)⟩) hS21c ?_
      go_simp
      refine wpAnyH_take (i := 61) (v := ?_) rfl (by kernel_rfl) (by kernel_rfl) (by kernel_rfl) (fun _ _ _ h => h) (Or.inl ⟨by kernel_rfl, by (intro wz hSz; have c0_0 := cell_of_row _ _ 0 _ _ _ hSz.1; have c0_1 := cell_of_row _ _ 1 _ _ _ hSz.1; have c0_2 := cell_of_row _ _ 2 _ _ _ hSz.1; have c0_3 := cell_of_row _ _ 3 _ _ _ hSz.1; have c0_4 := cell_of_row _ _ 4 _ _ _ hSz.1; have c0_5 := cell_of_row _ _ 5 _ _ _ hSz.1; have c1_0 := cell_of_row _ _ 0 _ _ _ hSz.2.1; have c1_1 := cell_of_row _ _ 1 _ _ _ hSz.2.1; have c1_2 := cell_of_row _ _ 2 _ _ _ hSz.2.1; have c1_3 := cell_of_row _ _ 3 _ _ _ hSz.2.1; have c1_4 := cell_of_row _ _ 4 _ _ _ hSz.2.1; have c1_5 := cell_of_row _ _ 5 _ _ _ hSz.2.1; have c2_0 := cell_of_row _ _ 0 _ _ _ hSz.2.2.1; have c2_1 := cell_of_row _ _ 1 _ _ _ hSz.2.2.1; have c2_2 := cell_of_row _ _ 2 _ _ _ hSz.2.2.1; have c3_0 := cell_of_row _ _ 0 _ _ _ hSz.2.2.2.1; have c3_1 := cell_of_row _ _ 1 _ _ _ hSz.2.2.2.1; have c3_2 := cell_of_row _ _ 2 _ _ _ hSz.2.2.2.1; have c3_3 := cell_of_row _ _ 3 _ _ _ hSz.2.2.2.1; have c3_4 := cell_of_row _ _ 4 _ _ _ hSz.2.2.2.1; have c3_5 := cell_of_row _ _ 5 _ _ _ hSz.2.2.2.1; have c4_0 := cell_of_row _ _ 0 _ _ _ hSz.2.2.2.2; have c4_1 := cell_of_row _ _ 1 _ _ _ hSz.2.2.2.2; have c4_2 := cell_of_row _ _ 2 _ _ _ hSz.2.2.2.2; have c4_3 := cell_of_row _ _ 3 _ _ _ hSz.2.2.2.2; have c4_4 := cell_of_row _ _ 4 _ _ _ hSz.2.2.2.2; have c4_5 := cell_of_row _ _ 5 _ _ _ hSz.2.2.2.2; simp at c0_0 c0_1 c0_2 c0_3 c0_4 c0_5 c1_0 c1_1 c1_2 c1_3 c1_4 c1_5 c2_0 c2_1 c2_2 c3_0 c3_1 c3_2 c3_3 c3_4 c3_5 c4_0 c4_1 c4_2 c4_3 c4_4 c4_5; go_simp; try with_reducible rfl)⟩) hS21c ?_
      go_simp
      refine wpAnyH_ready (rs := [60]) (by kernel_rfl) (by simp) ?_
      refine AllReadyH.cons rfl (fun K hK => ?_) AllReadyH.nil
      go_simp
      go_wp2_with (go_at_call 44; refine (bskin_any _ _ _ _ _ _ _).mono ?_; rintro e y22 ⟨rfl, hb22⟩)
      have hr22_0 := (hb22.block _ (lt_heap hr21_0)).trans hr21_0
      have hr22_1 := (hb22.block _ (lt_heap hr21_1)).trans hr21_1
      have hr22_2 := (hb22.block _ (lt_heap hr21_2)).trans hr21_2
      have hr22_3 := (hb22.block _ (lt_heap hr21_3)).trans hr21_3
      have hr22_4 := (hb22.block _ (lt_heap hr21_4)).trans hr21_4
      have HU22 := Lib.hid (HU21.out.trans (hb22.mono HU21.out.size))
      refine hK.out _ _ (⟨(hb22.block _ (lt_heap hS21c.1)).trans hS21c.1, (hb22.block _ (lt_heap hS21c.2.1)).trans hS21c.2.1, (hb22.block _ (lt_heap hS21c.2.2.1)).trans hS21c.2.2.1, (hb22.block _ (lt_heap hS21c.2.2.2.1)).trans hS21c.2.2.2.1, (hb22.block _ (lt_heap hS21c.2.2.2.2)).trans hS21c.2.2.2.2⟩) (fun hS22c => ?_)
      clear hK K
      refine wpAnyH_ready (rs := [62]) (by kernel_rfl) (by simp) ?_
      refine AllReadyH.cons rfl (fun K hK => ?_) AllReadyH.nil
      go_simp
      go_wp2_with (go_at_call 45; refine (rskin_any _ _ _ _ _ _ _).mono ?_; rintro e y23 ⟨rfl, hb23⟩)
      have hr23_0 := (hb23.block _ (lt_heap hr22_0)).trans hr22_0
      have hr23_1 := (hb23.block _ (lt_heap hr22_1)).trans hr22_1
      have hr23_2 := (hb23.block _ (lt_heap hr22_2)).trans hr22_2
      have hr23_3 := (hb23.block _ (lt_heap hr22_3)).trans hr22_3
      have hr23_4 := (hb23.block _ (lt_heap hr22_4)).trans hr22_4
      have HU23 := Lib.hid (HU22.out.trans (hb23.mono HU22.out.size))
      refine hK.out _ _ (⟨(hb23.block _ (lt_heap hS22c.1)).trans hS22c.1, (hb23.block _ (lt_heap hS22c.2.1)).trans hS22c.2.1, (hb23.block _ (lt_heap hS22c.2.2.1)).trans hS22c.2.2.1, (hb23.block _ (lt_heap hS22c.2.2.2.1)).trans hS22c.2.2.2.1, (hb23.block _ (lt_heap hS22c.2.2.2.2)).trans hS22c.2.2.2.2⟩) (fun hS23c => ?_)
      clear hK K
      refine wpAnyH_take (i := 63) (v := ?_) rfl (by kernel_rfl) (by kernel_rfl) (by kernel_rfl) (fun _ _ _ h => h) (Or.inl ⟨by kernel_rfl, by (intro wz hSz; go_simp; try with_reducible rfl)⟩) hS23c ?_
      go_simp
      refine wpAnyH_take (i := 64) (v := ?_) rfl (by kernel_rfl) (by kernel_rfl) (by kernel_rfl) (fun _ _ _ h => h) (Or.inl ⟨by kernel_rfl, by (intro wz hSz; go_simp; try with_reducible rfl)⟩) hS23c ?_
      go_simp
      refine wpAnyH_take (i := 65) (v := ?_) rfl (by kernel_rfl) (by kernel_rfl) (by kernel_rfl) (fun _ _ _ h => h) (Or.inl ⟨by kernel_rfl, by (intro wz hSz; go_simp; try with_reducible rfl)⟩) hS23c ?_
      go_simp
      refine wpAnyH_done (by kernel_rfl) ?_ _
      go_wp2
      go_ret
      exact ⟨rfl, HU23.out⟩

end Go.Proofs.Ytfeihojobmagnaa.boxTellsW
