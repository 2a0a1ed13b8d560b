/- The walk of CoatBounces: the law returns true, whatever paint, directions and numbers come in; nothing that was there is written. -/
import Derived.Test.YtplcbdmiccpnnaaCoc
import Derived.Test.YtplcbdmiccpnnaaCob
import Derived.Test.YtplcbdmiccpnnaaYm
import Derived.Test.YtplcbdmiccpnnaaVg
namespace Go.Proofs.Ytplcbdmiccpnnaa.coatBouncesW
open Go.Proofs.Ytplcbdmiccpnnaa.Co Go.Proofs.Ytplcbdmiccpnnaa.Yr Go.RowKit Go.Proofs.Ytplcbdmiccpnnaa Go.Proofs.Ytplcbdmiccpnnaa.Wa Go.Proofs.Ytplcbdmiccpnnaa.Ve Go.Proofs.Ytplcbdmiccpnnaa.Au
set_option linter.unusedVariables false
set_option linter.unusedSimpArgs false

theorem eq_hue (x y z : Int) (W : World) : (Op.equalIn 10000 57 (.agg #[.int .i64 x, .int .i64 y, .int .i64 z]) (.agg #[.int .i64 x, .int .i64 y, .int .i64 z])).run Try.prog W = .ok true W := by
  obtain ⟨i0, hi, hz0, hz1, hz2⟩ := info_parts infoInt
  rw [run_equalIn_array W 9999 _ _ Try.underlying57 hi, cellsInt]
  simp only [show List.range 3 = [0, 1, 2] from rfl, Op.eqItems, Sem.run_bind]
  simp [go_sem]

set_option maxHeartbeats 8000000 in
set_option maxRecDepth 100000 in
theorem core_goes (k c1 c2 c3 ro d1_ d2_ d3_ n1 n2 n3 u v x1 x2 x3 r g b z : Int) (s : Bool) (hA : ∀ W : World, Calls Try.prog 16 #[.agg #[.int .i64 k, .int .i64 c1, .int .i64 c2, .int .i64 c3, .int .i64 ro], .agg #[.int .i64 d1_, .int .i64 d2_, .int .i64 d3_], .agg #[.int .i64 n1, .int .i64 n2, .int .i64 n3], .int .i64 u, .int .i64 v] W fun e' w' => e' = .returned (.agg #[.int .i64 x1, .int .i64 x2, .int .i64 x3, .int .i64 r, .int .i64 g, .int .i64 b, .bool true, .bool s]) ∧ Below W.heap.size W w') (hB : ∀ W : World, Calls Try.prog 19 #[.agg #[.int .i64 k, .int .i64 c1, .int .i64 c2, .int .i64 c3, .int .i64 ro], .agg #[.int .i64 d1_, .int .i64 d2_, .int .i64 d3_], .agg #[.int .i64 n1, .int .i64 n2, .int .i64 n3], .int .i64 u, .int .i64 v] W fun e' w' => e' = .returned (.agg #[.int .i64 x1, .int .i64 x2, .int .i64 x3, .int .i64 r, .int .i64 g, .int .i64 b, .bool true, .bool s]) ∧ Below W.heap.size W w') (hT : ∀ W : World, Calls Try.prog 23 #[.agg #[.int .i64 x1, .int .i64 x2, .int .i64 x3], .agg #[.int .i64 n1, .int .i64 n2, .int .i64 n3]] W fun e' w' => e' = .returned (.int .i64 z) ∧ Below W.heap.size W w') (hz : 0 < z) (w : World)  : Calls Try.prog 5 #[.agg #[.int .i64 k, .int .i64 c1, .int .i64 c2, .int .i64 c3, .int .i64 ro], .agg #[.int .i64 d1_, .int .i64 d2_, .int .i64 d3_], .agg #[.int .i64 n1, .int .i64 n2, .int .i64 n3], .int .i64 u, .int .i64 v] w fun e' w' => e' = .returned (.bool true) ∧ Below w.heap.size w w' := by
  have heq := eq_v3
  have heh := eq_hue
  have dz := decide_eq_true hz
  go_enter Try.func5, Try.ntmps5
  go_upto_region 1 with fail
  have hR := Au.rows3 w (.cells #[.int .i64 k, .int .i64 c1, .int .i64 c2, .int .i64 c3, .int .i64 ro] 59) (.cells #[.int .i64 d1_, .int .i64 d2_, .int .i64 d3_] 47) (.cells #[.int .i64 n1, .int .i64 n2, .int .i64 n3] 47)
  have HUx := below_n3 w (.cells #[.int .i64 k, .int .i64 c1, .int .i64 c2, .int .i64 c3, .int .i64 ro] 59) (.cells #[.int .i64 d1_, .int .i64 d2_, .int .i64 d3_] 47) (.cells #[.int .i64 n1, .int .i64 n2, .int .i64 n3] 47)
  obtain ⟨y0, hy0⟩ : ∃ y0, ((w.alloc (.cells #[.int .i64 k, .int .i64 c1, .int .i64 c2, .int .i64 c3, .int .i64 ro] 59)).alloc (.cells #[.int .i64 d1_, .int .i64 d2_, .int .i64 d3_] 47)).alloc (.cells #[.int .i64 n1, .int .i64 n2, .int .i64 n3] 47) = y0 := ⟨_, rfl⟩
  rw [hy0] at hR HUx ⊢
  clear hy0
  have HU0 := Lib.hid HUx
  clear HUx
  obtain ⟨hr0_0, hr0_1, hr0_2⟩ := hR
  go_cut [11] (fun s11 wx => ∃ q : Nat, s11 = .pointer (some ⟨q, 0, none⟩) ∧ wx.heap[w.heap.size]? = some (.cells #[.int .i64 k, .int .i64 c1, .int .i64 c2, .int .i64 c3, .int .i64 ro] 59 (0, 0)) ∧ wx.heap[w.heap.size + 1]? = some (.cells #[.int .i64 d1_, .int .i64 d2_, .int .i64 d3_] 47 (0, 0)) ∧ wx.heap[w.heap.size + 1 + 1]? = some (.cells #[.int .i64 n1, .int .i64 n2, .int .i64 n3] 47 (0, 0)) ∧ wx.heap[q]? = some (.cells #[.int .i64 x1, .int .i64 x2, .int .i64 x3, .int .i64 r, .int .i64 g, .int .i64 b, .bool true, .bool s] 63 (0, 0)) ∧ Hid (Below w.heap.size w wx))
  case first =>
    refine wp_region_held_drew (S := fun y => y.heap[w.heap.size]? = some (.cells #[.int .i64 k, .int .i64 c1, .int .i64 c2, .int .i64 c3, .int .i64 ro] 59 (0, 0)) ∧ y.heap[w.heap.size + 1]? = some (.cells #[.int .i64 d1_, .int .i64 d2_, .int .i64 d3_] 47 (0, 0)) ∧ y.heap[w.heap.size + 1 + 1]? = some (.cells #[.int .i64 n1, .int .i64 n2, .int .i64 n3] 47 (0, 0))) (by kernel_rfl) (⟨hr0_0, hr0_1, hr0_2⟩) (fun hS0 => ?_)
    obtain ⟨y1, hy1⟩ : ∃ y, y0.drew = y := ⟨_, rfl⟩
    have HU1 := Lib.hid (show Below w.heap.size w y1 by rw [← hy1]; exact HU0.out.drew)
    have hr1_0 : y1.heap[w.heap.size]? = some (.cells #[.int .i64 k, .int .i64 c1, .int .i64 c2, .int .i64 c3, .int .i64 ro] 59 (0, 0)) := by rw [← hy1]; exact hr0_0
    have hr1_1 : y1.heap[w.heap.size + 1]? = some (.cells #[.int .i64 d1_, .int .i64 d2_, .int .i64 d3_] 47 (0, 0)) := by rw [← hy1]; exact hr0_1
    have hr1_2 : y1.heap[w.heap.size + 1 + 1]? = some (.cells #[.int .i64 n1, .int .i64 n2, .int .i64 n3] 47 (0, 0)) := by rw [← hy1]; exact hr0_2
    rw [hy1] at hS0 ⊢
    clear hy1
    refine wpAnyH_take (i := 0) (v := ?_) rfl (by kernel_rfl) (by kernel_rfl) (by kernel_rfl) (fun _ _ _ h => h) (Or.inl ⟨by kernel_rfl, by (intro wz hSz; have c0_0 := cell_of_row _ _ 0 _ _ _ hSz.1; have c0_1 := cell_of_row _ _ 1 _ _ _ hSz.1; have c0_2 := cell_of_row _ _ 2 _ _ _ hSz.1; have c0_3 := cell_of_row _ _ 3 _ _ _ hSz.1; have c0_4 := cell_of_row _ _ 4 _ _ _ hSz.1; have c1_0 := cell_of_row _ _ 0 _ _ _ hSz.2.1; have c1_1 := cell_of_row _ _ 1 _ _ _ hSz.2.1; have c1_2 := cell_of_row _ _ 2 _ _ _ hSz.2.1; have c2_0 := cell_of_row _ _ 0 _ _ _ hSz.2.2; have c2_1 := cell_of_row _ _ 1 _ _ _ hSz.2.2; have c2_2 := cell_of_row _ _ 2 _ _ _ hSz.2.2; simp at c0_0 c0_1 c0_2 c0_3 c0_4 c1_0 c1_1 c1_2 c2_0 c2_1 c2_2; go_simp; try with_reducible rfl)⟩) hS0 ?_
    go_simp
    refine wpAnyH_take (i := 2) (v := ?_) rfl (by kernel_rfl) (by kernel_rfl) (by kernel_rfl) (fun _ _ _ h => h) (Or.inl ⟨by kernel_rfl, by (intro wz hSz; have c0_0 := cell_of_row _ _ 0 _ _ _ hSz.1; have c0_1 := cell_of_row _ _ 1 _ _ _ hSz.1; have c0_2 := cell_of_row _ _ 2 _ _ _ hSz.1; have c0_3 := cell_of_row _ _ 3 _ _ _ hSz.1; have c0_4 := cell_of_row _ _ 4 _ _ _ hSz.1; have c1_0 := cell_of_row _ _ 0 _ _ _ hSz.2.1; have c1_1 := cell_of_row _ _ 1 _ _ _ hSz.2.1; have c1_2 := cell_of_row _ _ 2 _ _ _ hSz.2.1; have c2_0 := cell_of_row _ _ 0 _ _ _ hSz.2.2; have c2_1 := cell_of_row _ _ 1 _ _ _ hSz.2.2; have c2_2 := cell_of_row _ _ 2 _ _ _ hSz.2.2; simp at c0_0 c0_1 c0_2 c0_3 c0_4 c1_0 c1_1 c1_2 c2_0 c2_1 c2_2; go_simp; try with_reducible rfl)⟩) hS0 ?_
    go_simp
    refine wpAnyH_take (i := 4) (v := ?_) rfl (by kernel_rfl) (by kernel_rfl) (by kernel_rfl) (fun _ _ _ h => h) (Or.inl ⟨by kernel_rfl, by (intro wz hSz; have c0_0 := cell_of_row _ _ 0 _ _ _ hSz.1; have c0_1 := cell_of_row _ _ 1 _ _ _ hSz.1; have c0_2 := cell_of_row _ _ 2 _ _ _ hSz.1; have c0_3 := cell_of_row _ _ 3 _ _ _ hSz.1; have c0_4 := cell_of_row _ _ 4 _ _ _ hSz.1; have c1_0 := cell_of_row _ _ 0 _ _ _ hSz.2.1; have c1_1 := cell_of_row _ _ 1 _ _ _ hSz.2.1; have c1_2 := cell_of_row _ _ 2 _ _ _ hSz.2.1; have c2_0 := cell_of_row _ _ 0 _ _ _ hSz.2.2; have c2_1 := cell_of_row _ _ 1 _ _ _ hSz.2.2; have c2_2 := cell_of_row _ _ 2 _ _ _ hSz.2.2; simp at c0_0 c0_1 c0_2 c0_3 c0_4 c1_0 c1_1 c1_2 c2_0 c2_1 c2_2; go_simp; try with_reducible rfl)⟩) hS0 ?_
    go_simp
    refine wpAnyH_take (i := 6) (v := ?_) rfl (by kernel_rfl) (by kernel_rfl) (by kernel_rfl) (fun _ _ _ h => h) (Or.inl ⟨by kernel_rfl, by (intro wz hSz; go_simp; try with_reducible rfl)⟩) hS0 ?_
    go_simp
    refine wpAnyH_take (i := 7) (v := ?_) rfl (by kernel_rfl) (by kernel_rfl) (by kernel_rfl) (fun _ _ _ h => h) (Or.inl ⟨by kernel_rfl, by (intro wz hSz; go_simp; try with_reducible rfl)⟩) hS0 ?_
    go_simp
    refine wpAnyH_ready (rs := [1, 9]) (by kernel_rfl) (by simp) ?_
    refine AllReadyH.cons rfl (fun K hK => ?_) (AllReadyH.cons rfl (fun K hK => ?_) AllReadyH.nil)
    · skip
      go_simp
      go_wp2_with (go_at_call 17; refine (paint_any _ _ _ _ _ _).mono ?_; rintro e y2 ⟨rfl, hb2⟩)
      have hr2_0 := (hb2.block _ (lt_heap hr1_0)).trans hr1_0
      have hr2_1 := (hb2.block _ (lt_heap hr1_1)).trans hr1_1
      have hr2_2 := (hb2.block _ (lt_heap hr1_2)).trans hr1_2
      have HU2 := Lib.hid (HU1.out.trans (hb2.mono HU1.out.size))
      refine hK.out _ _ (⟨(hb2.block _ (lt_heap hS0.1)).trans hS0.1, (hb2.block _ (lt_heap hS0.2.1)).trans hS0.2.1, (hb2.block _ (lt_heap hS0.2.2)).trans hS0.2.2⟩) (fun hS2c => ?_)
      clear hK K
      refine wpAnyH_ready (rs := [3, 9]) (by kernel_rfl) (by simp) ?_
      refine AllReadyH.cons rfl (fun K hK => ?_) (AllReadyH.cons rfl (fun K hK => ?_) AllReadyH.nil)
      · skip
        go_simp
        go_wp2_with (go_at_call 18; refine (Co.vto_any _ _ _ _).mono ?_; rintro e y3 ⟨rfl, hb3⟩)
        have hr3_0 := (hb3.block _ (lt_heap hr2_0)).trans hr2_0
        have hr3_1 := (hb3.block _ (lt_heap hr2_1)).trans hr2_1
        have hr3_2 := (hb3.block _ (lt_heap hr2_2)).trans hr2_2
        have HU3 := Lib.hid (HU2.out.trans (hb3.mono HU2.out.size))
        refine hK.out _ _ (⟨(hb3.block _ (lt_heap hS2c.1)).trans hS2c.1, (hb3.block _ (lt_heap hS2c.2.1)).trans hS2c.2.1, (hb3.block _ (lt_heap hS2c.2.2)).trans hS2c.2.2⟩) (fun hS3c => ?_)
        clear hK K
        refine wpAnyH_ready (rs := [5, 9]) (by kernel_rfl) (by simp) ?_
        refine AllReadyH.cons rfl (fun K hK => ?_) (AllReadyH.cons rfl (fun K hK => ?_) AllReadyH.nil)
        · skip
          go_simp
          go_wp2_with (go_at_call 18; refine (Co.vto_any _ _ _ _).mono ?_; rintro e y4 ⟨rfl, hb4⟩)
          have hr4_0 := (hb4.block _ (lt_heap hr3_0)).trans hr3_0
          have hr4_1 := (hb4.block _ (lt_heap hr3_1)).trans hr3_1
          have hr4_2 := (hb4.block _ (lt_heap hr3_2)).trans hr3_2
          have HU4 := Lib.hid (HU3.out.trans (hb4.mono HU3.out.size))
          refine hK.out _ _ (⟨(hb4.block _ (lt_heap hS3c.1)).trans hS3c.1, (hb4.block _ (lt_heap hS3c.2.1)).trans hS3c.2.1, (hb4.block _ (lt_heap hS3c.2.2)).trans hS3c.2.2⟩) (fun hS4c => ?_)
          clear hK K
          refine wpAnyH_ready (rs := [8, 9]) (by kernel_rfl) (by simp) ?_
          refine AllReadyH.cons rfl (fun K hK => ?_) (AllReadyH.cons rfl (fun K hK => ?_) AllReadyH.nil)
          · skip
            go_simp
            go_wp2_with (go_at_call 16; refine (hA _).mono ?_; rintro e y5 ⟨rfl, hb5⟩)
            have hr5_0 := (hb5.block _ (lt_heap hr4_0)).trans hr4_0
            have hr5_1 := (hb5.block _ (lt_heap hr4_1)).trans hr4_1
            have hr5_2 := (hb5.block _ (lt_heap hr4_2)).trans hr4_2
            have HU5 := Lib.hid (HU4.out.trans (hb5.mono HU4.out.size))
            refine hK.out _ _ (⟨(hb5.block _ (lt_heap hS4c.1)).trans hS4c.1, (hb5.block _ (lt_heap hS4c.2.1)).trans hS4c.2.1, (hb5.block _ (lt_heap hS4c.2.2)).trans hS4c.2.2⟩) (fun hS5c => ?_)
            clear hK K
            refine wpAnyH_ready (rs := [9]) (by kernel_rfl) (by simp) ?_
            refine AllReadyH.cons rfl (fun K hK => ?_) AllReadyH.nil
            go_simp
            have hb6 := below_n1 y5 (.cells #[.int .i64 0, .int .i64 0, .int .i64 0, .int .i64 0, .int .i64 0, .int .i64 0, .bool false, .bool false] 63)
            have hN := heap_alloc_last y5 (.cells #[.int .i64 0, .int .i64 0, .int .i64 0, .int .i64 0, .int .i64 0, .int .i64 0, .bool false, .bool false] 63)
            obtain ⟨y6, hy6⟩ : ∃ y, y5.alloc (.cells #[.int .i64 0, .int .i64 0, .int .i64 0, .int .i64 0, .int .i64 0, .int .i64 0, .bool false, .bool false] 63) = y := ⟨_, rfl⟩
            rw [hy6] at hb6 hN ⊢
            clear hy6
            have hl6_0 := lt_heap hr5_0
            have hr6_0 := (hb6.block _ (lt_heap hr5_0)).trans hr5_0
            have hl6_1 := lt_heap hr5_1
            have hr6_1 := (hb6.block _ (lt_heap hr5_1)).trans hr5_1
            have hl6_2 := lt_heap hr5_2
            have hr6_2 := (hb6.block _ (lt_heap hr5_2)).trans hr5_2
            have hr6_3 := hN
            clear hN
            have HU6 := Lib.hid (HU5.out.trans (hb6.mono HU5.out.size))
            refine hK.out _ _ (⟨(hb6.block _ (lt_heap hS5c.1)).trans hS5c.1, (hb6.block _ (lt_heap hS5c.2.1)).trans hS5c.2.1, (hb6.block _ (lt_heap hS5c.2.2)).trans hS5c.2.2⟩) (fun hS6a => ?_)
            clear hK K
            refine wpAnyH_ready (rs := [10]) (by kernel_rfl) (by simp) ?_
            refine AllReadyH.cons rfl (fun K hK => ?_) AllReadyH.nil
            refine step_store_row rfl 63 (.tmp 11) (.tmp 21) rfl #[.int .i64 0, .int .i64 0, .int .i64 0, .int .i64 0, .int .i64 0, .int .i64 0, .bool false, .bool false] #[.int .i64 x1, .int .i64 x2, .int .i64 x3, .int .i64 r, .int .i64 g, .int .i64 b, .bool true, .bool s] _ 63 hr6_3 rfl (by first | rfl | (go_simp; done) | (go_simp; rfl)) (by kernel_rfl) rfl (by simp [Value.oneCell']) ?_
            have hN := setRow_heap _ (y5.heap.size) _ #[.int .i64 x1, .int .i64 x2, .int .i64 x3, .int .i64 r, .int .i64 g, .int .i64 b, .bool true, .bool s] _ _ hr6_3
            have hsz := HU6.out.size
            have HUx := below_setRow (g := y5.heap.size) HU6.out (by first | omega | (simp at *; omega)) #[.int .i64 x1, .int .i64 x2, .int .i64 x3, .int .i64 r, .int .i64 g, .int .i64 b, .bool true, .bool s]
            obtain ⟨y7, hy7⟩ : ∃ y, y6.setRow (y5.heap.size) #[.int .i64 x1, .int .i64 x2, .int .i64 x3, .int .i64 r, .int .i64 g, .int .i64 b, .bool true, .bool s] = y := ⟨_, rfl⟩
            have hO : ∀ k, k ≠ y5.heap.size → y7.heap[k]? = y6.heap[k]? := fun k hk => by rw [← hy7]; exact setRow_other _ _ _ _ hk
            rw [hy7] at hN HUx ⊢
            clear hy7
            have HU7 := Lib.hid HUx
            clear HUx
            have hr7_0 := (hO _ (by omega)).trans hr6_0
            have hr7_1 := (hO _ (by omega)).trans hr6_1
            have hr7_2 := (hO _ (by omega)).trans hr6_2
            have hr7_3 := hN
            clear hN
            refine hK.out _ _ (⟨(hO _ (by omega)).trans hS6a.1, (hO _ (by omega)).trans hS6a.2.1, (hO _ (by omega)).trans hS6a.2.2⟩) (fun hS7s => ?_)
            clear hK K
            refine wpAnyH_done (by kernel_rfl) ?_ _
            go_wp2_with fail
            go_meet
            exact ⟨_, rfl, hr7_0, hr7_1, hr7_2, hr7_3, HU7⟩
          · skip
            go_simp
            have hb5 := below_n1 y4 (.cells #[.int .i64 0, .int .i64 0, .int .i64 0, .int .i64 0, .int .i64 0, .int .i64 0, .bool false, .bool false] 63)
            have hN := heap_alloc_last y4 (.cells #[.int .i64 0, .int .i64 0, .int .i64 0, .int .i64 0, .int .i64 0, .int .i64 0, .bool false, .bool false] 63)
            obtain ⟨y5, hy5⟩ : ∃ y, y4.alloc (.cells #[.int .i64 0, .int .i64 0, .int .i64 0, .int .i64 0, .int .i64 0, .int .i64 0, .bool false, .bool false] 63) = y := ⟨_, rfl⟩
            rw [hy5] at hb5 hN ⊢
            clear hy5
            have hl5_0 := lt_heap hr4_0
            have hr5_0 := (hb5.block _ (lt_heap hr4_0)).trans hr4_0
            have hl5_1 := lt_heap hr4_1
            have hr5_1 := (hb5.block _ (lt_heap hr4_1)).trans hr4_1
            have hl5_2 := lt_heap hr4_2
            have hr5_2 := (hb5.block _ (lt_heap hr4_2)).trans hr4_2
            have hr5_3 := hN
            clear hN
            have HU5 := Lib.hid (HU4.out.trans (hb5.mono HU4.out.size))
            refine hK.out _ _ (⟨(hb5.block _ (lt_heap hS4c.1)).trans hS4c.1, (hb5.block _ (lt_heap hS4c.2.1)).trans hS4c.2.1, (hb5.block _ (lt_heap hS4c.2.2)).trans hS4c.2.2⟩) (fun hS5a => ?_)
            clear hK K
            refine wpAnyH_ready (rs := [8]) (by kernel_rfl) (by simp) ?_
            refine AllReadyH.cons rfl (fun K hK => ?_) AllReadyH.nil
            go_simp
            go_wp2_with (go_at_call 16; refine (hA _).mono ?_; rintro e y6 ⟨rfl, hb6⟩)
            have hr6_0 := (hb6.block _ (lt_heap hr5_0)).trans hr5_0
            have hr6_1 := (hb6.block _ (lt_heap hr5_1)).trans hr5_1
            have hr6_2 := (hb6.block _ (lt_heap hr5_2)).trans hr5_2
            have hr6_3 := (hb6.block _ (lt_heap hr5_3)).trans hr5_3
            have HU6 := Lib.hid (HU5.out.trans (hb6.mono HU5.out.size))
            refine hK.out _ _ (⟨(hb6.block _ (lt_heap hS5a.1)).trans hS5a.1, (hb6.block _ (lt_heap hS5a.2.1)).trans hS5a.2.1, (hb6.block _ (lt_heap hS5a.2.2)).trans hS5a.2.2⟩) (fun hS6c => ?_)
            clear hK K
            refine wpAnyH_ready (rs := [10]) (by kernel_rfl) (by simp) ?_
            refine AllReadyH.cons rfl (fun K hK => ?_) AllReadyH.nil
            refine step_store_row rfl 63 (.tmp 11) (.tmp 21) rfl #[.int .i64 0, .int .i64 0, .int .i64 0, .int .i64 0, .int .i64 0, .int .i64 0, .bool false, .bool false] #[.int .i64 x1, .int .i64 x2, .int .i64 x3, .int .i64 r, .int .i64 g, .int .i64 b, .bool true, .bool s] _ 63 hr6_3 rfl (by first | rfl | (go_simp; done) | (go_simp; rfl)) (by kernel_rfl) rfl (by simp [Value.oneCell']) ?_
            have hN := setRow_heap _ (y4.heap.size) _ #[.int .i64 x1, .int .i64 x2, .int .i64 x3, .int .i64 r, .int .i64 g, .int .i64 b, .bool true, .bool s] _ _ hr6_3
            have hsz := HU6.out.size
            have HUx := below_setRow (g := y4.heap.size) HU6.out (by first | omega | (simp at *; omega)) #[.int .i64 x1, .int .i64 x2, .int .i64 x3, .int .i64 r, .int .i64 g, .int .i64 b, .bool true, .bool s]
            obtain ⟨y7, hy7⟩ : ∃ y, y6.setRow (y4.heap.size) #[.int .i64 x1, .int .i64 x2, .int .i64 x3, .int .i64 r, .int .i64 g, .int .i64 b, .bool true, .bool s] = y := ⟨_, rfl⟩
            have hO : ∀ k, k ≠ y4.heap.size → y7.heap[k]? = y6.heap[k]? := fun k hk => by rw [← hy7]; exact setRow_other _ _ _ _ hk
            rw [hy7] at hN HUx ⊢
            clear hy7
            have HU7 := Lib.hid HUx
            clear HUx
            have hr7_0 := (hO _ (by omega)).trans hr6_0
            have hr7_1 := (hO _ (by omega)).trans hr6_1
            have hr7_2 := (hO _ (by omega)).trans hr6_2
            have hr7_3 := hN
            clear hN
            refine hK.out _ _ (⟨(hO _ (by omega)).trans hS6c.1, (hO _ (by omega)).trans hS6c.2.1, (hO _ (by omega)).trans hS6c.2.2⟩) (fun hS7s => ?_)
            clear hK K
            refine wpAnyH_done (by kernel_rfl) ?_ _
            go_wp2_with fail
            go_meet
            exact ⟨_, rfl, hr7_0, hr7_1, hr7_2, hr7_3, HU7⟩
        · skip
          go_simp
          have hb4 := below_n1 y3 (.cells #[.int .i64 0, .int .i64 0, .int .i64 0, .int .i64 0, .int .i64 0, .int .i64 0, .bool false, .bool false] 63)
          have hN := heap_alloc_last y3 (.cells #[.int .i64 0, .int .i64 0, .int .i64 0, .int .i64 0, .int .i64 0, .int .i64 0, .bool false, .bool false] 63)
          obtain ⟨y4, hy4⟩ : ∃ y, y3.alloc (.cells #[.int .i64 0, .int .i64 0, .int .i64 0, .int .i64 0, .int .i64 0, .int .i64 0, .bool false, .bool false] 63) = y := ⟨_, rfl⟩
          rw [hy4] at hb4 hN ⊢
          clear hy4
          have hl4_0 := lt_heap hr3_0
          have hr4_0 := (hb4.block _ (lt_heap hr3_0)).trans hr3_0
          have hl4_1 := lt_heap hr3_1
          have hr4_1 := (hb4.block _ (lt_heap hr3_1)).trans hr3_1
          have hl4_2 := lt_heap hr3_2
          have hr4_2 := (hb4.block _ (lt_heap hr3_2)).trans hr3_2
          have hr4_3 := hN
          clear hN
          have HU4 := Lib.hid (HU3.out.trans (hb4.mono HU3.out.size))
          refine hK.out _ _ (⟨(hb4.block _ (lt_heap hS3c.1)).trans hS3c.1, (hb4.block _ (lt_heap hS3c.2.1)).trans hS3c.2.1, (hb4.block _ (lt_heap hS3c.2.2)).trans hS3c.2.2⟩) (fun hS4a => ?_)
          clear hK K
          refine wpAnyH_ready (rs := [5]) (by kernel_rfl) (by simp) ?_
          refine AllReadyH.cons rfl (fun K hK => ?_) AllReadyH.nil
          go_simp
          go_wp2_with (go_at_call 18; refine (Co.vto_any _ _ _ _).mono ?_; rintro e y5 ⟨rfl, hb5⟩)
          have hr5_0 := (hb5.block _ (lt_heap hr4_0)).trans hr4_0
          have hr5_1 := (hb5.block _ (lt_heap hr4_1)).trans hr4_1
          have hr5_2 := (hb5.block _ (lt_heap hr4_2)).trans hr4_2
          have hr5_3 := (hb5.block _ (lt_heap hr4_3)).trans hr4_3
          have HU5 := Lib.hid (HU4.out.trans (hb5.mono HU4.out.size))
          refine hK.out _ _ (⟨(hb5.block _ (lt_heap hS4a.1)).trans hS4a.1, (hb5.block _ (lt_heap hS4a.2.1)).trans hS4a.2.1, (hb5.block _ (lt_heap hS4a.2.2)).trans hS4a.2.2⟩) (fun hS5c => ?_)
          clear hK K
          refine wpAnyH_ready (rs := [8]) (by kernel_rfl) (by simp) ?_
          refine AllReadyH.cons rfl (fun K hK => ?_) AllReadyH.nil
          go_simp
          go_wp2_with (go_at_call 16; refine (hA _).mono ?_; rintro e y6 ⟨rfl, hb6⟩)
          have hr6_0 := (hb6.block _ (lt_heap hr5_0)).trans hr5_0
          have hr6_1 := (hb6.block _ (lt_heap hr5_1)).trans hr5_1
          have hr6_2 := (hb6.block _ (lt_heap hr5_2)).trans hr5_2
          have hr6_3 := (hb6.block _ (lt_heap hr5_3)).trans hr5_3
          have HU6 := Lib.hid (HU5.out.trans (hb6.mono HU5.out.size))
          refine hK.out _ _ (⟨(hb6.block _ (lt_heap hS5c.1)).trans hS5c.1, (hb6.block _ (lt_heap hS5c.2.1)).trans hS5c.2.1, (hb6.block _ (lt_heap hS5c.2.2)).trans hS5c.2.2⟩) (fun hS6c => ?_)
          clear hK K
          refine wpAnyH_ready (rs := [10]) (by kernel_rfl) (by simp) ?_
          refine AllReadyH.cons rfl (fun K hK => ?_) AllReadyH.nil
          refine step_store_row rfl 63 (.tmp 11) (.tmp 21) rfl #[.int .i64 0, .int .i64 0, .int .i64 0, .int .i64 0, .int .i64 0, .int .i64 0, .bool false, .bool false] #[.int .i64 x1, .int .i64 x2, .int .i64 x3, .int .i64 r, .int .i64 g, .int .i64 b, .bool true, .bool s] _ 63 hr6_3 rfl (by first | rfl | (go_simp; done) | (go_simp; rfl)) (by kernel_rfl) rfl (by simp [Value.oneCell']) ?_
          have hN := setRow_heap _ (y3.heap.size) _ #[.int .i64 x1, .int .i64 x2, .int .i64 x3, .int .i64 r, .int .i64 g, .int .i64 b, .bool true, .bool s] _ _ hr6_3
          have hsz := HU6.out.size
          have HUx := below_setRow (g := y3.heap.size) HU6.out (by first | omega | (simp at *; omega)) #[.int .i64 x1, .int .i64 x2, .int .i64 x3, .int .i64 r, .int .i64 g, .int .i64 b, .bool true, .bool s]
          obtain ⟨y7, hy7⟩ : ∃ y, y6.setRow (y3.heap.size) #[.int .i64 x1, .int .i64 x2, .int .i64 x3, .int .i64 r, .int .i64 g, .int .i64 b, .bool true, .bool s] = y := ⟨_, rfl⟩
          have hO : ∀ k, k ≠ y3.heap.size → y7.heap[k]? = y6.heap[k]? := fun k hk => by rw [← hy7]; exact setRow_other _ _ _ _ hk
          rw [hy7] at hN HUx ⊢
          clear hy7
          have HU7 := Lib.hid HUx
          clear HUx
          have hr7_0 := (hO _ (by omega)).trans hr6_0
          have hr7_1 := (hO _ (by omega)).trans hr6_1
          have hr7_2 := (hO _ (by omega)).trans hr6_2
          have hr7_3 := hN
          clear hN
          refine hK.out _ _ (⟨(hO _ (by omega)).trans hS6c.1, (hO _ (by omega)).trans hS6c.2.1, (hO _ (by omega)).trans hS6c.2.2⟩) (fun hS7s => ?_)
          clear hK K
          refine wpAnyH_done (by kernel_rfl) ?_ _
          go_wp2_with fail
          go_meet
          exact ⟨_, rfl, hr7_0, hr7_1, hr7_2, hr7_3, HU7⟩
      · skip
        go_simp
        have hb3 := below_n1 y2 (.cells #[.int .i64 0, .int .i64 0, .int .i64 0, .int .i64 0, .int .i64 0, .int .i64 0, .bool false, .bool false] 63)
        have hN := heap_alloc_last y2 (.cells #[.int .i64 0, .int .i64 0, .int .i64 0, .int .i64 0, .int .i64 0, .int .i64 0, .bool false, .bool false] 63)
        obtain ⟨y3, hy3⟩ : ∃ y, y2.alloc (.cells #[.int .i64 0, .int .i64 0, .int .i64 0, .int .i64 0, .int .i64 0, .int .i64 0, .bool false, .bool false] 63) = y := ⟨_, rfl⟩
        rw [hy3] at hb3 hN ⊢
        clear hy3
        have hl3_0 := lt_heap hr2_0
        have hr3_0 := (hb3.block _ (lt_heap hr2_0)).trans hr2_0
        have hl3_1 := lt_heap hr2_1
        have hr3_1 := (hb3.block _ (lt_heap hr2_1)).trans hr2_1
        have hl3_2 := lt_heap hr2_2
        have hr3_2 := (hb3.block _ (lt_heap hr2_2)).trans hr2_2
        have hr3_3 := hN
        clear hN
        have HU3 := Lib.hid (HU2.out.trans (hb3.mono HU2.out.size))
        refine hK.out _ _ (⟨(hb3.block _ (lt_heap hS2c.1)).trans hS2c.1, (hb3.block _ (lt_heap hS2c.2.1)).trans hS2c.2.1, (hb3.block _ (lt_heap hS2c.2.2)).trans hS2c.2.2⟩) (fun hS3a => ?_)
        clear hK K
        refine wpAnyH_ready (rs := [3]) (by kernel_rfl) (by simp) ?_
        refine AllReadyH.cons rfl (fun K hK => ?_) AllReadyH.nil
        go_simp
        go_wp2_with (go_at_call 18; refine (Co.vto_any _ _ _ _).mono ?_; rintro e y4 ⟨rfl, hb4⟩)
        have hr4_0 := (hb4.block _ (lt_heap hr3_0)).trans hr3_0
        have hr4_1 := (hb4.block _ (lt_heap hr3_1)).trans hr3_1
        have hr4_2 := (hb4.block _ (lt_heap hr3_2)).trans hr3_2
        have hr4_3 := (hb4.block _ (lt_heap hr3_3)).trans hr3_3
        have HU4 := Lib.hid (HU3.out.trans (hb4.mono HU3.out.size))
        refine hK.out _ _ (⟨(hb4.block _ (lt_heap hS3a.1)).trans hS3a.1, (hb4.block _ (lt_heap hS3a.2.1)).trans hS3a.2.1, (hb4.block _ (lt_heap hS3a.2.2)).trans hS3a.2.2⟩) (fun hS4c => ?_)
        clear hK K
        refine wpAnyH_ready (rs := [5]) (by kernel_rfl) (by simp) ?_
        refine AllReadyH.cons rfl (fun K hK => ?_) AllReadyH.nil
        go_simp
        go_wp2_with (go_at_call 18; refine (Co.vto_any _ _ _ _).mono ?_; rintro e y5 ⟨rfl, hb5⟩)
        have hr5_0 := (hb5.block _ (lt_heap hr4_0)).trans hr4_0
        have hr5_1 := (hb5.block _ (lt_heap hr4_1)).trans hr4_1
        have hr5_2 := (hb5.block _ (lt_heap hr4_2)).trans hr4_2
        have hr5_3 := (hb5.block _ (lt_heap hr4_3)).trans hr4_3
        have HU5 := Lib.hid (HU4.out.trans (hb5.mono HU4.out.size))
        refine hK.out _ _ (⟨(hb5.block _ (lt_heap hS4c.1)).trans hS4c.1, (hb5.block _ (lt_heap hS4c.2.1)).trans hS4c.2.1, (hb5.block _ (lt_heap hS4c.2.2)).trans hS4c.2.2⟩) (fun hS5c => ?_)
        clear hK K
        refine wpAnyH_ready (rs := [8]) (by kernel_rfl) (by simp) ?_
        refine AllReadyH.cons rfl (fun K hK => ?_) AllReadyH.nil
        go_simp
        go_wp2_with (go_at_call 16; refine (hA _).mono ?_; rintro e y6 ⟨rfl, hb6⟩)
        have hr6_0 := (hb6.block _ (lt_heap hr5_0)).trans hr5_0
        have hr6_1 := (hb6.block _ (lt_heap hr5_1)).trans hr5_1
        have hr6_2 := (hb6.block _ (lt_heap hr5_2)).trans hr5_2
        have hr6_3 := (hb6.block _ (lt_heap hr5_3)).trans hr5_3
        have HU6 := Lib.hid (HU5.out.trans (hb6.mono HU5.out.size))
        refine hK.out _ _ (⟨(hb6.block _ (lt_heap hS5c.1)).trans hS5c.1, (hb6.block _ (lt_heap hS5c.2.1)).trans hS5c.2.1, (hb6.block _ (lt_heap hS5c.2.2)).trans hS5c.2.2⟩) (fun hS6c => ?_)
        clear hK K
        refine wpAnyH_ready (rs := [10]) (by kernel_rfl) (by simp) ?_
        refine AllReadyH.cons rfl (fun K hK => ?_) AllReadyH.nil
        refine step_store_row rfl 63 (.tmp 11) (.tmp 21) rfl #[.int .i64 0, .int .i64 0, .int .i64 0, .int .i64 0, .int .i64 0, .int .i64 0, .bool false, .bool false] #[.int .i64 x1, .int .i64 x2, .int .i64 x3, .int .i64 r, .int .i64 g, .int .i64 b, .bool true, .bool s] _ 63 hr6_3 rfl (by first | rfl | (go_simp; done) | (go_simp; rfl)) (by kernel_rfl) rfl (by simp [Value.oneCell']) ?_
        have hN := setRow_heap _ (y2.heap.size) _ #[.int .i64 x1, .int .i64 x2, .int .i64 x3, .int .i64 r, .int .i64 g, .int .i64 b, .bool true, .bool s] _ _ hr6_3
        have hsz := HU6.out.size
        have HUx := below_setRow (g := y2.heap.size) HU6.out (by first | omega | (simp at *; omega)) #[.int .i64 x1, .int .i64 x2, .int .i64 x3, .int .i64 r, .int .i64 g, .int .i64 b, .bool true, .bool s]
        obtain ⟨y7, hy7⟩ : ∃ y, y6.setRow (y2.heap.size) #[.int .i64 x1, .int .i64 x2, .int .i64 x3, .int .i64 r, .int .i64 g, .int .i64 b, .bool true, .bool s] = y := ⟨_, rfl⟩
        have hO : ∀ k, k ≠ y2.heap.size → y7.heap[k]? = y6.heap[k]? := fun k hk => by rw [← hy7]; exact setRow_other _ _ _ _ hk
        rw [hy7] at hN HUx ⊢
        clear hy7
        have HU7 := Lib.hid HUx
        clear HUx
        have hr7_0 := (hO _ (by omega)).trans hr6_0
        have hr7_1 := (hO _ (by omega)).trans hr6_1
        have hr7_2 := (hO _ (by omega)).trans hr6_2
        have hr7_3 := hN
        clear hN
        refine hK.out _ _ (⟨(hO _ (by omega)).trans hS6c.1, (hO _ (by omega)).trans hS6c.2.1, (hO _ (by omega)).trans hS6c.2.2⟩) (fun hS7s => ?_)
        clear hK K
        refine wpAnyH_done (by kernel_rfl) ?_ _
        go_wp2_with fail
        go_meet
        exact ⟨_, rfl, hr7_0, hr7_1, hr7_2, hr7_3, HU7⟩
    · skip
      go_simp
      have hb2 := below_n1 y1 (.cells #[.int .i64 0, .int .i64 0, .int .i64 0, .int .i64 0, .int .i64 0, .int .i64 0, .bool false, .bool false] 63)
      have hN := heap_alloc_last y1 (.cells #[.int .i64 0, .int .i64 0, .int .i64 0, .int .i64 0, .int .i64 0, .int .i64 0, .bool false, .bool false] 63)
      obtain ⟨y2, hy2⟩ : ∃ y, y1.alloc (.cells #[.int .i64 0, .int .i64 0, .int .i64 0, .int .i64 0, .int .i64 0, .int .i64 0, .bool false, .bool false] 63) = y := ⟨_, rfl⟩
      rw [hy2] at hb2 hN ⊢
      clear hy2
      have hl2_0 := lt_heap hr1_0
      have hr2_0 := (hb2.block _ (lt_heap hr1_0)).trans hr1_0
      have hl2_1 := lt_heap hr1_1
      have hr2_1 := (hb2.block _ (lt_heap hr1_1)).trans hr1_1
      have hl2_2 := lt_heap hr1_2
      have hr2_2 := (hb2.block _ (lt_heap hr1_2)).trans hr1_2
      have hr2_3 := hN
      clear hN
      have HU2 := Lib.hid (HU1.out.trans (hb2.mono HU1.out.size))
      refine hK.out _ _ (⟨(hb2.block _ (lt_heap hS0.1)).trans hS0.1, (hb2.block _ (lt_heap hS0.2.1)).trans hS0.2.1, (hb2.block _ (lt_heap hS0.2.2)).trans hS0.2.2⟩) (fun hS2a => ?_)
      clear hK K
      refine wpAnyH_ready (rs := [1]) (by kernel_rfl) (by simp) ?_
      refine AllReadyH.cons rfl (fun K hK => ?_) AllReadyH.nil
      go_simp
      go_wp2_with (go_at_call 17; refine (paint_any _ _ _ _ _ _).mono ?_; rintro e y3 ⟨rfl, hb3⟩)
      have hr3_0 := (hb3.block _ (lt_heap hr2_0)).trans hr2_0
      have hr3_1 := (hb3.block _ (lt_heap hr2_1)).trans hr2_1
      have hr3_2 := (hb3.block _ (lt_heap hr2_2)).trans hr2_2
      have hr3_3 := (hb3.block _ (lt_heap hr2_3)).trans hr2_3
      have HU3 := Lib.hid (HU2.out.trans (hb3.mono HU2.out.size))
      refine hK.out _ _ (⟨(hb3.block _ (lt_heap hS2a.1)).trans hS2a.1, (hb3.block _ (lt_heap hS2a.2.1)).trans hS2a.2.1, (hb3.block _ (lt_heap hS2a.2.2)).trans hS2a.2.2⟩) (fun hS3c => ?_)
      clear hK K
      refine wpAnyH_ready (rs := [3]) (by kernel_rfl) (by simp) ?_
      refine AllReadyH.cons rfl (fun K hK => ?_) AllReadyH.nil
      go_simp
      go_wp2_with (go_at_call 18; refine (Co.vto_any _ _ _ _).mono ?_; rintro e y4 ⟨rfl, hb4⟩)
      have hr4_0 := (hb4.block _ (lt_heap hr3_0)).trans hr3_0
      have hr4_1 := (hb4.block _ (lt_heap hr3_1)).trans hr3_1
      have hr4_2 := (hb4.block _ (lt_heap hr3_2)).trans hr3_2
      have hr4_3 := (hb4.block _ (lt_heap hr3_3)).trans hr3_3
      have HU4 := Lib.hid (HU3.out.trans (hb4.mono HU3.out.size))
      refine hK.out _ _ (⟨(hb4.block _ (lt_heap hS3c.1)).trans hS3c.1, (hb4.block _ (lt_heap hS3c.2.1)).trans hS3c.2.1, (hb4.block _ (lt_heap hS3c.2.2)).trans hS3c.2.2⟩) (fun hS4c => ?_)
      clear hK K
      refine wpAnyH_ready (rs := [5]) (by kernel_rfl) (by simp) ?_
      refine AllReadyH.cons rfl (fun K hK => ?_) AllReadyH.nil
      go_simp
      go_wp2_with (go_at_call 18; refine (Co.vto_any _ _ _ _).mono ?_; rintro e y5 ⟨rfl, hb5⟩)
      have hr5_0 := (hb5.block _ (lt_heap hr4_0)).trans hr4_0
      have hr5_1 := (hb5.block _ (lt_heap hr4_1)).trans hr4_1
      have hr5_2 := (hb5.block _ (lt_heap hr4_2)).trans hr4_2
      have hr5_3 := (hb5.block _ (lt_heap hr4_3)).trans hr4_3
      have HU5 := Lib.hid (HU4.out.trans (hb5.mono HU4.out.size))
      refine hK.out _ _ (⟨(hb5.block _ (lt_heap hS4c.1)).trans hS4c.1, (hb5.block _ (lt_heap hS4c.2.1)).trans hS4c.2.1, (hb5.block _ (lt_heap hS4c.2.2)).trans hS4c.2.2⟩) (fun hS5c => ?_)
      clear hK K
      refine wpAnyH_ready (rs := [8]) (by kernel_rfl) (by simp) ?_
      refine AllReadyH.cons rfl (fun K hK => ?_) AllReadyH.nil
      go_simp
      go_wp2_with (go_at_call 16; refine (hA _).mono ?_; rintro e y6 ⟨rfl, hb6⟩)
      have hr6_0 := (hb6.block _ (lt_heap hr5_0)).trans hr5_0
      have hr6_1 := (hb6.block _ (lt_heap hr5_1)).trans hr5_1
      have hr6_2 := (hb6.block _ (lt_heap hr5_2)).trans hr5_2
      have hr6_3 := (hb6.block _ (lt_heap hr5_3)).trans hr5_3
      have HU6 := Lib.hid (HU5.out.trans (hb6.mono HU5.out.size))
      refine hK.out _ _ (⟨(hb6.block _ (lt_heap hS5c.1)).trans hS5c.1, (hb6.block _ (lt_heap hS5c.2.1)).trans hS5c.2.1, (hb6.block _ (lt_heap hS5c.2.2)).trans hS5c.2.2⟩) (fun hS6c => ?_)
      clear hK K
      refine wpAnyH_ready (rs := [10]) (by kernel_rfl) (by simp) ?_
      refine AllReadyH.cons rfl (fun K hK => ?_) AllReadyH.nil
      refine step_store_row rfl 63 (.tmp 11) (.tmp 21) rfl #[.int .i64 0, .int .i64 0, .int .i64 0, .int .i64 0, .int .i64 0, .int .i64 0, .bool false, .bool false] #[.int .i64 x1, .int .i64 x2, .int .i64 x3, .int .i64 r, .int .i64 g, .int .i64 b, .bool true, .bool s] _ 63 hr6_3 rfl (by first | rfl | (go_simp; done) | (go_simp; rfl)) (by kernel_rfl) rfl (by simp [Value.oneCell']) ?_
      have hN := setRow_heap _ (y1.heap.size) _ #[.int .i64 x1, .int .i64 x2, .int .i64 x3, .int .i64 r, .int .i64 g, .int .i64 b, .bool true, .bool s] _ _ hr6_3
      have hsz := HU6.out.size
      have HUx := below_setRow (g := y1.heap.size) HU6.out (by first | omega | (simp at *; omega)) #[.int .i64 x1, .int .i64 x2, .int .i64 x3, .int .i64 r, .int .i64 g, .int .i64 b, .bool true, .bool s]
      obtain ⟨y7, hy7⟩ : ∃ y, y6.setRow (y1.heap.size) #[.int .i64 x1, .int .i64 x2, .int .i64 x3, .int .i64 r, .int .i64 g, .int .i64 b, .bool true, .bool s] = y := ⟨_, rfl⟩
      have hO : ∀ k, k ≠ y1.heap.size → y7.heap[k]? = y6.heap[k]? := fun k hk => by rw [← hy7]; exact setRow_other _ _ _ _ hk
      rw [hy7] at hN HUx ⊢
      clear hy7
      have HU7 := Lib.hid HUx
      clear HUx
      have hr7_0 := (hO _ (by omega)).trans hr6_0
      have hr7_1 := (hO _ (by omega)).trans hr6_1
      have hr7_2 := (hO _ (by omega)).trans hr6_2
      have hr7_3 := hN
      clear hN
      refine hK.out _ _ (⟨(hO _ (by omega)).trans hS6c.1, (hO _ (by omega)).trans hS6c.2.1, (hO _ (by omega)).trans hS6c.2.2⟩) (fun hS7s => ?_)
      clear hK K
      refine wpAnyH_done (by kernel_rfl) ?_ _
      go_wp2_with fail
      go_meet
      exact ⟨_, rfl, hr7_0, hr7_1, hr7_2, hr7_3, HU7⟩
  case rest =>
    obtain ⟨q, rfl, hr9_0, hr9_1, hr9_2, hr9_3, HU9⟩ := hcut
    rename World => y9
    have c0_0 := cell_of_row _ _ 0 _ _ _ hr9_0
    have c0_1 := cell_of_row _ _ 1 _ _ _ hr9_0
    have c0_2 := cell_of_row _ _ 2 _ _ _ hr9_0
    have c0_3 := cell_of_row _ _ 3 _ _ _ hr9_0
    have c0_4 := cell_of_row _ _ 4 _ _ _ hr9_0
    have c1_0 := cell_of_row _ _ 0 _ _ _ hr9_1
    have c1_1 := cell_of_row _ _ 1 _ _ _ hr9_1
    have c1_2 := cell_of_row _ _ 2 _ _ _ hr9_1
    have c2_0 := cell_of_row _ _ 0 _ _ _ hr9_2
    have c2_1 := cell_of_row _ _ 1 _ _ _ hr9_2
    have c2_2 := cell_of_row _ _ 2 _ _ _ hr9_2
    simp at c0_0 c0_1 c0_2 c0_3 c0_4 c1_0 c1_1 c1_2 c2_0 c2_1 c2_2
    go_wp2_with fail
    refine (hB _).mono ?_
    rintro e y10 ⟨rfl, hb10⟩
    clear c0_0 c0_1 c0_2 c0_3 c0_4 c1_0 c1_1 c1_2 c2_0 c2_1 c2_2
    have hr10_0 := (hb10.block _ (lt_heap hr9_0)).trans hr9_0
    have hr10_1 := (hb10.block _ (lt_heap hr9_1)).trans hr9_1
    have hr10_2 := (hb10.block _ (lt_heap hr9_2)).trans hr9_2
    have hr10_3 := (hb10.block _ (lt_heap hr9_3)).trans hr9_3
    have HU10 := Lib.hid (HU9.out.trans (hb10.mono HU9.out.size))
    clear hr9_0 hr9_1 hr9_2 hr9_3 HU9
    have c0_0 := cell_of_row _ _ 0 _ _ _ hr10_0
    have c0_1 := cell_of_row _ _ 1 _ _ _ hr10_0
    have c0_2 := cell_of_row _ _ 2 _ _ _ hr10_0
    have c0_3 := cell_of_row _ _ 3 _ _ _ hr10_0
    have c0_4 := cell_of_row _ _ 4 _ _ _ hr10_0
    have c1_0 := cell_of_row _ _ 0 _ _ _ hr10_1
    have c1_1 := cell_of_row _ _ 1 _ _ _ hr10_1
    have c1_2 := cell_of_row _ _ 2 _ _ _ hr10_1
    have c2_0 := cell_of_row _ _ 0 _ _ _ hr10_2
    have c2_1 := cell_of_row _ _ 1 _ _ _ hr10_2
    have c2_2 := cell_of_row _ _ 2 _ _ _ hr10_2
    have c3_0 := cell_of_row _ _ 0 _ _ _ hr10_3
    have c3_1 := cell_of_row _ _ 1 _ _ _ hr10_3
    have c3_2 := cell_of_row _ _ 2 _ _ _ hr10_3
    have c3_3 := cell_of_row _ _ 3 _ _ _ hr10_3
    have c3_4 := cell_of_row _ _ 4 _ _ _ hr10_3
    have c3_5 := cell_of_row _ _ 5 _ _ _ hr10_3
    have c3_6 := cell_of_row _ _ 6 _ _ _ hr10_3
    have c3_7 := cell_of_row _ _ 7 _ _ _ hr10_3
    simp at c0_0 c0_1 c0_2 c0_3 c0_4 c1_0 c1_1 c1_2 c2_0 c2_1 c2_2 c3_0 c3_1 c3_2 c3_3 c3_4 c3_5 c3_6 c3_7
    have HA := Lib.hid (heap_alloc_last y10 (.cells #[.int .i64 0, .int .i64 0, .int .i64 0, .int .i64 0, .int .i64 0, .int .i64 0, .bool false, .bool false] 70))
    have hHi := Lib.hid (show (Try.prog.info? 70).map (·.size) = some (#[.int .i64 x1, .int .i64 x2, .int .i64 x3, .int .i64 r, .int .i64 g, .int .i64 b, .bool true, .bool s] : Array Value).size by kernel_rfl)
    have hHz := Lib.hid (show (#[.int .i64 0, .int .i64 0, .int .i64 0, .int .i64 0, .int .i64 0, .int .i64 0, .bool false, .bool false] : Array Value).size = (#[.int .i64 x1, .int .i64 x2, .int .i64 x3, .int .i64 r, .int .i64 g, .int .i64 b, .bool true, .bool s] : Array Value).size from rfl)
    have hHo := Lib.hid (show (#[.int .i64 x1, .int .i64 x2, .int .i64 x3, .int .i64 r, .int .i64 g, .int .i64 b, .bool true, .bool s] : Array Value).all (·.oneCell') = true by simp [Value.oneCell'])
    go_upto_region 3 with (refine Au.wpList_store_row rfl 70 (.tmp 12) (.tmp 27) rfl (y10.alloc (.cells #[.int .i64 0, .int .i64 0, .int .i64 0, .int .i64 0, .int .i64 0, .int .i64 0, .bool false, .bool false] 70)) #[.int .i64 0, .int .i64 0, .int .i64 0, .int .i64 0, .int .i64 0, .int .i64 0, .bool false, .bool false] #[.int .i64 x1, .int .i64 x2, .int .i64 x3, .int .i64 r, .int .i64 g, .int .i64 b, .bool true, .bool s] (y10.heap.size) 70 HA.out rfl rfl hHi.out hHz.out hHo.out ?_)
    clear c0_0 c0_1 c0_2 c0_3 c0_4 c1_0 c1_1 c1_2 c2_0 c2_1 c2_2 c3_0 c3_1 c3_2 c3_3 c3_4 c3_5 c3_6 c3_7
    clear hHi hHz hHo
    have hN := setRow_heap _ (y10.heap.size) _ #[.int .i64 x1, .int .i64 x2, .int .i64 x3, .int .i64 r, .int .i64 g, .int .i64 b, .bool true, .bool s] _ _ HA.out
    clear HA
    have hsz := HU10.out.size
    have hb := below_n1 y10 (.cells #[.int .i64 0, .int .i64 0, .int .i64 0, .int .i64 0, .int .i64 0, .int .i64 0, .bool false, .bool false] 70)
    have HUx := below_setRow (g := y10.heap.size) (HU10.out.trans (hb.mono HU10.out.size)) (by omega) #[.int .i64 x1, .int .i64 x2, .int .i64 x3, .int .i64 r, .int .i64 g, .int .i64 b, .bool true, .bool s]
    have hO : ∀ kk, kk < y10.heap.size → ((y10.alloc (.cells #[.int .i64 0, .int .i64 0, .int .i64 0, .int .i64 0, .int .i64 0, .int .i64 0, .bool false, .bool false] 70)).setRow (y10.heap.size) #[.int .i64 x1, .int .i64 x2, .int .i64 x3, .int .i64 r, .int .i64 g, .int .i64 b, .bool true, .bool s]).heap[kk]? = y10.heap[kk]? := fun kk hk => (setRow_other _ _ _ _ (by omega)).trans (hb.block _ hk)
    obtain ⟨y11, hy11⟩ : ∃ y, (y10.alloc (.cells #[.int .i64 0, .int .i64 0, .int .i64 0, .int .i64 0, .int .i64 0, .int .i64 0, .bool false, .bool false] 70)).setRow (y10.heap.size) #[.int .i64 x1, .int .i64 x2, .int .i64 x3, .int .i64 r, .int .i64 g, .int .i64 b, .bool true, .bool s] = y := ⟨_, rfl⟩
    have hs11 : y11.heap.size = y10.heap.size + 1 := by rw [← hy11]; simp [World.setRow]
    rw [hy11] at hN HUx hO ⊢
    clear hy11 hsz hb
    have HU11 := Lib.hid HUx
    clear HUx
    have hl11_0 := lt_heap hr10_0
    have hr11_0 := (hO _ hl11_0).trans hr10_0
    have hl11_1 := lt_heap hr10_1
    have hr11_1 := (hO _ hl11_1).trans hr10_1
    have hl11_2 := lt_heap hr10_2
    have hr11_2 := (hO _ hl11_2).trans hr10_2
    have hl11_3 := lt_heap hr10_3
    have hr11_3 := (hO _ hl11_3).trans hr10_3
    have hr11_4 := hN
    clear hN hO
    clear hr10_0 hr10_1 hr10_2 hr10_3 HU10
    refine wp_region_held_drew (S := fun y => y.heap[w.heap.size + 1 + 1]? = some (.cells #[.int .i64 n1, .int .i64 n2, .int .i64 n3] 47 (0, 0)) ∧ y.heap[q]? = some (.cells #[.int .i64 x1, .int .i64 x2, .int .i64 x3, .int .i64 r, .int .i64 g, .int .i64 b, .bool true, .bool s] 63 (0, 0)) ∧ y.heap[y10.heap.size]? = some (.cells #[.int .i64 x1, .int .i64 x2, .int .i64 x3, .int .i64 r, .int .i64 g, .int .i64 b, .bool true, .bool s] 70 (0, 0))) (by kernel_rfl) (⟨hr11_2, hr11_3, hr11_4⟩) (fun hS0 => ?_)
    obtain ⟨y12, hy12⟩ : ∃ y, y11.drew = y := ⟨_, rfl⟩
    have HU12 := Lib.hid (show Below w.heap.size w y12 by rw [← hy12]; exact HU11.out.drew)
    have hr12_0 : y12.heap[w.heap.size]? = some (.cells #[.int .i64 k, .int .i64 c1, .int .i64 c2, .int .i64 c3, .int .i64 ro] 59 (0, 0)) := by rw [← hy12]; exact hr11_0
    have hr12_1 : y12.heap[w.heap.size + 1]? = some (.cells #[.int .i64 d1_, .int .i64 d2_, .int .i64 d3_] 47 (0, 0)) := by rw [← hy12]; exact hr11_1
    have hr12_2 : y12.heap[w.heap.size + 1 + 1]? = some (.cells #[.int .i64 n1, .int .i64 n2, .int .i64 n3] 47 (0, 0)) := by rw [← hy12]; exact hr11_2
    have hr12_3 : y12.heap[q]? = some (.cells #[.int .i64 x1, .int .i64 x2, .int .i64 x3, .int .i64 r, .int .i64 g, .int .i64 b, .bool true, .bool s] 63 (0, 0)) := by rw [← hy12]; exact hr11_3
    have hr12_4 : y12.heap[y10.heap.size]? = some (.cells #[.int .i64 x1, .int .i64 x2, .int .i64 x3, .int .i64 r, .int .i64 g, .int .i64 b, .bool true, .bool s] 70 (0, 0)) := by rw [← hy12]; exact hr11_4
    rw [hy12] at hS0 ⊢
    clear hy12
    refine wpAnyH_ready (rs := [0]) (by kernel_rfl) (by simp) ?_
    refine AllReadyH.cons rfl (fun K hK => ?_) AllReadyH.nil
    go_simp
    go_wp2_with (go_at_call 20; refine (awake_any _).mono ?_; rintro e y13 ⟨rfl, hb13⟩)
    have hr13_0 := (hb13.block _ (lt_heap hr12_0)).trans hr12_0
    have hr13_1 := (hb13.block _ (lt_heap hr12_1)).trans hr12_1
    have hr13_2 := (hb13.block _ (lt_heap hr12_2)).trans hr12_2
    have hr13_3 := (hb13.block _ (lt_heap hr12_3)).trans hr12_3
    have hr13_4 := (hb13.block _ (lt_heap hr12_4)).trans hr12_4
    have HU13 := Lib.hid (HU12.out.trans (hb13.mono HU12.out.size))
    refine hK.out _ _ (⟨(hb13.block _ (lt_heap hS0.1)).trans hS0.1, (hb13.block _ (lt_heap hS0.2.1)).trans hS0.2.1, (hb13.block _ (lt_heap hS0.2.2)).trans hS0.2.2⟩) (fun hS13c => ?_)
    clear hK K
    refine wpAnyH_take (i := 1) (v := ?_) rfl (by kernel_rfl) (by kernel_rfl) (by kernel_rfl) (fun _ _ _ h => h) (Or.inl ⟨by kernel_rfl, by (intro wz hSz; go_simp; try with_reducible rfl)⟩) hS13c ?_
    go_simp
    refine wpAnyH_take (i := 2) (v := ?_) rfl (by kernel_rfl) (by kernel_rfl) (by kernel_rfl) (fun _ _ _ h => h) (Or.inl ⟨by kernel_rfl, by (intro wz hSz; go_simp; try with_reducible rfl)⟩) hS13c ?_
    go_simp
    refine wpAnyH_take (i := 3) (v := ?_) rfl (by kernel_rfl) (by kernel_rfl) (by kernel_rfl) (fun _ _ _ h => h) (Or.inl ⟨by kernel_rfl, by (intro wz hSz; have c2_0 := cell_of_row _ _ 0 _ _ _ hSz.1; have c2_1 := cell_of_row _ _ 1 _ _ _ hSz.1; have c2_2 := cell_of_row _ _ 2 _ _ _ hSz.1; have c3_0 := cell_of_row _ _ 0 _ _ _ hSz.2.1; have c3_1 := cell_of_row _ _ 1 _ _ _ hSz.2.1; have c3_2 := cell_of_row _ _ 2 _ _ _ hSz.2.1; have c3_3 := cell_of_row _ _ 3 _ _ _ hSz.2.1; have c3_4 := cell_of_row _ _ 4 _ _ _ hSz.2.1; have c3_5 := cell_of_row _ _ 5 _ _ _ hSz.2.1; have c3_6 := cell_of_row _ _ 6 _ _ _ hSz.2.1; have c3_7 := cell_of_row _ _ 7 _ _ _ hSz.2.1; have c4_0 := cell_of_row _ _ 0 _ _ _ hSz.2.2; have c4_1 := cell_of_row _ _ 1 _ _ _ hSz.2.2; have c4_2 := cell_of_row _ _ 2 _ _ _ hSz.2.2; have c4_3 := cell_of_row _ _ 3 _ _ _ hSz.2.2; have c4_4 := cell_of_row _ _ 4 _ _ _ hSz.2.2; have c4_5 := cell_of_row _ _ 5 _ _ _ hSz.2.2; have c4_6 := cell_of_row _ _ 6 _ _ _ hSz.2.2; have c4_7 := cell_of_row _ _ 7 _ _ _ hSz.2.2; simp at c2_0 c2_1 c2_2 c3_0 c3_1 c3_2 c3_3 c3_4 c3_5 c3_6 c3_7 c4_0 c4_1 c4_2 c4_3 c4_4 c4_5 c4_6 c4_7; go_simp; try with_reducible rfl)⟩) hS13c ?_
    go_simp
    refine wpAnyH_take (i := 5) (v := ?_) rfl (by kernel_rfl) (by kernel_rfl) (by kernel_rfl) (fun _ _ _ h => h) (Or.inl ⟨by kernel_rfl, by (intro wz hSz; go_simp; try with_reducible rfl)⟩) hS13c ?_
    go_simp
    refine wpAnyH_take (i := 6) (v := ?_) rfl (by kernel_rfl) (by kernel_rfl) (by kernel_rfl) (fun _ _ _ h => h) (Or.inl ⟨by kernel_rfl, by (intro wz hSz; have c2_0 := cell_of_row _ _ 0 _ _ _ hSz.1; have c2_1 := cell_of_row _ _ 1 _ _ _ hSz.1; have c2_2 := cell_of_row _ _ 2 _ _ _ hSz.1; have c3_0 := cell_of_row _ _ 0 _ _ _ hSz.2.1; have c3_1 := cell_of_row _ _ 1 _ _ _ hSz.2.1; have c3_2 := cell_of_row _ _ 2 _ _ _ hSz.2.1; have c3_3 := cell_of_row _ _ 3 _ _ _ hSz.2.1; have c3_4 := cell_of_row _ _ 4 _ _ _ hSz.2.1; have c3_5 := cell_of_row _ _ 5 _ _ _ hSz.2.1; have c3_6 := cell_of_row _ _ 6 _ _ _ hSz.2.1; have c3_7 := cell_of_row _ _ 7 _ _ _ hSz.2.1; have c4_0 := cell_of_row _ _ 0 _ _ _ hSz.2.2; have c4_1 := cell_of_row _ _ 1 _ _ _ hSz.2.2; have c4_2 := cell_of_row _ _ 2 _ _ _ hSz.2.2; have c4_3 := cell_of_row _ _ 3 _ _ _ hSz.2.2; have c4_4 := cell_of_row _ _ 4 _ _ _ hSz.2.2; have c4_5 := cell_of_row _ _ 5 _ _ _ hSz.2.2; have c4_6 := cell_of_row _ _ 6 _ _ _ hSz.2.2; have c4_7 := cell_of_row _ _ 7 _ _ _ hSz.2.2; simp at c2_0 c2_1 c2_2 c3_0 c3_1 c3_2 c3_3 c3_4 c3_5 c3_6 c3_7 c4_0 c4_1 c4_2 c4_3 c4_4 c4_5 c4_6 c4_7; go_simp; try with_reducible rfl)⟩) hS13c ?_
    go_simp
    refine wpAnyH_ready (rs := [4]) (by kernel_rfl) (by simp) ?_
    refine AllReadyH.cons rfl (fun K hK => ?_) AllReadyH.nil
    go_simp
    go_wp2_with (go_at_call 21; refine (Co.vfrom_any _ _ _ _).mono ?_; rintro e y14 ⟨rfl, hb14⟩)
    have hr14_0 := (hb14.block _ (lt_heap hr13_0)).trans hr13_0
    have hr14_1 := (hb14.block _ (lt_heap hr13_1)).trans hr13_1
    have hr14_2 := (hb14.block _ (lt_heap hr13_2)).trans hr13_2
    have hr14_3 := (hb14.block _ (lt_heap hr13_3)).trans hr13_3
    have hr14_4 := (hb14.block _ (lt_heap hr13_4)).trans hr13_4
    have HU14 := Lib.hid (HU13.out.trans (hb14.mono HU13.out.size))
    refine hK.out _ _ (⟨(hb14.block _ (lt_heap hS13c.1)).trans hS13c.1, (hb14.block _ (lt_heap hS13c.2.1)).trans hS13c.2.1, (hb14.block _ (lt_heap hS13c.2.2)).trans hS13c.2.2⟩) (fun hS14c => ?_)
    clear hK K
    refine wpAnyH_take (i := 7) (v := ?_) rfl (by kernel_rfl) (by kernel_rfl) (by kernel_rfl) (fun _ _ _ h => h) (Or.inl ⟨by kernel_rfl, by (intro wz hSz; go_simp; try with_reducible rfl)⟩) hS14c ?_
    go_simp
    refine wpAnyH_take (i := 8) (v := ?_) rfl (by kernel_rfl) (by kernel_rfl) (by kernel_rfl) (fun _ _ _ h => h) (Or.inl ⟨by kernel_rfl, by (intro wz hSz; go_simp; try with_reducible rfl)⟩) hS14c ?_
    go_simp
    refine wpAnyH_take (i := 9) (v := ?_) rfl (by kernel_rfl) (by kernel_rfl) (by kernel_rfl) (fun _ _ _ h => h) (Or.inl ⟨by kernel_rfl, by (intro wz hSz; go_simp; try with_reducible rfl)⟩) hS14c ?_
    go_simp
    refine wpAnyH_take (i := 10) (v := ?_) rfl (by kernel_rfl) (by kernel_rfl) (by kernel_rfl) (fun _ _ _ h => h) (Or.inl ⟨by kernel_rfl, by (intro wz hSz; go_simp; try with_reducible rfl)⟩) hS14c ?_
    go_simp
    refine wpAnyH_take (i := 11) (v := ?_) rfl (by kernel_rfl) (by kernel_rfl) (by kernel_rfl) (fun _ _ _ h => h) (Or.inl ⟨by kernel_rfl, by (intro wz hSz; have c2_0 := cell_of_row _ _ 0 _ _ _ hSz.1; have c2_1 := cell_of_row _ _ 1 _ _ _ hSz.1; have c2_2 := cell_of_row _ _ 2 _ _ _ hSz.1; have c3_0 := cell_of_row _ _ 0 _ _ _ hSz.2.1; have c3_1 := cell_of_row _ _ 1 _ _ _ hSz.2.1; have c3_2 := cell_of_row _ _ 2 _ _ _ hSz.2.1; have c3_3 := cell_of_row _ _ 3 _ _ _ hSz.2.1; have c3_4 := cell_of_row _ _ 4 _ _ _ hSz.2.1; have c3_5 := cell_of_row _ _ 5 _ _ _ hSz.2.1; have c3_6 := cell_of_row _ _ 6 _ _ _ hSz.2.1; have c3_7 := cell_of_row _ _ 7 _ _ _ hSz.2.1; have c4_0 := cell_of_row _ _ 0 _ _ _ hSz.2.2; have c4_1 := cell_of_row _ _ 1 _ _ _ hSz.2.2; have c4_2 := cell_of_row _ _ 2 _ _ _ hSz.2.2; have c4_3 := cell_of_row _ _ 3 _ _ _ hSz.2.2; have c4_4 := cell_of_row _ _ 4 _ _ _ hSz.2.2; have c4_5 := cell_of_row _ _ 5 _ _ _ hSz.2.2; have c4_6 := cell_of_row _ _ 6 _ _ _ hSz.2.2; have c4_7 := cell_of_row _ _ 7 _ _ _ hSz.2.2; simp at c2_0 c2_1 c2_2 c3_0 c3_1 c3_2 c3_3 c3_4 c3_5 c3_6 c3_7 c4_0 c4_1 c4_2 c4_3 c4_4 c4_5 c4_6 c4_7; go_simp; try with_reducible rfl)⟩) hS14c ?_
    go_simp
    refine wpAnyH_take (i := 13) (v := ?_) rfl (by kernel_rfl) (by kernel_rfl) (by kernel_rfl) (fun _ _ _ h => h) (Or.inl ⟨by kernel_rfl, by (intro wz hSz; go_simp; try with_reducible rfl)⟩) hS14c ?_
    go_simp
    refine wpAnyH_take (i := 14) (v := ?_) rfl (by kernel_rfl) (by kernel_rfl) (by kernel_rfl) (fun _ _ _ h => h) (Or.inl ⟨by kernel_rfl, by (intro wz hSz; have c2_0 := cell_of_row _ _ 0 _ _ _ hSz.1; have c2_1 := cell_of_row _ _ 1 _ _ _ hSz.1; have c2_2 := cell_of_row _ _ 2 _ _ _ hSz.1; have c3_0 := cell_of_row _ _ 0 _ _ _ hSz.2.1; have c3_1 := cell_of_row _ _ 1 _ _ _ hSz.2.1; have c3_2 := cell_of_row _ _ 2 _ _ _ hSz.2.1; have c3_3 := cell_of_row _ _ 3 _ _ _ hSz.2.1; have c3_4 := cell_of_row _ _ 4 _ _ _ hSz.2.1; have c3_5 := cell_of_row _ _ 5 _ _ _ hSz.2.1; have c3_6 := cell_of_row _ _ 6 _ _ _ hSz.2.1; have c3_7 := cell_of_row _ _ 7 _ _ _ hSz.2.1; have c4_0 := cell_of_row _ _ 0 _ _ _ hSz.2.2; have c4_1 := cell_of_row _ _ 1 _ _ _ hSz.2.2; have c4_2 := cell_of_row _ _ 2 _ _ _ hSz.2.2; have c4_3 := cell_of_row _ _ 3 _ _ _ hSz.2.2; have c4_4 := cell_of_row _ _ 4 _ _ _ hSz.2.2; have c4_5 := cell_of_row _ _ 5 _ _ _ hSz.2.2; have c4_6 := cell_of_row _ _ 6 _ _ _ hSz.2.2; have c4_7 := cell_of_row _ _ 7 _ _ _ hSz.2.2; simp at c2_0 c2_1 c2_2 c3_0 c3_1 c3_2 c3_3 c3_4 c3_5 c3_6 c3_7 c4_0 c4_1 c4_2 c4_3 c4_4 c4_5 c4_6 c4_7; go_simp; try with_reducible rfl)⟩) hS14c ?_
    go_simp
    refine wpAnyH_ready (rs := [12]) (by kernel_rfl) (by simp) ?_
    refine AllReadyH.cons rfl (fun K hK => ?_) AllReadyH.nil
    go_simp
    go_wp2_with (go_at_call 22; refine (hfrom_any _ _ _ _).mono ?_; rintro e y15 ⟨rfl, hb15⟩)
    have hr15_0 := (hb15.block _ (lt_heap hr14_0)).trans hr14_0
    have hr15_1 := (hb15.block _ (lt_heap hr14_1)).trans hr14_1
    have hr15_2 := (hb15.block _ (lt_heap hr14_2)).trans hr14_2
    have hr15_3 := (hb15.block _ (lt_heap hr14_3)).trans hr14_3
    have hr15_4 := (hb15.block _ (lt_heap hr14_4)).trans hr14_4
    have HU15 := Lib.hid (HU14.out.trans (hb15.mono HU14.out.size))
    refine hK.out _ _ (⟨(hb15.block _ (lt_heap hS14c.1)).trans hS14c.1, (hb15.block _ (lt_heap hS14c.2.1)).trans hS14c.2.1, (hb15.block _ (lt_heap hS14c.2.2)).trans hS14c.2.2⟩) (fun hS15c => ?_)
    clear hK K
    refine wpAnyH_take (i := 15) (v := ?_) rfl (by kernel_rfl) (by kernel_rfl) (by kernel_rfl) (fun _ _ _ h => h) (Or.inl ⟨by kernel_rfl, by (intro wz hSz; go_simp; try with_reducible rfl)⟩) hS15c ?_
    go_simp
    refine wpAnyH_take (i := 16) (v := ?_) rfl (by kernel_rfl) (by kernel_rfl) (by kernel_rfl) (fun _ _ _ h => h) (Or.inl ⟨by kernel_rfl, by (intro wz hSz; go_simp; try with_reducible rfl)⟩) hS15c ?_
    go_simp
    refine wpAnyH_take (i := 17) (v := ?_) rfl (by kernel_rfl) (by kernel_rfl) (by kernel_rfl) (fun _ _ _ h => h) (Or.inl ⟨by kernel_rfl, by (intro wz hSz; go_simp; try with_reducible rfl)⟩) hS15c ?_
    go_simp
    refine wpAnyH_take (i := 18) (v := ?_) rfl (by kernel_rfl) (by kernel_rfl) (by kernel_rfl) (fun _ _ _ h => h) (Or.inl ⟨by kernel_rfl, by (intro wz hSz; go_simp; try with_reducible rfl)⟩) hS15c ?_
    go_simp
    refine wpAnyH_take (i := 19) (v := ?_) rfl (by kernel_rfl) (by kernel_rfl) (by kernel_rfl) (fun _ _ _ h => h) (Or.inl ⟨by kernel_rfl, by (intro wz hSz; have c2_0 := cell_of_row _ _ 0 _ _ _ hSz.1; have c2_1 := cell_of_row _ _ 1 _ _ _ hSz.1; have c2_2 := cell_of_row _ _ 2 _ _ _ hSz.1; have c3_0 := cell_of_row _ _ 0 _ _ _ hSz.2.1; have c3_1 := cell_of_row _ _ 1 _ _ _ hSz.2.1; have c3_2 := cell_of_row _ _ 2 _ _ _ hSz.2.1; have c3_3 := cell_of_row _ _ 3 _ _ _ hSz.2.1; have c3_4 := cell_of_row _ _ 4 _ _ _ hSz.2.1; have c3_5 := cell_of_row _ _ 5 _ _ _ hSz.2.1; have c3_6 := cell_of_row _ _ 6 _ _ _ hSz.2.1; have c3_7 := cell_of_row _ _ 7 _ _ _ hSz.2.1; have c4_0 := cell_of_row _ _ 0 _ _ _ hSz.2.2; have c4_1 := cell_of_row _ _ 1 _ _ _ hSz.2.2; have c4_2 := cell_of_row _ _ 2 _ _ _ hSz.2.2; have c4_3 := cell_of_row _ _ 3 _ _ _ hSz.2.2; have c4_4 := cell_of_row _ _ 4 _ _ _ hSz.2.2; have c4_5 := cell_of_row _ _ 5 _ _ _ hSz.2.2; have c4_6 := cell_of_row _ _ 6 _ _ _ hSz.2.2; have c4_7 := cell_of_row _ _ 7 _ _ _ hSz.2.2; simp at c2_0 c2_1 c2_2 c3_0 c3_1 c3_2 c3_3 c3_4 c3_5 c3_6 c3_7 c4_0 c4_1 c4_2 c4_3 c4_4 c4_5 c4_6 c4_7; go_simp; try with_reducible rfl)⟩) hS15c ?_
    go_simp
    refine wpAnyH_take (i := 20) (v := ?_) rfl (by kernel_rfl) (by kernel_rfl) (by kernel_rfl) (fun _ _ _ h => h) (Or.inl ⟨by kernel_rfl, by (intro wz hSz; go_simp; try with_reducible rfl)⟩) hS15c ?_
    go_simp
    refine wpAnyH_take (i := 21) (v := ?_) rfl (by kernel_rfl) (by kernel_rfl) (by kernel_rfl) (fun _ _ _ h => h) (Or.inl ⟨by kernel_rfl, by (intro wz hSz; have c2_0 := cell_of_row _ _ 0 _ _ _ hSz.1; have c2_1 := cell_of_row _ _ 1 _ _ _ hSz.1; have c2_2 := cell_of_row _ _ 2 _ _ _ hSz.1; have c3_0 := cell_of_row _ _ 0 _ _ _ hSz.2.1; have c3_1 := cell_of_row _ _ 1 _ _ _ hSz.2.1; have c3_2 := cell_of_row _ _ 2 _ _ _ hSz.2.1; have c3_3 := cell_of_row _ _ 3 _ _ _ hSz.2.1; have c3_4 := cell_of_row _ _ 4 _ _ _ hSz.2.1; have c3_5 := cell_of_row _ _ 5 _ _ _ hSz.2.1; have c3_6 := cell_of_row _ _ 6 _ _ _ hSz.2.1; have c3_7 := cell_of_row _ _ 7 _ _ _ hSz.2.1; have c4_0 := cell_of_row _ _ 0 _ _ _ hSz.2.2; have c4_1 := cell_of_row _ _ 1 _ _ _ hSz.2.2; have c4_2 := cell_of_row _ _ 2 _ _ _ hSz.2.2; have c4_3 := cell_of_row _ _ 3 _ _ _ hSz.2.2; have c4_4 := cell_of_row _ _ 4 _ _ _ hSz.2.2; have c4_5 := cell_of_row _ _ 5 _ _ _ hSz.2.2; have c4_6 := cell_of_row _ _ 6 _ _ _ hSz.2.2; have c4_7 := cell_of_row _ _ 7 _ _ _ hSz.2.2; simp at c2_0 c2_1 c2_2 c3_0 c3_1 c3_2 c3_3 c3_4 c3_5 c3_6 c3_7 c4_0 c4_1 c4_2 c4_3 c4_4 c4_5 c4_6 c4_7; go_simp; try with_reducible rfl)⟩) hS15c ?_
    go_simp
    refine wpAnyH_take (i := 22) (v := ?_) rfl (by kernel_rfl) (by kernel_rfl) (by kernel_rfl) (fun _ _ _ h => h) (Or.inl ⟨by kernel_rfl, by (intro wz hSz; go_simp; try with_reducible rfl)⟩) hS15c ?_
    go_simp
    refine wpAnyH_take (i := 23) (v := ?_) rfl (by kernel_rfl) (by kernel_rfl) (by kernel_rfl) (fun _ _ _ h => h) (Or.inl ⟨by kernel_rfl, by (intro wz hSz; go_simp; try with_reducible rfl)⟩) hS15c ?_
    go_simp
    refine wpAnyH_take (i := 24) (v := ?_) rfl (by kernel_rfl) (by kernel_rfl) (by kernel_rfl) (fun _ _ _ h => h) (Or.inl ⟨by kernel_rfl, by (intro wz hSz; go_simp; try with_reducible rfl)⟩) hS15c ?_
    go_simp
    refine wpAnyH_take (i := 25) (v := ?_) rfl (by kernel_rfl) (by kernel_rfl) (by kernel_rfl) (fun _ _ _ h => h) (Or.inl ⟨by kernel_rfl, by (intro wz hSz; go_simp; try with_reducible rfl)⟩) hS15c ?_
    go_simp
    refine wpAnyH_take (i := 26) (v := ?_) rfl (by kernel_rfl) (by kernel_rfl) (by kernel_rfl) (fun _ _ _ h => h) (Or.inl ⟨by kernel_rfl, by (intro wz hSz; have c2_0 := cell_of_row _ _ 0 _ _ _ hSz.1; have c2_1 := cell_of_row _ _ 1 _ _ _ hSz.1; have c2_2 := cell_of_row _ _ 2 _ _ _ hSz.1; have c3_0 := cell_of_row _ _ 0 _ _ _ hSz.2.1; have c3_1 := cell_of_row _ _ 1 _ _ _ hSz.2.1; have c3_2 := cell_of_row _ _ 2 _ _ _ hSz.2.1; have c3_3 := cell_of_row _ _ 3 _ _ _ hSz.2.1; have c3_4 := cell_of_row _ _ 4 _ _ _ hSz.2.1; have c3_5 := cell_of_row _ _ 5 _ _ _ hSz.2.1; have c3_6 := cell_of_row _ _ 6 _ _ _ hSz.2.1; have c3_7 := cell_of_row _ _ 7 _ _ _ hSz.2.1; have c4_0 := cell_of_row _ _ 0 _ _ _ hSz.2.2; have c4_1 := cell_of_row _ _ 1 _ _ _ hSz.2.2; have c4_2 := cell_of_row _ _ 2 _ _ _ hSz.2.2; have c4_3 := cell_of_row _ _ 3 _ _ _ hSz.2.2; have c4_4 := cell_of_row _ _ 4 _ _ _ hSz.2.2; have c4_5 := cell_of_row _ _ 5 _ _ _ hSz.2.2; have c4_6 := cell_of_row _ _ 6 _ _ _ hSz.2.2; have c4_7 := cell_of_row _ _ 7 _ _ _ hSz.2.2; simp at c2_0 c2_1 c2_2 c3_0 c3_1 c3_2 c3_3 c3_4 c3_5 c3_6 c3_7 c4_0 c4_1 c4_2 c4_3 c4_4 c4_5 c4_6 c4_7; go_simp; try with_reducible rfl)⟩) hS15c ?_
    go_simp
    refine wpAnyH_take (i := 27) (v := ?_) rfl (by kernel_rfl) (by kernel_rfl) (by kernel_rfl) (fun _ _ _ h => h) (Or.inl ⟨by kernel_rfl, by (intro wz hSz; go_simp; try with_reducible rfl)⟩) hS15c ?_
    go_simp
    refine wpAnyH_take (i := 28) (v := ?_) rfl (by kernel_rfl) (by kernel_rfl) (by kernel_rfl) (fun _ _ _ h => h) (Or.inl ⟨by kernel_rfl, by (intro wz hSz; have c2_0 := cell_of_row _ _ 0 _ _ _ hSz.1; have c2_1 := cell_of_row _ _ 1 _ _ _ hSz.1; have c2_2 := cell_of_row _ _ 2 _ _ _ hSz.1; have c3_0 := cell_of_row _ _ 0 _ _ _ hSz.2.1; have c3_1 := cell_of_row _ _ 1 _ _ _ hSz.2.1; have c3_2 := cell_of_row _ _ 2 _ _ _ hSz.2.1; have c3_3 := cell_of_row _ _ 3 _ _ _ hSz.2.1; have c3_4 := cell_of_row _ _ 4 _ _ _ hSz.2.1; have c3_5 := cell_of_row _ _ 5 _ _ _ hSz.2.1; have c3_6 := cell_of_row _ _ 6 _ _ _ hSz.2.1; have c3_7 := cell_of_row _ _ 7 _ _ _ hSz.2.1; have c4_0 := cell_of_row _ _ 0 _ _ _ hSz.2.2; have c4_1 := cell_of_row _ _ 1 _ _ _ hSz.2.2; have c4_2 := cell_of_row _ _ 2 _ _ _ hSz.2.2; have c4_3 := cell_of_row _ _ 3 _ _ _ hSz.2.2; have c4_4 := cell_of_row _ _ 4 _ _ _ hSz.2.2; have c4_5 := cell_of_row _ _ 5 _ _ _ hSz.2.2; have c4_6 := cell_of_row _ _ 6 _ _ _ hSz.2.2; have c4_7 := cell_of_row _ _ 7 _ _ _ hSz.2.2; simp at c2_0 c2_1 c2_2 c3_0 c3_1 c3_2 c3_3 c3_4 c3_5 c3_6 c3_7 c4_0 c4_1 c4_2 c4_3 c4_4 c4_5 c4_6 c4_7; go_simp; try with_reducible rfl)⟩) hS15c ?_
    go_simp
    refine wpAnyH_take (i := 29) (v := ?_) rfl (by kernel_rfl) (by kernel_rfl) (by kernel_rfl) (fun _ _ _ h => h) (Or.inl ⟨by kernel_rfl, by (intro wz hSz; go_simp; try with_reducible rfl)⟩) hS15c ?_
    go_simp
    refine wpAnyH_take (i := 30) (v := ?_) rfl (by kernel_rfl) (by kernel_rfl) (by kernel_rfl) (fun _ _ _ h => h) (Or.inl ⟨by kernel_rfl, by (intro wz hSz; go_simp; try with_reducible rfl)⟩) hS15c ?_
    go_simp
    refine wpAnyH_take (i := 31) (v := ?_) rfl (by kernel_rfl) (by kernel_rfl) (by kernel_rfl) (fun _ _ _ h => h) (Or.inl ⟨by kernel_rfl, by (intro wz hSz; go_simp; try with_reducible rfl)⟩) hS15c ?_
    go_simp
    refine wpAnyH_take (i := 32) (v := ?_) rfl (by kernel_rfl) (by kernel_rfl) (by kernel_rfl) (fun _ _ _ h => h) (Or.inl ⟨by kernel_rfl, by (intro wz hSz; go_simp; try with_reducible rfl)⟩) hS15c ?_
    go_simp
    refine wpAnyH_take (i := 33) (v := ?_) rfl (by kernel_rfl) (by kernel_rfl) (by kernel_rfl) (fun _ _ _ h => h) (Or.inl ⟨by kernel_rfl, by (intro wz hSz; have c2_0 := cell_of_row _ _ 0 _ _ _ hSz.1; have c2_1 := cell_of_row _ _ 1 _ _ _ hSz.1; have c2_2 := cell_of_row _ _ 2 _ _ _ hSz.1; have c3_0 := cell_of_row _ _ 0 _ _ _ hSz.2.1; have c3_1 := cell_of_row _ _ 1 _ _ _ hSz.2.1; have c3_2 := cell_of_row _ _ 2 _ _ _ hSz.2.1; have c3_3 := cell_of_row _ _ 3 _ _ _ hSz.2.1; have c3_4 := cell_of_row _ _ 4 _ _ _ hSz.2.1; have c3_5 := cell_of_row _ _ 5 _ _ _ hSz.2.1; have c3_6 := cell_of_row _ _ 6 _ _ _ hSz.2.1; have c3_7 := cell_of_row _ _ 7 _ _ _ hSz.2.1; have c4_0 := cell_of_row _ _ 0 _ _ _ hSz.2.2; have c4_1 := cell_of_row _ _ 1 _ _ _ hSz.2.2; have c4_2 := cell_of_row _ _ 2 _ _ _ hSz.2.2; have c4_3 := cell_of_row _ _ 3 _ _ _ hSz.2.2; have c4_4 := cell_of_row _ _ 4 _ _ _ hSz.2.2; have c4_5 := cell_of_row _ _ 5 _ _ _ hSz.2.2; have c4_6 := cell_of_row _ _ 6 _ _ _ hSz.2.2; have c4_7 := cell_of_row _ _ 7 _ _ _ hSz.2.2; simp at c2_0 c2_1 c2_2 c3_0 c3_1 c3_2 c3_3 c3_4 c3_5 c3_6 c3_7 c4_0 c4_1 c4_2 c4_3 c4_4 c4_5 c4_6 c4_7; go_simp; try with_reducible rfl)⟩) hS15c ?_
    go_simp
    refine wpAnyH_take (i := 34) (v := ?_) rfl (by kernel_rfl) (by kernel_rfl) (by kernel_rfl) (fun _ _ _ h => h) (Or.inl ⟨by kernel_rfl, by (intro wz hSz; go_simp; try with_reducible rfl)⟩) hS15c ?_
    go_simp
    refine wpAnyH_take (i := 35) (v := ?_) rfl (by kernel_rfl) (by kernel_rfl) (by kernel_rfl) (fun _ _ _ h => h) (Or.inl ⟨by kernel_rfl, by (intro wz hSz; go_simp; try with_reducible rfl)⟩) hS15c ?_
    go_simp
    refine wpAnyH_take (i := 36) (v := ?_) rfl (by kernel_rfl) (by kernel_rfl) (by kernel_rfl) (fun _ _ _ h => h) (Or.inl ⟨by kernel_rfl, by (intro wz hSz; go_simp; try with_reducible rfl)⟩) hS15c ?_
    go_simp
    refine wpAnyH_take (i := 37) (v := ?_) rfl (by kernel_rfl) (by kernel_rfl) (by kernel_rfl) (fun _ _ _ h => h) (Or.inl ⟨by kernel_rfl, by (intro wz hSz; have c2_0 := cell_of_row _ _ 0 _ _ _ hSz.1; have c2_1 := cell_of_row _ _ 1 _ _ _ hSz.1; have c2_2 := cell_of_row _ _ 2 _ _ _ hSz.1; have c3_0 := cell_of_row _ _ 0 _ _ _ hSz.2.1; have c3_1 := cell_of_row _ _ 1 _ _ _ hSz.2.1; have c3_2 := cell_of_row _ _ 2 _ _ _ hSz.2.1; have c3_3 := cell_of_row _ _ 3 _ _ _ hSz.2.1; have c3_4 := cell_of_row _ _ 4 _ _ _ hSz.2.1; have c3_5 := cell_of_row _ _ 5 _ _ _ hSz.2.1; have c3_6 := cell_of_row _ _ 6 _ _ _ hSz.2.1; have c3_7 := cell_of_row _ _ 7 _ _ _ hSz.2.1; have c4_0 := cell_of_row _ _ 0 _ _ _ hSz.2.2; have c4_1 := cell_of_row _ _ 1 _ _ _ hSz.2.2; have c4_2 := cell_of_row _ _ 2 _ _ _ hSz.2.2; have c4_3 := cell_of_row _ _ 3 _ _ _ hSz.2.2; have c4_4 := cell_of_row _ _ 4 _ _ _ hSz.2.2; have c4_5 := cell_of_row _ _ 5 _ _ _ hSz.2.2; have c4_6 := cell_of_row _ _ 6 _ _ _ hSz.2.2; have c4_7 := cell_of_row _ _ 7 _ _ _ hSz.2.2; simp at c2_0 c2_1 c2_2 c3_0 c3_1 c3_2 c3_3 c3_4 c3_5 c3_6 c3_7 c4_0 c4_1 c4_2 c4_3 c4_4 c4_5 c4_6 c4_7; go_simp; try with_reducible rfl)⟩) hS15c ?_
    go_simp
    refine wpAnyH_take (i := 38) (v := ?_) rfl (by kernel_rfl) (by kernel_rfl) (by kernel_rfl) (fun _ _ _ h => h) (Or.inl ⟨by kernel_rfl, by (intro wz hSz; have c2_0 := cell_of_row _ _ 0 _ _ _ hSz.1; have c2_1 := cell_of_row _ _ 1 _ _ _ hSz.1; have c2_2 := cell_of_row _ _ 2 _ _ _ hSz.1; have c3_0 := cell_of_row _ _ 0 _ _ _ hSz.2.1; have c3_1 := cell_of_row _ _ 1 _ _ _ hSz.2.1; have c3_2 := cell_of_row _ _ 2 _ _ _ hSz.2.1; have c3_3 := cell_of_row _ _ 3 _ _ _ hSz.2.1; have c3_4 := cell_of_row _ _ 4 _ _ _ hSz.2.1; have c3_5 := cell_of_row _ _ 5 _ _ _ hSz.2.1; have c3_6 := cell_of_row _ _ 6 _ _ _ hSz.2.1; have c3_7 := cell_of_row _ _ 7 _ _ _ hSz.2.1; have c4_0 := cell_of_row _ _ 0 _ _ _ hSz.2.2; have c4_1 := cell_of_row _ _ 1 _ _ _ hSz.2.2; have c4_2 := cell_of_row _ _ 2 _ _ _ hSz.2.2; have c4_3 := cell_of_row _ _ 3 _ _ _ hSz.2.2; have c4_4 := cell_of_row _ _ 4 _ _ _ hSz.2.2; have c4_5 := cell_of_row _ _ 5 _ _ _ hSz.2.2; have c4_6 := cell_of_row _ _ 6 _ _ _ hSz.2.2; have c4_7 := cell_of_row _ _ 7 _ _ _ hSz.2.2; simp at c2_0 c2_1 c2_2 c3_0 c3_1 c3_2 c3_3 c3_4 c3_5 c3_6 c3_7 c4_0 c4_1 c4_2 c4_3 c4_4 c4_5 c4_6 c4_7; go_simp; try with_reducible rfl)⟩) hS15c ?_
    go_simp
    refine wpAnyH_ready (rs := [39]) (by kernel_rfl) (by simp) ?_
    refine AllReadyH.cons rfl (fun K hK => ?_) AllReadyH.nil
    go_simp
    go_wp2_with (go_at_call 18; refine (Co.vto_any _ _ _ _).mono ?_; rintro e y16 ⟨rfl, hb16⟩)
    have hr16_0 := (hb16.block _ (lt_heap hr15_0)).trans hr15_0
    have hr16_1 := (hb16.block _ (lt_heap hr15_1)).trans hr15_1
    have hr16_2 := (hb16.block _ (lt_heap hr15_2)).trans hr15_2
    have hr16_3 := (hb16.block _ (lt_heap hr15_3)).trans hr15_3
    have hr16_4 := (hb16.block _ (lt_heap hr15_4)).trans hr15_4
    have HU16 := Lib.hid (HU15.out.trans (hb16.mono HU15.out.size))
    refine hK.out _ _ (⟨(hb16.block _ (lt_heap hS15c.1)).trans hS15c.1, (hb16.block _ (lt_heap hS15c.2.1)).trans hS15c.2.1, (hb16.block _ (lt_heap hS15c.2.2)).trans hS15c.2.2⟩) (fun hS16c => ?_)
    clear hK K
    refine wpAnyH_ready (rs := [40]) (by kernel_rfl) (by simp) ?_
    refine AllReadyH.cons rfl (fun K hK => ?_) AllReadyH.nil
    go_simp
    go_wp2_with (go_at_call 23; refine (hT _).mono ?_; rintro e y17 ⟨rfl, hb17⟩)
    have hr17_0 := (hb17.block _ (lt_heap hr16_0)).trans hr16_0
    have hr17_1 := (hb17.block _ (lt_heap hr16_1)).trans hr16_1
    have hr17_2 := (hb17.block _ (lt_heap hr16_2)).trans hr16_2
    have hr17_3 := (hb17.block _ (lt_heap hr16_3)).trans hr16_3
    have hr17_4 := (hb17.block _ (lt_heap hr16_4)).trans hr16_4
    have HU17 := Lib.hid (HU16.out.trans (hb17.mono HU16.out.size))
    refine hK.out _ _ (⟨(hb17.block _ (lt_heap hS16c.1)).trans hS16c.1, (hb17.block _ (lt_heap hS16c.2.1)).trans hS16c.2.1, (hb17.block _ (lt_heap hS16c.2.2)).trans hS16c.2.2⟩) (fun hS17c => ?_)
    clear hK K
    refine wpAnyH_take (i := 41) (v := ?_) rfl (by kernel_rfl) (by kernel_rfl) (by kernel_rfl) (fun _ _ _ h => h) (Or.inl ⟨by kernel_rfl, by (intro wz hSz; go_simp; try with_reducible rfl)⟩) hS17c ?_
    go_simp
    refine wpAnyH_take (i := 42) (v := ?_) rfl (by kernel_rfl) (by kernel_rfl) (by kernel_rfl) (fun _ _ _ h => h) (Or.inl ⟨by kernel_rfl, by (intro wz hSz; go_simp; try with_reducible rfl)⟩) hS17c ?_
    go_simp
    refine wpAnyH_take (i := 43) (v := ?_) rfl (by kernel_rfl) (by kernel_rfl) (by kernel_rfl) (fun _ _ _ h => h) (Or.inl ⟨by kernel_rfl, by (intro wz hSz; go_simp; try with_reducible rfl)⟩) hS17c ?_
    go_simp
    refine wpAnyH_take (i := 44) (v := ?_) rfl (by kernel_rfl) (by kernel_rfl) (by kernel_rfl) (fun _ _ _ h => h) (Or.inl ⟨by kernel_rfl, by (intro wz hSz; go_simp; try with_reducible rfl)⟩) hS17c ?_
    go_simp
    refine wpAnyH_done (by kernel_rfl) ?_ _
    go_wp2
    go_ret
    exact ⟨rfl, HU17.out⟩

set_option maxHeartbeats 8000000 in
set_option maxRecDepth 100000 in
theorem core_stays (k c1 c2 c3 ro d1_ d2_ d3_ n1 n2 n3 u v x1 x2 x3 r g b z : Int) (s : Bool) (hA : ∀ W : World, Calls Try.prog 16 #[.agg #[.int .i64 k, .int .i64 c1, .int .i64 c2, .int .i64 c3, .int .i64 ro], .agg #[.int .i64 d1_, .int .i64 d2_, .int .i64 d3_], .agg #[.int .i64 n1, .int .i64 n2, .int .i64 n3], .int .i64 u, .int .i64 v] W fun e' w' => e' = .returned (.agg #[.int .i64 x1, .int .i64 x2, .int .i64 x3, .int .i64 r, .int .i64 g, .int .i64 b, .bool false, .bool s]) ∧ Below W.heap.size W w') (hB : ∀ W : World, Calls Try.prog 19 #[.agg #[.int .i64 k, .int .i64 c1, .int .i64 c2, .int .i64 c3, .int .i64 ro], .agg #[.int .i64 d1_, .int .i64 d2_, .int .i64 d3_], .agg #[.int .i64 n1, .int .i64 n2, .int .i64 n3], .int .i64 u, .int .i64 v] W fun e' w' => e' = .returned (.agg #[.int .i64 x1, .int .i64 x2, .int .i64 x3, .int .i64 r, .int .i64 g, .int .i64 b, .bool false, .bool s]) ∧ Below W.heap.size W w')   (w : World)  : Calls Try.prog 5 #[.agg #[.int .i64 k, .int .i64 c1, .int .i64 c2, .int .i64 c3, .int .i64 ro], .agg #[.int .i64 d1_, .int .i64 d2_, .int .i64 d3_], .agg #[.int .i64 n1, .int .i64 n2, .int .i64 n3], .int .i64 u, .int .i64 v] w fun e' w' => e' = .returned (.bool true) ∧ Below w.heap.size w w' := by
  have heq := eq_v3
  have heh := eq_hue
  go_enter Try.func5, Try.ntmps5
  go_upto_region 1 with fail
  have hR := Au.rows3 w (.cells #[.int .i64 k, .int .i64 c1, .int .i64 c2, .int .i64 c3, .int .i64 ro] 59) (.cells #[.int .i64 d1_, .int .i64 d2_, .int .i64 d3_] 47) (.cells #[.int .i64 n1, .int .i64 n2, .int .i64 n3] 47)
  have HUx := below_n3 w (.cells #[.int .i64 k, .int .i64 c1, .int .i64 c2, .int .i64 c3, .int .i64 ro] 59) (.cells #[.int .i64 d1_, .int .i64 d2_, .int .i64 d3_] 47) (.cells #[.int .i64 n1, .int .i64 n2, .int .i64 n3] 47)
  obtain ⟨y0, hy0⟩ : ∃ y0, ((w.alloc (.cells #[.int .i64 k, .int .i64 c1, .int .i64 c2, .int .i64 c3, .int .i64 ro] 59)).alloc (.cells #[.int .i64 d1_, .int .i64 d2_, .int .i64 d3_] 47)).alloc (.cells #[.int .i64 n1, .int .i64 n2, .int .i64 n3] 47) = y0 := ⟨_, rfl⟩
  rw [hy0] at hR HUx ⊢
  clear hy0
  have HU0 := Lib.hid HUx
  clear HUx
  obtain ⟨hr0_0, hr0_1, hr0_2⟩ := hR
  go_cut [11] (fun s11 wx => ∃ q : Nat, s11 = .pointer (some ⟨q, 0, none⟩) ∧ wx.heap[w.heap.size]? = some (.cells #[.int .i64 k, .int .i64 c1, .int .i64 c2, .int .i64 c3, .int .i64 ro] 59 (0, 0)) ∧ wx.heap[w.heap.size + 1]? = some (.cells #[.int .i64 d1_, .int .i64 d2_, .int .i64 d3_] 47 (0, 0)) ∧ wx.heap[w.heap.size + 1 + 1]? = some (.cells #[.int .i64 n1, .int .i64 n2, .int .i64 n3] 47 (0, 0)) ∧ wx.heap[q]? = some (.cells #[.int .i64 x1, .int .i64 x2, .int .i64 x3, .int .i64 r, .int .i64 g, .int .i64 b, .bool false, .bool s] 63 (0, 0)) ∧ Hid (Below w.heap.size w wx))
  case first =>
    refine wp_region_held_drew (S := fun y => y.heap[w.heap.size]? = some (.cells #[.int .i64 k, .int .i64 c1, .int .i64 c2, .int .i64 c3, .int .i64 ro] 59 (0, 0)) ∧ y.heap[w.heap.size + 1]? = some (.cells #[.int .i64 d1_, .int .i64 d2_, .int .i64 d3_] 47 (0, 0)) ∧ y.heap[w.heap.size + 1 + 1]? = some (.cells #[.int .i64 n1, .int .i64 n2, .int .i64 n3] 47 (0, 0))) (by kernel_rfl) (⟨hr0_0, hr0_1, hr0_2⟩) (fun hS0 => ?_)
    obtain ⟨y1, hy1⟩ : ∃ y, y0.drew = y := ⟨_, rfl⟩
    have HU1 := Lib.hid (show Below w.heap.size w y1 by rw [← hy1]; exact HU0.out.drew)
    have hr1_0 : y1.heap[w.heap.size]? = some (.cells #[.int .i64 k, .int .i64 c1, .int .i64 c2, .int .i64 c3, .int .i64 ro] 59 (0, 0)) := by rw [← hy1]; exact hr0_0
    have hr1_1 : y1.heap[w.heap.size + 1]? = some (.cells #[.int .i64 d1_, .int .i64 d2_, .int .i64 d3_] 47 (0, 0)) := by rw [← hy1]; exact hr0_1
    have hr1_2 : y1.heap[w.heap.size + 1 + 1]? = some (.cells #[.int .i64 n1, .int .i64 n2, .int .i64 n3] 47 (0, 0)) := by rw [← hy1]; exact hr0_2
    rw [hy1] at hS0 ⊢
    clear hy1
    refine wpAnyH_take (i := 0) (v := ?_) rfl (by kernel_rfl) (by kernel_rfl) (by kernel_rfl) (fun _ _ _ h => h) (Or.inl ⟨by kernel_rfl, by (intro wz hSz; have c0_0 := cell_of_row _ _ 0 _ _ _ hSz.1; have c0_1 := cell_of_row _ _ 1 _ _ _ hSz.1; have c0_2 := cell_of_row _ _ 2 _ _ _ hSz.1; have c0_3 := cell_of_row _ _ 3 _ _ _ hSz.1; have c0_4 := cell_of_row _ _ 4 _ _ _ hSz.1; have c1_0 := cell_of_row _ _ 0 _ _ _ hSz.2.1; have c1_1 := cell_of_row _ _ 1 _ _ _ hSz.2.1; have c1_2 := cell_of_row _ _ 2 _ _ _ hSz.2.1; have c2_0 := cell_of_row _ _ 0 _ _ _ hSz.2.2; have c2_1 := cell_of_row _ _ 1 _ _ _ hSz.2.2; have c2_2 := cell_of_row _ _ 2 _ _ _ hSz.2.2; simp at c0_0 c0_1 c0_2 c0_3 c0_4 c1_0 c1_1 c1_2 c2_0 c2_1 c2_2; go_simp; try with_reducible rfl)⟩) hS0 ?_
    go_simp
    refine wpAnyH_take (i := 2) (v := ?_) rfl (by kernel_rfl) (by kernel_rfl) (by kernel_rfl) (fun _ _ _ h => h) (Or.inl ⟨by kernel_rfl, by (intro wz hSz; have c0_0 := cell_of_row _ _ 0 _ _ _ hSz.1; have c0_1 := cell_of_row _ _ 1 _ _ _ hSz.1; have c0_2 := cell_of_row _ _ 2 _ _ _ hSz.1; have c0_3 := cell_of_row _ _ 3 _ _ _ hSz.1; have c0_4 := cell_of_row _ _ 4 _ _ _ hSz.1; have c1_0 := cell_of_row _ _ 0 _ _ _ hSz.2.1; have c1_1 := cell_of_row _ _ 1 _ _ _ hSz.2.1; have c1_2 := cell_of_row _ _ 2 _ _ _ hSz.2.1; have c2_0 := cell_of_row _ _ 0 _ _ _ hSz.2.2; have c2_1 := cell_of_row _ _ 1 _ _ _ hSz.2.2; have c2_2 := cell_of_row _ _ 2 _ _ _ hSz.2.2; simp at c0_0 c0_1 c0_2 c0_3 c0_4 c1_0 c1_1 c1_2 c2_0 c2_1 c2_2; go_simp; try with_reducible rfl)⟩) hS0 ?_
    go_simp
    refine wpAnyH_take (i := 4) (v := ?_) rfl (by kernel_rfl) (by kernel_rfl) (by kernel_rfl) (fun _ _ _ h => h) (Or.inl ⟨by kernel_rfl, by (intro wz hSz; have c0_0 := cell_of_row _ _ 0 _ _ _ hSz.1; have c0_1 := cell_of_row _ _ 1 _ _ _ hSz.1; have c0_2 := cell_of_row _ _ 2 _ _ _ hSz.1; have c0_3 := cell_of_row _ _ 3 _ _ _ hSz.1; have c0_4 := cell_of_row _ _ 4 _ _ _ hSz.1; have c1_0 := cell_of_row _ _ 0 _ _ _ hSz.2.1; have c1_1 := cell_of_row _ _ 1 _ _ _ hSz.2.1; have c1_2 := cell_of_row _ _ 2 _ _ _ hSz.2.1; have c2_0 := cell_of_row _ _ 0 _ _ _ hSz.2.2; have c2_1 := cell_of_row _ _ 1 _ _ _ hSz.2.2; have c2_2 := cell_of_row _ _ 2 _ _ _ hSz.2.2; simp at c0_0 c0_1 c0_2 c0_3 c0_4 c1_0 c1_1 c1_2 c2_0 c2_1 c2_2; go_simp; try with_reducible rfl)⟩) hS0 ?_
    go_simp
    refine wpAnyH_take (i := 6) (v := ?_) rfl (by kernel_rfl) (by kernel_rfl) (by kernel_rfl) (fun _ _ _ h => h) (Or.inl ⟨by kernel_rfl, by (intro wz hSz; go_simp; try with_reducible rfl)⟩) hS0 ?_
    go_simp
    refine wpAnyH_take (i := 7) (v := ?_) rfl (by kernel_rfl) (by kernel_rfl) (by kernel_rfl) (fun _ _ _ h => h) (Or.inl ⟨by kernel_rfl, by (intro wz hSz; go_simp; try with_reducible rfl)⟩) hS0 ?_
    go_simp
    refine wpAnyH_ready (rs := [1, 9]) (by kernel_rfl) (by simp) ?_
    refine AllReadyH.cons rfl (fun K hK => ?_) (AllReadyH.cons rfl (fun K hK => ?_) AllReadyH.nil)
    · skip
      go_simp
      go_wp2_with (go_at_call 17; refine (paint_any _ _ _ _ _ _).mono ?_; rintro e y2 ⟨rfl, hb2⟩)
      have hr2_0 := (hb2.block _ (lt_heap hr1_0)).trans hr1_0
      have hr2_1 := (hb2.block _ (lt_heap hr1_1)).trans hr1_1
      have hr2_2 := (hb2.block _ (lt_heap hr1_2)).trans hr1_2
      have HU2 := Lib.hid (HU1.out.trans (hb2.mono HU1.out.size))
      refine hK.out _ _ (⟨(hb2.block _ (lt_heap hS0.1)).trans hS0.1, (hb2.block _ (lt_heap hS0.2.1)).trans hS0.2.1, (hb2.block _ (lt_heap hS0.2.2)).trans hS0.2.2⟩) (fun hS2c => ?_)
      clear hK K
      refine wpAnyH_ready (rs := [3, 9]) (by kernel_rfl) (by simp) ?_
      refine AllReadyH.cons rfl (fun K hK => ?_) (AllReadyH.cons rfl (fun K hK => ?_) AllReadyH.nil)
      · skip
        go_simp
        go_wp2_with (go_at_call 18; refine (Co.vto_any _ _ _ _).mono ?_; rintro e y3 ⟨rfl, hb3⟩)
        have hr3_0 := (hb3.block _ (lt_heap hr2_0)).trans hr2_0
        have hr3_1 := (hb3.block _ (lt_heap hr2_1)).trans hr2_1
        have hr3_2 := (hb3.block _ (lt_heap hr2_2)).trans hr2_2
        have HU3 := Lib.hid (HU2.out.trans (hb3.mono HU2.out.size))
        refine hK.out _ _ (⟨(hb3.block _ (lt_heap hS2c.1)).trans hS2c.1, (hb3.block _ (lt_heap hS2c.2.1)).trans hS2c.2.1, (hb3.block _ (lt_heap hS2c.2.2)).trans hS2c.2.2⟩) (fun hS3c => ?_)
        clear hK K
        refine wpAnyH_ready (rs := [5, 9]) (by kernel_rfl) (by simp) ?_
        refine AllReadyH.cons rfl (fun K hK => ?_) (AllReadyH.cons rfl (fun K hK => ?_) AllReadyH.nil)
        · skip
          go_simp
          go_wp2_with (go_at_call 18; refine (Co.vto_any _ _ _ _).mono ?_; rintro e y4 ⟨rfl, hb4⟩)
          have hr4_0 := (hb4.block _ (lt_heap hr3_0)).trans hr3_0
          have hr4_1 := (hb4.block _ (lt_heap hr3_1)).trans hr3_1
          have hr4_2 := (hb4.block _ (lt_heap hr3_2)).trans hr3_2
          have HU4 := Lib.hid (HU3.out.trans (hb4.mono HU3.out.size))
          refine hK.out _ _ (⟨(hb4.block _ (lt_heap hS3c.1)).trans hS3c.1, (hb4.block _ (lt_heap hS3c.2.1)).trans hS3c.2.1, (hb4.block _ (lt_heap hS3c.2.2)).trans hS3c.2.2⟩) (fun hS4c => ?_)
          clear hK K
          refine wpAnyH_ready (rs := [8, 9]) (by kernel_rfl) (by simp) ?_
          refine AllReadyH.cons rfl (fun K hK => ?_) (AllReadyH.cons rfl (fun K hK => ?_) AllReadyH.nil)
          · skip
            go_simp
            go_wp2_with (go_at_call 16; refine (hA _).mono ?_; rintro e y5 ⟨rfl, hb5⟩)
            have hr5_0 := (hb5.block _ (lt_heap hr4_0)).trans hr4_0
            have hr5_1 := (hb5.block _ (lt_heap hr4_1)).trans hr4_1
            have hr5_2 := (hb5.block _ (lt_heap hr4_2)).trans hr4_2
            have HU5 := Lib.hid (HU4.out.trans (hb5.mono HU4.out.size))
            refine hK.out _ _ (⟨(hb5.block _ (lt_heap hS4c.1)).trans hS4c.1, (hb5.block _ (lt_heap hS4c.2.1)).trans hS4c.2.1, (hb5.block _ (lt_heap hS4c.2.2)).trans hS4c.2.2⟩) (fun hS5c => ?_)
            clear hK K
            refine wpAnyH_ready (rs := [9]) (by kernel_rfl) (by simp) ?_
            refine AllReadyH.cons rfl (fun K hK => ?_) AllReadyH.nil
            go_simp
            have hb6 := below_n1 y5 (.cells #[.int .i64 0, .int .i64 0, .int .i64 0, .int .i64 0, .int .i64 0, .int .i64 0, .bool false, .bool false] 63)
            have hN := heap_alloc_last y5 (.cells #[.int .i64 0, .int .i64 0, .int .i64 0, .int .i64 0, .int .i64 0, .int .i64 0, .bool false, .bool false] 63)
            obtain ⟨y6, hy6⟩ : ∃ y, y5.alloc (.cells #[.int .i64 0, .int .i64 0, .int .i64 0, .int .i64 0, .int .i64 0, .int .i64 0, .bool false, .bool false] 63) = y := ⟨_, rfl⟩
            rw [hy6] at hb6 hN ⊢
            clear hy6
            have hl6_0 := lt_heap hr5_0
            have hr6_0 := (hb6.block _ (lt_heap hr5_0)).trans hr5_0
            have hl6_1 := lt_heap hr5_1
            have hr6_1 := (hb6.block _ (lt_heap hr5_1)).trans hr5_1
            have hl6_2 := lt_heap hr5_2
            have hr6_2 := (hb6.block _ (lt_heap hr5_2)).trans hr5_2
            have hr6_3 := hN
            clear hN
            have HU6 := Lib.hid (HU5.out.trans (hb6.mono HU5.out.size))
            refine hK.out _ _ (⟨(hb6.block _ (lt_heap hS5c.1)).trans hS5c.1, (hb6.block _ (lt_heap hS5c.2.1)).trans hS5c.2.1, (hb6.block _ (lt_heap hS5c.2.2)).trans hS5c.2.2⟩) (fun hS6a => ?_)
            clear hK K
            refine wpAnyH_ready (rs := [10]) (by kernel_rfl) (by simp) ?_
            refine AllReadyH.cons rfl (fun K hK => ?_) AllReadyH.nil
            refine step_store_row rfl 63 (.tmp 11) (.tmp 21) rfl #[.int .i64 0, .int .i64 0, .int .i64 0, .int .i64 0, .int .i64 0, .int .i64 0, .bool false, .bool false] #[.int .i64 x1, .int .i64 x2, .int .i64 x3, .int .i64 r, .int .i64 g, .int .i64 b, .bool false, .bool s] _ 63 hr6_3 rfl (by first | rfl | (go_simp; done) | (go_simp; rfl)) (by kernel_rfl) rfl (by simp [Value.oneCell']) ?_
            have hN := setRow_heap _ (y5.heap.size) _ #[.int .i64 x1, .int .i64 x2, .int .i64 x3, .int .i64 r, .int .i64 g, .int .i64 b, .bool false, .bool s] _ _ hr6_3
            have hsz := HU6.out.size
            have HUx := below_setRow (g := y5.heap.size) HU6.out (by first | omega | (simp at *; omega)) #[.int .i64 x1, .int .i64 x2, .int .i64 x3, .int .i64 r, .int .i64 g, .int .i64 b, .bool false, .bool s]
            obtain ⟨y7, hy7⟩ : ∃ y, y6.setRow (y5.heap.size) #[.int .i64 x1, .int .i64 x2, .int .i64 x3, .int .i64 r, .int .i64 g, .int .i64 b, .bool false, .bool s] = y := ⟨_, rfl⟩
            have hO : ∀ k, k ≠ y5.heap.size → y7.heap[k]? = y6.heap[k]? := fun k hk => by rw [← hy7]; exact setRow_other _ _ _ _ hk
            rw [hy7] at hN HUx ⊢
            clear hy7
            have HU7 := Lib.hid HUx
            clear HUx
            have hr7_0 := (hO _ (by omega)).trans hr6_0
            have hr7_1 := (hO _ (by omega)).trans hr6_1
            have hr7_2 := (hO _ (by omega)).trans hr6_2
            have hr7_3 := hN
            clear hN
            refine hK.out _ _ (⟨(hO _ (by omega)).trans hS6a.1, (hO _ (by omega)).trans hS6a.2.1, (hO _ (by omega)).trans hS6a.2.2⟩) (fun hS7s => ?_)
            clear hK K
            refine wpAnyH_done (by kernel_rfl) ?_ _
            go_wp2_with fail
            go_meet
            exact ⟨_, rfl, hr7_0, hr7_1, hr7_2, hr7_3, HU7⟩
          · skip
            go_simp
            have hb5 := below_n1 y4 (.cells #[.int .i64 0, .int .i64 0, .int .i64 0, .int .i64 0, .int .i64 0, .int .i64 0, .bool false, .bool false] 63)
            have hN := heap_alloc_last y4 (.cells #[.int .i64 0, .int .i64 0, .int .i64 0, .int .i64 0, .int .i64 0, .int .i64 0, .bool false, .bool false] 63)
            obtain ⟨y5, hy5⟩ : ∃ y, y4.alloc (.cells #[.int .i64 0, .int .i64 0, .int .i64 0, .int .i64 0, .int .i64 0, .int .i64 0, .bool false, .bool false] 63) = y := ⟨_, rfl⟩
            rw [hy5] at hb5 hN ⊢
            clear hy5
            have hl5_0 := lt_heap hr4_0
            have hr5_0 := (hb5.block _ (lt_heap hr4_0)).trans hr4_0
            have hl5_1 := lt_heap hr4_1
            have hr5_1 := (hb5.block _ (lt_heap hr4_1)).trans hr4_1
            have hl5_2 := lt_heap hr4_2
            have hr5_2 := (hb5.block _ (lt_heap hr4_2)).trans hr4_2
            have hr5_3 := hN
            clear hN
            have HU5 := Lib.hid (HU4.out.trans (hb5.mono HU4.out.size))
            refine hK.out _ _ (⟨(hb5.block _ (lt_heap hS4c.1)).trans hS4c.1, (hb5.block _ (lt_heap hS4c.2.1)).trans hS4c.2.1, (hb5.block _ (lt_heap hS4c.2.2)).trans hS4c.2.2⟩) (fun hS5a => ?_)
            clear hK K
            refine wpAnyH_ready (rs := [8]) (by kernel_rfl) (by simp) ?_
            refine AllReadyH.cons rfl (fun K hK => ?_) AllReadyH.nil
            go_simp
            go_wp2_with (go_at_call 16; refine (hA _).mono ?_; rintro e y6 ⟨rfl, hb6⟩)
            have hr6_0 := (hb6.block _ (lt_heap hr5_0)).trans hr5_0
            have hr6_1 := (hb6.block _ (lt_heap hr5_1)).trans hr5_1
            have hr6_2 := (hb6.block _ (lt_heap hr5_2)).trans hr5_2
            have hr6_3 := (hb6.block _ (lt_heap hr5_3)).trans hr5_3
            have HU6 := Lib.hid (HU5.out.trans (hb6.mono HU5.out.size))
            refine hK.out _ _ (⟨(hb6.block _ (lt_heap hS5a.1)).trans hS5a.1, (hb6.block _ (lt_heap hS5a.2.1)).trans hS5a.2.1, (hb6.block _ (lt_heap hS5a.2.2)).trans hS5a.2.2⟩) (fun hS6c => ?_)
            clear hK K
            refine wpAnyH_ready (rs := [10]) (by kernel_rfl) (by simp) ?_
            refine AllReadyH.cons rfl (fun K hK => ?_) AllReadyH.nil
            refine step_store_row rfl 63 (.tmp 11) (.tmp 21) rfl #[.int .i64 0, .int .i64 0, .int .i64 0, .int .i64 0, .int .i64 0, .int .i64 0, .bool false, .bool false] #[.int .i64 x1, .int .i64 x2, .int .i64 x3, .int .i64 r, .int .i64 g, .int .i64 b, .bool false, .bool s] _ 63 hr6_3 rfl (by first | rfl | (go_simp; done) | (go_simp; rfl)) (by kernel_rfl) rfl (by simp [Value.oneCell']) ?_
            have hN := setRow_heap _ (y4.heap.size) _ #[.int .i64 x1, .int .i64 x2, .int .i64 x3, .int .i64 r, .int .i64 g, .int .i64 b, .bool false, .bool s] _ _ hr6_3
            have hsz := HU6.out.size
            have HUx := below_setRow (g := y4.heap.size) HU6.out (by first | omega | (simp at *; omega)) #[.int .i64 x1, .int .i64 x2, .int .i64 x3, .int .i64 r, .int .i64 g, .int .i64 b, .bool false, .bool s]
            obtain ⟨y7, hy7⟩ : ∃ y, y6.setRow (y4.heap.size) #[.int .i64 x1, .int .i64 x2, .int .i64 x3, .int .i64 r, .int .i64 g, .int .i64 b, .bool false, .bool s] = y := ⟨_, rfl⟩
            have hO : ∀ k, k ≠ y4.heap.size → y7.heap[k]? = y6.heap[k]? := fun k hk => by rw [← hy7]; exact setRow_other _ _ _ _ hk
            rw [hy7] at hN HUx ⊢
            clear hy7
            have HU7 := Lib.hid HUx
            clear HUx
            have hr7_0 := (hO _ (by omega)).trans hr6_0
            have hr7_1 := (hO _ (by omega)).trans hr6_1
            have hr7_2 := (hO _ (by omega)).trans hr6_2
            have hr7_3 := hN
            clear hN
            refine hK.out _ _ (⟨(hO _ (by omega)).trans hS6c.1, (hO _ (by omega)).trans hS6c.2.1, (hO _ (by omega)).trans hS6c.2.2⟩) (fun hS7s => ?_)
            clear hK K
            refine wpAnyH_done (by kernel_rfl) ?_ _
            go_wp2_with fail
            go_meet
            exact ⟨_, rfl, hr7_0, hr7_1, hr7_2, hr7_3, HU7⟩
        · skip
          go_simp
          have hb4 := below_n1 y3 (.cells #[.int .i64 0, .int .i64 0, .int .i64 0, .int .i64 0, .int .i64 0, .int .i64 0, .bool false, .bool false] 63)
          have hN := heap_alloc_last y3 (.cells #[.int .i64 0, .int .i64 0, .int .i64 0, .int .i64 0, .int .i64 0, .int .i64 0, .bool false, .bool false] 63)
          obtain ⟨y4, hy4⟩ : ∃ y, y3.alloc (.cells #[.int .i64 0, .int .i64 0, .int .i64 0, .int .i64 0, .int .i64 0, .int .i64 0, .bool false, .bool false] 63) = y := ⟨_, rfl⟩
          rw [hy4] at hb4 hN ⊢
          clear hy4
          have hl4_0 := lt_heap hr3_0
          have hr4_0 := (hb4.block _ (lt_heap hr3_0)).trans hr3_0
          have hl4_1 := lt_heap hr3_1
          have hr4_1 := (hb4.block _ (lt_heap hr3_1)).trans hr3_1
          have hl4_2 := lt_heap hr3_2
          have hr4_2 := (hb4.block _ (lt_heap hr3_2)).trans hr3_2
          have hr4_3 := hN
          clear hN
          have HU4 := Lib.hid (HU3.out.trans (hb4.mono HU3.out.size))
          refine hK.out _ _ (⟨(hb4.block _ (lt_heap hS3c.1)).trans hS3c.1, (hb4.block _ (lt_heap hS3c.2.1)).trans hS3c.2.1, (hb4.block _ (lt_heap hS3c.2.2)).trans hS3c.2.2⟩) (fun hS4a => ?_)
          clear hK K
          refine wpAnyH_ready (rs := [5]) (by kernel_rfl) (by simp) ?_
          refine AllReadyH.cons rfl (fun K hK => ?_) AllReadyH.nil
          go_simp
          go_wp2_with (go_at_call 18; refine (Co.vto_any _ _ _ _).mono ?_; rintro e y5 ⟨rfl, hb5⟩)
          have hr5_0 := (hb5.block _ (lt_heap hr4_0)).trans hr4_0
          have hr5_1 := (hb5.block _ (lt_heap hr4_1)).trans hr4_1
          have hr5_2 := (hb5.block _ (lt_heap hr4_2)).trans hr4_2
          have hr5_3 := (hb5.block _ (lt_heap hr4_3)).trans hr4_3
          have HU5 := Lib.hid (HU4.out.trans (hb5.mono HU4.out.size))
          refine hK.out _ _ (⟨(hb5.block _ (lt_heap hS4a.1)).trans hS4a.1, (hb5.block _ (lt_heap hS4a.2.1)).trans hS4a.2.1, (hb5.block _ (lt_heap hS4a.2.2)).trans hS4a.2.2⟩) (fun hS5c => ?_)
          clear hK K
          refine wpAnyH_ready (rs := [8]) (by kernel_rfl) (by simp) ?_
          refine AllReadyH.cons rfl (fun K hK => ?_) AllReadyH.nil
          go_simp
          go_wp2_with (go_at_call 16; refine (hA _).mono ?_; rintro e y6 ⟨rfl, hb6⟩)
          have hr6_0 := (hb6.block _ (lt_heap hr5_0)).trans hr5_0
          have hr6_1 := (hb6.block _ (lt_heap hr5_1)).trans hr5_1
          have hr6_2 := (hb6.block _ (lt_heap hr5_2)).trans hr5_2
          have hr6_3 := (hb6.block _ (lt_heap hr5_3)).trans hr5_3
          have HU6 := Lib.hid (HU5.out.trans (hb6.mono HU5.out.size))
          refine hK.out _ _ (⟨(hb6.block _ (lt_heap hS5c.1)).trans hS5c.1, (hb6.block _ (lt_heap hS5c.2.1)).trans hS5c.2.1, (hb6.block _ (lt_heap hS5c.2.2)).trans hS5c.2.2⟩) (fun hS6c => ?_)
          clear hK K
          refine wpAnyH_ready (rs := [10]) (by kernel_rfl) (by simp) ?_
          refine AllReadyH.cons rfl (fun K hK => ?_) AllReadyH.nil
          refine step_store_row rfl 63 (.tmp 11) (.tmp 21) rfl #[.int .i64 0, .int .i64 0, .int .i64 0, .int .i64 0, .int .i64 0, .int .i64 0, .bool false, .bool false] #[.int .i64 x1, .int .i64 x2, .int .i64 x3, .int .i64 r, .int .i64 g, .int .i64 b, .bool false, .bool s] _ 63 hr6_3 rfl (by first | rfl | (go_simp; done) | (go_simp; rfl)) (by kernel_rfl) rfl (by simp [Value.oneCell']) ?_
          have hN := setRow_heap _ (y3.heap.size) _ #[.int .i64 x1, .int .i64 x2, .int .i64 x3, .int .i64 r, .int .i64 g, .int .i64 b, .bool false, .bool s] _ _ hr6_3
          have hsz := HU6.out.size
          have HUx := below_setRow (g := y3.heap.size) HU6.out (by first | omega | (simp at *; omega)) #[.int .i64 x1, .int .i64 x2, .int .i64 x3, .int .i64 r, .int .i64 g, .int .i64 b, .bool false, .bool s]
          obtain ⟨y7, hy7⟩ : ∃ y, y6.setRow (y3.heap.size) #[.int .i64 x1, .int .i64 x2, .int .i64 x3, .int .i64 r, .int .i64 g, .int .i64 b, .bool false, .bool s] = y := ⟨_, rfl⟩
          have hO : ∀ k, k ≠ y3.heap.size → y7.heap[k]? = y6.heap[k]? := fun k hk => by rw [← hy7]; exact setRow_other _ _ _ _ hk
          rw [hy7] at hN HUx ⊢
          clear hy7
          have HU7 := Lib.hid HUx
          clear HUx
          have hr7_0 := (hO _ (by omega)).trans hr6_0
          have hr7_1 := (hO _ (by omega)).trans hr6_1
          have hr7_2 := (hO _ (by omega)).trans hr6_2
          have hr7_3 := hN
          clear hN
          refine hK.out _ _ (⟨(hO _ (by omega)).trans hS6c.1, (hO _ (by omega)).trans hS6c.2.1, (hO _ (by omega)).trans hS6c.2.2⟩) (fun hS7s => ?_)
          clear hK K
          refine wpAnyH_done (by kernel_rfl) ?_ _
          go_wp2_with fail
          go_meet
          exact ⟨_, rfl, hr7_0, hr7_1, hr7_2, hr7_3, HU7⟩
      · skip
        go_simp
        have hb3 := below_n1 y2 (.cells #[.int .i64 0, .int .i64 0, .int .i64 0, .int .i64 0, .int .i64 0, .int .i64 0, .bool false, .bool false] 63)
        have hN := heap_alloc_last y2 (.cells #[.int .i64 0, .int .i64 0, .int .i64 0, .int .i64 0, .int .i64 0, .int .i64 0, .bool false, .bool false] 63)
        obtain ⟨y3, hy3⟩ : ∃ y, y2.alloc (.cells #[.int .i64 0, .int .i64 0, .int .i64 0, .int .i64 0, .int .i64 0, .int .i64 0, .bool false, .bool false] 63) = y := ⟨_, rfl⟩
        rw [hy3] at hb3 hN ⊢
        clear hy3
        have hl3_0 := lt_heap hr2_0
        have hr3_0 := (hb3.block _ (lt_heap hr2_0)).trans hr2_0
        have hl3_1 := lt_heap hr2_1
        have hr3_1 := (hb3.block _ (lt_heap hr2_1)).trans hr2_1
        have hl3_2 := lt_heap hr2_2
        have hr3_2 := (hb3.block _ (lt_heap hr2_2)).trans hr2_2
        have hr3_3 := hN
        clear hN
        have HU3 := Lib.hid (HU2.out.trans (hb3.mono HU2.out.size))
        refine hK.out _ _ (⟨(hb3.block _ (lt_heap hS2c.1)).trans hS2c.1, (hb3.block _ (lt_heap hS2c.2.1)).trans hS2c.2.1, (hb3.block _ (lt_heap hS2c.2.2)).trans hS2c.2.2⟩) (fun hS3a => ?_)
        clear hK K
        refine wpAnyH_ready (rs := [3]) (by kernel_rfl) (by simp) ?_
        refine AllReadyH.cons rfl (fun K hK => ?_) AllReadyH.nil
        go_simp
        go_wp2_with (go_at_call 18; refine (Co.vto_any _ _ _ _).mono ?_; rintro e y4 ⟨rfl, hb4⟩)
        have hr4_0 := (hb4.block _ (lt_heap hr3_0)).trans hr3_0
        have hr4_1 := (hb4.block _ (lt_heap hr3_1)).trans hr3_1
        have hr4_2 := (hb4.block _ (lt_heap hr3_2)).trans hr3_2
        have hr4_3 := (hb4.block _ (lt_heap hr3_3)).trans hr3_3
        have HU4 := Lib.hid (HU3.out.trans (hb4.mono HU3.out.size))
        refine hK.out _ _ (⟨(hb4.block _ (lt_heap hS3a.1)).trans hS3a.1, (hb4.block _ (lt_heap hS3a.2.1)).trans hS3a.2.1, (hb4.block _ (lt_heap hS3a.2.2)).trans hS3a.2.2⟩) (fun hS4c => ?_)
        clear hK K
        refine wpAnyH_ready (rs := [5]) (by kernel_rfl) (by simp) ?_
        refine AllReadyH.cons rfl (fun K hK => ?_) AllReadyH.nil
        go_simp
        go_wp2_with (go_at_call 18; refine (Co.vto_any _ _ _ _).mono ?_; rintro e y5 ⟨rfl, hb5⟩)
        have hr5_0 := (hb5.block _ (lt_heap hr4_0)).trans hr4_0
        have hr5_1 := (hb5.block _ (lt_heap hr4_1)).trans hr4_1
        have hr5_2 := (hb5.block _ (lt_heap hr4_2)).trans hr4_2
        have hr5_3 := (hb5.block _ (lt_heap hr4_3)).trans hr4_3
        have HU5 := Lib.hid (HU4.out.trans (hb5.mono HU4.out.size))
        refine hK.out _ _ (⟨(hb5.block _ (lt_heap hS4c.1)).trans hS4c.1, (hb5.block _ (lt_heap hS4c.2.1)).trans hS4c.2.1, (hb5.block _ (lt_heap hS4c.2.2)).trans hS4c.2.2⟩) (fun hS5c => ?_)
        clear hK K
        refine wpAnyH_ready (rs := [8]) (by kernel_rfl) (by simp) ?_
        refine AllReadyH.cons rfl (fun K hK => ?_) AllReadyH.nil
        go_simp
        go_wp2_with (go_at_call 16; refine (hA _).mono ?_; rintro e y6 ⟨rfl, hb6⟩)
        have hr6_0 := (hb6.block _ (lt_heap hr5_0)).trans hr5_0
        have hr6_1 := (hb6.block _ (lt_heap hr5_1)).trans hr5_1
        have hr6_2 := (hb6.block _ (lt_heap hr5_2)).trans hr5_2
        have hr6_3 := (hb6.block _ (lt_heap hr5_3)).trans hr5_3
        have HU6 := Lib.hid (HU5.out.trans (hb6.mono HU5.out.size))
        refine hK.out _ _ (⟨(hb6.block _ (lt_heap hS5c.1)).trans hS5c.1, (hb6.block _ (lt_heap hS5c.2.1)).trans hS5c.2.1, (hb6.block _ (lt_heap hS5c.2.2)).trans hS5c.2.2⟩) (fun hS6c => ?_)
        clear hK K
        refine wpAnyH_ready (rs := [10]) (by kernel_rfl) (by simp) ?_
        refine AllReadyH.cons rfl (fun K hK => ?_) AllReadyH.nil
        refine step_store_row rfl 63 (.tmp 11) (.tmp 21) rfl #[.int .i64 0, .int .i64 0, .int .i64 0, .int .i64 0, .int .i64 0, .int .i64 0, .bool false, .bool false] #[.int .i64 x1, .int .i64 x2, .int .i64 x3, .int .i64 r, .int .i64 g, .int .i64 b, .bool false, .bool s] _ 63 hr6_3 rfl (by first | rfl | (go_simp; done) | (go_simp; rfl)) (by kernel_rfl) rfl (by simp [Value.oneCell']) ?_
        have hN := setRow_heap _ (y2.heap.size) _ #[.int .i64 x1, .int .i64 x2, .int .i64 x3, .int .i64 r, .int .i64 g, .int .i64 b, .bool false, .bool s] _ _ hr6_3
        have hsz := HU6.out.size
        have HUx := below_setRow (g := y2.heap.size) HU6.out (by first | omega | (simp at *; omega)) #[.int .i64 x1, .int .i64 x2, .int .i64 x3, .int .i64 r, .int .i64 g, .int .i64 b, .bool false, .bool s]
        obtain ⟨y7, hy7⟩ : ∃ y, y6.setRow (y2.heap.size) #[.int .i64 x1, .int .i64 x2, .int .i64 x3, .int .i64 r, .int .i64 g, .int .i64 b, .bool false, .bool s] = y := ⟨_, rfl⟩
        have hO : ∀ k, k ≠ y2.heap.size → y7.heap[k]? = y6.heap[k]? := fun k hk => by rw [← hy7]; exact setRow_other _ _ _ _ hk
        rw [hy7] at hN HUx ⊢
        clear hy7
        have HU7 := Lib.hid HUx
        clear HUx
        have hr7_0 := (hO _ (by omega)).trans hr6_0
        have hr7_1 := (hO _ (by omega)).trans hr6_1
        have hr7_2 := (hO _ (by omega)).trans hr6_2
        have hr7_3 := hN
        clear hN
        refine hK.out _ _ (⟨(hO _ (by omega)).trans hS6c.1, (hO _ (by omega)).trans hS6c.2.1, (hO _ (by omega)).trans hS6c.2.2⟩) (fun hS7s => ?_)
        clear hK K
        refine wpAnyH_done (by kernel_rfl) ?_ _
        go_wp2_with fail
        go_meet
        exact ⟨_, rfl, hr7_0, hr7_1, hr7_2, hr7_3, HU7⟩
    · skip
      go_simp
      have hb2 := below_n1 y1 (.cells #[.int .i64 0, .int .i64 0, .int .i64 0, .int .i64 0, .int .i64 0, .int .i64 0, .bool false, .bool false] 63)
      have hN := heap_alloc_last y1 (.cells #[.int .i64 0, .int .i64 0, .int .i64 0, .int .i64 0, .int .i64 0, .int .i64 0, .bool false, .bool false] 63)
      obtain ⟨y2, hy2⟩ : ∃ y, y1.alloc (.cells #[.int .i64 0, .int .i64 0, .int .i64 0, .int .i64 0, .int .i64 0, .int .i64 0, .bool false, .bool false] 63) = y := ⟨_, rfl⟩
      rw [hy2] at hb2 hN ⊢
      clear hy2
      have hl2_0 := lt_heap hr1_0
      have hr2_0 := (hb2.block _ (lt_heap hr1_0)).trans hr1_0
      have hl2_1 := lt_heap hr1_1
      have hr2_1 := (hb2.block _ (lt_heap hr1_1)).trans hr1_1
      have hl2_2 := lt_heap hr1_2
      have hr2_2 := (hb2.block _ (lt_heap hr1_2)).trans hr1_2
      have hr2_3 := hN
      clear hN
      have HU2 := Lib.hid (HU1.out.trans (hb2.mono HU1.out.size))
      refine hK.out _ _ (⟨(hb2.block _ (lt_heap hS0.1)).trans hS0.1, (hb2.block _ (lt_heap hS0.2.1)).trans hS0.2.1, (hb2.block _ (lt_heap hS0.2.2)).trans hS0.2.2⟩) (fun hS2a => ?_)
      clear hK K
      refine wpAnyH_ready (rs := [1]) (by kernel_rfl) (by simp) ?_
      refine AllReadyH.cons rfl (fun K hK => ?_) AllReadyH.nil
      go_simp
      go_wp2_with (go_at_call 17; refine (paint_any _ _ _ _ _ _).mono ?_; rintro e y3 ⟨rfl, hb3⟩)
      have hr3_0 := (hb3.block _ (lt_heap hr2_0)).trans hr2_0
      have hr3_1 := (hb3.block _ (lt_heap hr2_1)).trans hr2_1
      have hr3_2 := (hb3.block _ (lt_heap hr2_2)).trans hr2_2
      have hr3_3 := (hb3.block _ (lt_heap hr2_3)).trans hr2_3
      have HU3 := Lib.hid (HU2.out.trans (hb3.mono HU2.out.size))
      refine hK.out _ _ (⟨(hb3.block _ (lt_heap hS2a.1)).trans hS2a.1, (hb3.block _ (lt_heap hS2a.2.1)).trans hS2a.2.1, (hb3.block _ (lt_heap hS2a.2.2)).trans hS2a.2.2⟩) (fun hS3c => ?_)
      clear hK K
      refine wpAnyH_ready (rs := [3]) (by kernel_rfl) (by simp) ?_
      refine AllReadyH.cons rfl (fun K hK => ?_) AllReadyH.nil
      go_simp
      go_wp2_with (go_at_call 18; refine (Co.vto_any _ _ _ _).mono ?_; rintro e y4 ⟨rfl, hb4⟩)
      have hr4_0 := (hb4.block _ (lt_heap hr3_0)).trans hr3_0
      have hr4_1 := (hb4.block _ (lt_heap hr3_1)).trans hr3_1
      have hr4_2 := (hb4.block _ (lt_heap hr3_2)).trans hr3_2
      have hr4_3 := (hb4.block _ (lt_heap hr3_3)).trans hr3_3
      have HU4 := Lib.hid (HU3.out.trans (hb4.mono HU3.out.size))
      refine hK.out _ _ (⟨(hb4.block _ (lt_heap hS3c.1)).trans hS3c.1, (hb4.block _ (lt_heap hS3c.2.1)).trans hS3c.2.1, (hb4.block _ (lt_heap hS3c.2.2)).trans hS3c.2.2⟩) (fun hS4c => ?_)
      clear hK K
      refine wpAnyH_ready (rs := [5]) (by kernel_rfl) (by simp) ?_
      refine AllReadyH.cons rfl (fun K hK => ?_) AllReadyH.nil
      go_simp
      go_wp2_with (go_at_call 18; refine (Co.vto_any _ _ _ _).mono ?_; rintro e y5 ⟨rfl, hb5⟩)
      have hr5_0 := (hb5.block _ (lt_heap hr4_0)).trans hr4_0
      have hr5_1 := (hb5.block _ (lt_heap hr4_1)).trans hr4_1
      have hr5_2 := (hb5.block _ (lt_heap hr4_2)).trans hr4_2
      have hr5_3 := (hb5.block _ (lt_heap hr4_3)).trans hr4_3
      have HU5 := Lib.hid (HU4.out.trans (hb5.mono HU4.out.size))
      refine hK.out _ _ (⟨(hb5.block _ (lt_heap hS4c.1)).trans hS4c.1, (hb5.block _ (lt_heap hS4c.2.1)).trans hS4c.2.1, (hb5.block _ (lt_heap hS4c.2.2)).trans hS4c.2.2⟩) (fun hS5c => ?_)
      clear hK K
      refine wpAnyH_ready (rs := [8]) (by kernel_rfl) (by simp) ?_
      refine AllReadyH.cons rfl (fun K hK => ?_) AllReadyH.nil
      go_simp
      go_wp2_with (go_at_call 16; refine (hA _).mono ?_; rintro e y6 ⟨rfl, hb6⟩)
      have hr6_0 := (hb6.block _ (lt_heap hr5_0)).trans hr5_0
      have hr6_1 := (hb6.block _ (lt_heap hr5_1)).trans hr5_1
      have hr6_2 := (hb6.block _ (lt_heap hr5_2)).trans hr5_2
      have hr6_3 := (hb6.block _ (lt_heap hr5_3)).trans hr5_3
      have HU6 := Lib.hid (HU5.out.trans (hb6.mono HU5.out.size))
      refine hK.out _ _ (⟨(hb6.block _ (lt_heap hS5c.1)).trans hS5c.1, (hb6.block _ (lt_heap hS5c.2.1)).trans hS5c.2.1, (hb6.block _ (lt_heap hS5c.2.2)).trans hS5c.2.2⟩) (fun hS6c => ?_)
      clear hK K
      refine wpAnyH_ready (rs := [10]) (by kernel_rfl) (by simp) ?_
      refine AllReadyH.cons rfl (fun K hK => ?_) AllReadyH.nil
      refine step_store_row rfl 63 (.tmp 11) (.tmp 21) rfl #[.int .i64 0, .int .i64 0, .int .i64 0, .int .i64 0, .int .i64 0, .int .i64 0, .bool false, .bool false] #[.int .i64 x1, .int .i64 x2, .int .i64 x3, .int .i64 r, .int .i64 g, .int .i64 b, .bool false, .bool s] _ 63 hr6_3 rfl (by first | rfl | (go_simp; done) | (go_simp; rfl)) (by kernel_rfl) rfl (by simp [Value.oneCell']) ?_
      have hN := setRow_heap _ (y1.heap.size) _ #[.int .i64 x1, .int .i64 x2, .int .i64 x3, .int .i64 r, .int .i64 g, .int .i64 b, .bool false, .bool s] _ _ hr6_3
      have hsz := HU6.out.size
      have HUx := below_setRow (g := y1.heap.size) HU6.out (by first | omega | (simp at *; omega)) #[.int .i64 x1, .int .i64 x2, .int .i64 x3, .int .i64 r, .int .i64 g, .int .i64 b, .bool false, .bool s]
      obtain ⟨y7, hy7⟩ : ∃ y, y6.setRow (y1.heap.size) #[.int .i64 x1, .int .i64 x2, .int .i64 x3, .int .i64 r, .int .i64 g, .int .i64 b, .bool false, .bool s] = y := ⟨_, rfl⟩
      have hO : ∀ k, k ≠ y1.heap.size → y7.heap[k]? = y6.heap[k]? := fun k hk => by rw [← hy7]; exact setRow_other _ _ _ _ hk
      rw [hy7] at hN HUx ⊢
      clear hy7
      have HU7 := Lib.hid HUx
      clear HUx
      have hr7_0 := (hO _ (by omega)).trans hr6_0
      have hr7_1 := (hO _ (by omega)).trans hr6_1
      have hr7_2 := (hO _ (by omega)).trans hr6_2
      have hr7_3 := hN
      clear hN
      refine hK.out _ _ (⟨(hO _ (by omega)).trans hS6c.1, (hO _ (by omega)).trans hS6c.2.1, (hO _ (by omega)).trans hS6c.2.2⟩) (fun hS7s => ?_)
      clear hK K
      refine wpAnyH_done (by kernel_rfl) ?_ _
      go_wp2_with fail
      go_meet
      exact ⟨_, rfl, hr7_0, hr7_1, hr7_2, hr7_3, HU7⟩
  case rest =>
    obtain ⟨q, rfl, hr9_0, hr9_1, hr9_2, hr9_3, HU9⟩ := hcut
    rename World => y9
    have c0_0 := cell_of_row _ _ 0 _ _ _ hr9_0
    have c0_1 := cell_of_row _ _ 1 _ _ _ hr9_0
    have c0_2 := cell_of_row _ _ 2 _ _ _ hr9_0
    have c0_3 := cell_of_row _ _ 3 _ _ _ hr9_0
    have c0_4 := cell_of_row _ _ 4 _ _ _ hr9_0
    have c1_0 := cell_of_row _ _ 0 _ _ _ hr9_1
    have c1_1 := cell_of_row _ _ 1 _ _ _ hr9_1
    have c1_2 := cell_of_row _ _ 2 _ _ _ hr9_1
    have c2_0 := cell_of_row _ _ 0 _ _ _ hr9_2
    have c2_1 := cell_of_row _ _ 1 _ _ _ hr9_2
    have c2_2 := cell_of_row _ _ 2 _ _ _ hr9_2
    simp at c0_0 c0_1 c0_2 c0_3 c0_4 c1_0 c1_1 c1_2 c2_0 c2_1 c2_2
    go_wp2_with fail
    refine (hB _).mono ?_
    rintro e y10 ⟨rfl, hb10⟩
    clear c0_0 c0_1 c0_2 c0_3 c0_4 c1_0 c1_1 c1_2 c2_0 c2_1 c2_2
    have hr10_0 := (hb10.block _ (lt_heap hr9_0)).trans hr9_0
    have hr10_1 := (hb10.block _ (lt_heap hr9_1)).trans hr9_1
    have hr10_2 := (hb10.block _ (lt_heap hr9_2)).trans hr9_2
    have hr10_3 := (hb10.block _ (lt_heap hr9_3)).trans hr9_3
    have HU10 := Lib.hid (HU9.out.trans (hb10.mono HU9.out.size))
    clear hr9_0 hr9_1 hr9_2 hr9_3 HU9
    have c0_0 := cell_of_row _ _ 0 _ _ _ hr10_0
    have c0_1 := cell_of_row _ _ 1 _ _ _ hr10_0
    have c0_2 := cell_of_row _ _ 2 _ _ _ hr10_0
    have c0_3 := cell_of_row _ _ 3 _ _ _ hr10_0
    have c0_4 := cell_of_row _ _ 4 _ _ _ hr10_0
    have c1_0 := cell_of_row _ _ 0 _ _ _ hr10_1
    have c1_1 := cell_of_row _ _ 1 _ _ _ hr10_1
    have c1_2 := cell_of_row _ _ 2 _ _ _ hr10_1
    have c2_0 := cell_of_row _ _ 0 _ _ _ hr10_2
    have c2_1 := cell_of_row _ _ 1 _ _ _ hr10_2
    have c2_2 := cell_of_row _ _ 2 _ _ _ hr10_2
    have c3_0 := cell_of_row _ _ 0 _ _ _ hr10_3
    have c3_1 := cell_of_row _ _ 1 _ _ _ hr10_3
    have c3_2 := cell_of_row _ _ 2 _ _ _ hr10_3
    have c3_3 := cell_of_row _ _ 3 _ _ _ hr10_3
    have c3_4 := cell_of_row _ _ 4 _ _ _ hr10_3
    have c3_5 := cell_of_row _ _ 5 _ _ _ hr10_3
    have c3_6 := cell_of_row _ _ 6 _ _ _ hr10_3
    have c3_7 := cell_of_row _ _ 7 _ _ _ hr10_3
    simp at c0_0 c0_1 c0_2 c0_3 c0_4 c1_0 c1_1 c1_2 c2_0 c2_1 c2_2 c3_0 c3_1 c3_2 c3_3 c3_4 c3_5 c3_6 c3_7
    have HA := Lib.hid (heap_alloc_last y10 (.cells #[.int .i64 0, .int .i64 0, .int .i64 0, .int .i64 0, .int .i64 0, .int .i64 0, .bool false, .bool false] 70))
    have hHi := Lib.hid (show (Try.prog.info? 70).map (·.size) = some (#[.int .i64 x1, .int .i64 x2, .int .i64 x3, .int .i64 r, .int .i64 g, .int .i64 b, .bool false, .bool s] : Array Value).size by kernel_rfl)
    have hHz := Lib.hid (show (#[.int .i64 0, .int .i64 0, .int .i64 0, .int .i64 0, .int .i64 0, .int .i64 0, .bool false, .bool false] : Array Value).size = (#[.int .i64 x1, .int .i64 x2, .int .i64 x3, .int .i64 r, .int .i64 g, .int .i64 b, .bool false, .bool s] : Array Value).size from rfl)
    have hHo := Lib.hid (show (#[.int .i64 x1, .int .i64 x2, .int .i64 x3, .int .i64 r, .int .i64 g, .int .i64 b, .bool false, .bool s] : Array Value).all (·.oneCell') = true by simp [Value.oneCell'])
    go_upto_region 3 with (refine Au.wpList_store_row rfl 70 (.tmp 12) (.tmp 27) rfl (y10.alloc (.cells #[.int .i64 0, .int .i64 0, .int .i64 0, .int .i64 0, .int .i64 0, .int .i64 0, .bool false, .bool false] 70)) #[.int .i64 0, .int .i64 0, .int .i64 0, .int .i64 0, .int .i64 0, .int .i64 0, .bool false, .bool false] #[.int .i64 x1, .int .i64 x2, .int .i64 x3, .int .i64 r, .int .i64 g, .int .i64 b, .bool false, .bool s] (y10.heap.size) 70 HA.out rfl rfl hHi.out hHz.out hHo.out ?_)
    clear c0_0 c0_1 c0_2 c0_3 c0_4 c1_0 c1_1 c1_2 c2_0 c2_1 c2_2 c3_0 c3_1 c3_2 c3_3 c3_4 c3_5 c3_6 c3_7
    clear hHi hHz hHo
    have hN := setRow_heap _ (y10.heap.size) _ #[.int .i64 x1, .int .i64 x2, .int .i64 x3, .int .i64 r, .int .i64 g, .int .i64 b, .bool false, .bool s] _ _ HA.out
    clear HA
    have hsz := HU10.out.size
    have hb := below_n1 y10 (.cells #[.int .i64 0, .int .i64 0, .int .i64 0, .int .i64 0, .int .i64 0, .int .i64 0, .bool false, .bool false] 70)
    have HUx := below_setRow (g := y10.heap.size) (HU10.out.trans (hb.mono HU10.out.size)) (by omega) #[.int .i64 x1, .int .i64 x2, .int .i64 x3, .int .i64 r, .int .i64 g, .int .i64 b, .bool false, .bool s]
    have hO : ∀ kk, kk < y10.heap.size → ((y10.alloc (.cells #[.int .i64 0, .int .i64 0, .int .i64 0, .int .i64 0, .int .i64 0, .int .i64 0, .bool false, .bool false] 70)).setRow (y10.heap.size) #[.int .i64 x1, .int .i64 x2, .int .i64 x3, .int .i64 r, .int .i64 g, .int .i64 b, .bool false, .bool s]).heap[kk]? = y10.heap[kk]? := fun kk hk => (setRow_other _ _ _ _ (by omega)).trans (hb.block _ hk)
    obtain ⟨y11, hy11⟩ : ∃ y, (y10.alloc (.cells #[.int .i64 0, .int .i64 0, .int .i64 0, .int .i64 0, .int .i64 0, .int .i64 0, .bool false, .bool false] 70)).setRow (y10.heap.size) #[.int .i64 x1, .int .i64 x2, .int .i64 x3, .int .i64 r, .int .i64 g, .int .i64 b, .bool false, .bool s] = y := ⟨_, rfl⟩
    have hs11 : y11.heap.size = y10.heap.size + 1 := by rw [← hy11]; simp [World.setRow]
    rw [hy11] at hN HUx hO ⊢
    clear hy11 hsz hb
    have HU11 := Lib.hid HUx
    clear HUx
    have hl11_0 := lt_heap hr10_0
    have hr11_0 := (hO _ hl11_0).trans hr10_0
    have hl11_1 := lt_heap hr10_1
    have hr11_1 := (hO _ hl11_1).trans hr10_1
    have hl11_2 := lt_heap hr10_2
    have hr11_2 := (hO _ hl11_2).trans hr10_2
    have hl11_3 := lt_heap hr10_3
    have hr11_3 := (hO _ hl11_3).trans hr10_3
    have hr11_4 := hN
    clear hN hO
    clear hr10_0 hr10_1 hr10_2 hr10_3 HU10
    refine wp_region_held_drew (S := fun y => y.heap[w.heap.size + 1 + 1]? = some (.cells #[.int .i64 n1, .int .i64 n2, .int .i64 n3] 47 (0, 0)) ∧ y.heap[q]? = some (.cells #[.int .i64 x1, .int .i64 x2, .int .i64 x3, .int .i64 r, .int .i64 g, .int .i64 b, .bool false, .bool s] 63 (0, 0)) ∧ y.heap[y10.heap.size]? = some (.cells #[.int .i64 x1, .int .i64 x2, .int .i64 x3, .int .i64 r, .int .i64 g, .int .i64 b, .bool false, .bool s] 70 (0, 0))) (by kernel_rfl) (⟨hr11_2, hr11_3, hr11_4⟩) (fun hS0 => ?_)
    obtain ⟨y12, hy12⟩ : ∃ y, y11.drew = y := ⟨_, rfl⟩
    have HU12 := Lib.hid (show Below w.heap.size w y12 by rw [← hy12]; exact HU11.out.drew)
    have hr12_0 : y12.heap[w.heap.size]? = some (.cells #[.int .i64 k, .int .i64 c1, .int .i64 c2, .int .i64 c3, .int .i64 ro] 59 (0, 0)) := by rw [← hy12]; exact hr11_0
    have hr12_1 : y12.heap[w.heap.size + 1]? = some (.cells #[.int .i64 d1_, .int .i64 d2_, .int .i64 d3_] 47 (0, 0)) := by rw [← hy12]; exact hr11_1
    have hr12_2 : y12.heap[w.heap.size + 1 + 1]? = some (.cells #[.int .i64 n1, .int .i64 n2, .int .i64 n3] 47 (0, 0)) := by rw [← hy12]; exact hr11_2
    have hr12_3 : y12.heap[q]? = some (.cells #[.int .i64 x1, .int .i64 x2, .int .i64 x3, .int .i64 r, .int .i64 g, .int .i64 b, .bool false, .bool s] 63 (0, 0)) := by rw [← hy12]; exact hr11_3
    have hr12_4 : y12.heap[y10.heap.size]? = some (.cells #[.int .i64 x1, .int .i64 x2, .int .i64 x3, .int .i64 r, .int .i64 g, .int .i64 b, .bool false, .bool s] 70 (0, 0)) := by rw [← hy12]; exact hr11_4
    rw [hy12] at hS0 ⊢
    clear hy12
    refine wpAnyH_ready (rs := [0]) (by kernel_rfl) (by simp) ?_
    refine AllReadyH.cons rfl (fun K hK => ?_) AllReadyH.nil
    go_simp
    go_wp2_with (go_at_call 20; refine (awake_any _).mono ?_; rintro e y13 ⟨rfl, hb13⟩)
    have hr13_0 := (hb13.block _ (lt_heap hr12_0)).trans hr12_0
    have hr13_1 := (hb13.block _ (lt_heap hr12_1)).trans hr12_1
    have hr13_2 := (hb13.block _ (lt_heap hr12_2)).trans hr12_2
    have hr13_3 := (hb13.block _ (lt_heap hr12_3)).trans hr12_3
    have hr13_4 := (hb13.block _ (lt_heap hr12_4)).trans hr12_4
    have HU13 := Lib.hid (HU12.out.trans (hb13.mono HU12.out.size))
    refine hK.out _ _ (⟨(hb13.block _ (lt_heap hS0.1)).trans hS0.1, (hb13.block _ (lt_heap hS0.2.1)).trans hS0.2.1, (hb13.block _ (lt_heap hS0.2.2)).trans hS0.2.2⟩) (fun hS13c => ?_)
    clear hK K
    refine wpAnyH_take (i := 1) (v := ?_) rfl (by kernel_rfl) (by kernel_rfl) (by kernel_rfl) (fun _ _ _ h => h) (Or.inl ⟨by kernel_rfl, by (intro wz hSz; go_simp; try with_reducible rfl)⟩) hS13c ?_
    go_simp
    refine wpAnyH_take (i := 2) (v := ?_) rfl (by kernel_rfl) (by kernel_rfl) (by kernel_rfl) (fun _ _ _ h => h) (Or.inl ⟨by kernel_rfl, by (intro wz hSz; go_simp; try with_reducible rfl)⟩) hS13c ?_
    go_simp
    refine wpAnyH_take (i := 3) (v := ?_) rfl (by kernel_rfl) (by kernel_rfl) (by kernel_rfl) (fun _ _ _ h => h) (Or.inl ⟨by kernel_rfl, by (intro wz hSz; have c2_0 := cell_of_row _ _ 0 _ _ _ hSz.1; have c2_1 := cell_of_row _ _ 1 _ _ _ hSz.1; have c2_2 := cell_of_row _ _ 2 _ _ _ hSz.1; have c3_0 := cell_of_row _ _ 0 _ _ _ hSz.2.1; have c3_1 := cell_of_row _ _ 1 _ _ _ hSz.2.1; have c3_2 := cell_of_row _ _ 2 _ _ _ hSz.2.1; have c3_3 := cell_of_row _ _ 3 _ _ _ hSz.2.1; have c3_4 := cell_of_row _ _ 4 _ _ _ hSz.2.1; have c3_5 := cell_of_row _ _ 5 _ _ _ hSz.2.1; have c3_6 := cell_of_row _ _ 6 _ _ _ hSz.2.1; have c3_7 := cell_of_row _ _ 7 _ _ _ hSz.2.1; have c4_0 := cell_of_row _ _ 0 _ _ _ hSz.2.2; have c4_1 := cell_of_row _ _ 1 _ _ _ hSz.2.2; have c4_2 := cell_of_row _ _ 2 _ _ _ hSz.2.2; have c4_3 := cell_of_row _ _ 3 _ _ _ hSz.2.2; have c4_4 := cell_of_row _ _ 4 _ _ _ hSz.2.2; have c4_5 := cell_of_row _ _ 5 _ _ _ hSz.2.2; have c4_6 := cell_of_row _ _ 6 _ _ _ hSz.2.2; have c4_7 := cell_of_row _ _ 7 _ _ _ hSz.2.2; simp at c2_0 c2_1 c2_2 c3_0 c3_1 c3_2 c3_3 c3_4 c3_5 c3_6 c3_7 c4_0 c4_1 c4_2 c4_3 c4_4 c4_5 c4_6 c4_7; go_simp; try with_reducible rfl)⟩) hS13c ?_
    go_simp
    refine wpAnyH_take (i := 5) (v := ?_) rfl (by kernel_rfl) (by kernel_rfl) (by kernel_rfl) (fun _ _ _ h => h) (Or.inl ⟨by kernel_rfl, by (intro wz hSz; go_simp; try with_reducible rfl)⟩) hS13c ?_
    go_simp
    refine wpAnyH_take (i := 6) (v := ?_) rfl (by kernel_rfl) (by kernel_rfl) (by kernel_rfl) (fun _ _ _ h => h) (Or.inl ⟨by kernel_rfl, by (intro wz hSz; have c2_0 := cell_of_row _ _ 0 _ _ _ hSz.1; have c2_1 := cell_of_row _ _ 1 _ _ _ hSz.1; have c2_2 := cell_of_row _ _ 2 _ _ _ hSz.1; have c3_0 := cell_of_row _ _ 0 _ _ _ hSz.2.1; have c3_1 := cell_of_row _ _ 1 _ _ _ hSz.2.1; have c3_2 := cell_of_row _ _ 2 _ _ _ hSz.2.1; have c3_3 := cell_of_row _ _ 3 _ _ _ hSz.2.1; have c3_4 := cell_of_row _ _ 4 _ _ _ hSz.2.1; have c3_5 := cell_of_row _ _ 5 _ _ _ hSz.2.1; have c3_6 := cell_of_row _ _ 6 _ _ _ hSz.2.1; have c3_7 := cell_of_row _ _ 7 _ _ _ hSz.2.1; have c4_0 := cell_of_row _ _ 0 _ _ _ hSz.2.2; have c4_1 := cell_of_row _ _ 1 _ _ _ hSz.2.2; have c4_2 := cell_of_row _ _ 2 _ _ _ hSz.2.2; have c4_3 := cell_of_row _ _ 3 _ _ _ hSz.2.2; have c4_4 := cell_of_row _ _ 4 _ _ _ hSz.2.2; have c4_5 := cell_of_row _ _ 5 _ _ _ hSz.2.2; have c4_6 := cell_of_row _ _ 6 _ _ _ hSz.2.2; have c4_7 := cell_of_row _ _ 7 _ _ _ hSz.2.2; simp at c2_0 c2_1 c2_2 c3_0 c3_1 c3_2 c3_3 c3_4 c3_5 c3_6 c3_7 c4_0 c4_1 c4_2 c4_3 c4_4 c4_5 c4_6 c4_7; go_simp; try with_reducible rfl)⟩) hS13c ?_
    go_simp
    refine wpAnyH_ready (rs := [4]) (by kernel_rfl) (by simp) ?_
    refine AllReadyH.cons rfl (fun K hK => ?_) AllReadyH.nil
    go_simp
    go_wp2_with (go_at_call 21; refine (Co.vfrom_any _ _ _ _).mono ?_; rintro e y14 ⟨rfl, hb14⟩)
    have hr14_0 := (hb14.block _ (lt_heap hr13_0)).trans hr13_0
    have hr14_1 := (hb14.block _ (lt_heap hr13_1)).trans hr13_1
    have hr14_2 := (hb14.block _ (lt_heap hr13_2)).trans hr13_2
    have hr14_3 := (hb14.block _ (lt_heap hr13_3)).trans hr13_3
    have hr14_4 := (hb14.block _ (lt_heap hr13_4)).trans hr13_4
    have HU14 := Lib.hid (HU13.out.trans (hb14.mono HU13.out.size))
    refine hK.out _ _ (⟨(hb14.block _ (lt_heap hS13c.1)).trans hS13c.1, (hb14.block _ (lt_heap hS13c.2.1)).trans hS13c.2.1, (hb14.block _ (lt_heap hS13c.2.2)).trans hS13c.2.2⟩) (fun hS14c => ?_)
    clear hK K
    refine wpAnyH_take (i := 7) (v := ?_) rfl (by kernel_rfl) (by kernel_rfl) (by kernel_rfl) (fun _ _ _ h => h) (Or.inl ⟨by kernel_rfl, by (intro wz hSz; go_simp; try with_reducible rfl)⟩) hS14c ?_
    go_simp
    refine wpAnyH_take (i := 8) (v := ?_) rfl (by kernel_rfl) (by kernel_rfl) (by kernel_rfl) (fun _ _ _ h => h) (Or.inl ⟨by kernel_rfl, by (intro wz hSz; go_simp; try with_reducible rfl)⟩) hS14c ?_
    go_simp
    refine wpAnyH_take (i := 9) (v := ?_) rfl (by kernel_rfl) (by kernel_rfl) (by kernel_rfl) (fun _ _ _ h => h) (Or.inl ⟨by kernel_rfl, by (intro wz hSz; go_simp; try with_reducible rfl)⟩) hS14c ?_
    go_simp
    refine wpAnyH_take (i := 10) (v := ?_) rfl (by kernel_rfl) (by kernel_rfl) (by kernel_rfl) (fun _ _ _ h => h) (Or.inl ⟨by kernel_rfl, by (intro wz hSz; go_simp; try with_reducible rfl)⟩) hS14c ?_
    go_simp
    refine wpAnyH_take (i := 11) (v := ?_) rfl (by kernel_rfl) (by kernel_rfl) (by kernel_rfl) (fun _ _ _ h => h) (Or.inl ⟨by kernel_rfl, by (intro wz hSz; have c2_0 := cell_of_row _ _ 0 _ _ _ hSz.1; have c2_1 := cell_of_row _ _ 1 _ _ _ hSz.1; have c2_2 := cell_of_row _ _ 2 _ _ _ hSz.1; have c3_0 := cell_of_row _ _ 0 _ _ _ hSz.2.1; have c3_1 := cell_of_row _ _ 1 _ _ _ hSz.2.1; have c3_2 := cell_of_row _ _ 2 _ _ _ hSz.2.1; have c3_3 := cell_of_row _ _ 3 _ _ _ hSz.2.1; have c3_4 := cell_of_row _ _ 4 _ _ _ hSz.2.1; have c3_5 := cell_of_row _ _ 5 _ _ _ hSz.2.1; have c3_6 := cell_of_row _ _ 6 _ _ _ hSz.2.1; have c3_7 := cell_of_row _ _ 7 _ _ _ hSz.2.1; have c4_0 := cell_of_row _ _ 0 _ _ _ hSz.2.2; have c4_1 := cell_of_row _ _ 1 _ _ _ hSz.2.2; have c4_2 := cell_of_row _ _ 2 _ _ _ hSz.2.2; have c4_3 := cell_of_row _ _ 3 _ _ _ hSz.2.2; have c4_4 := cell_of_row _ _ 4 _ _ _ hSz.2.2; have c4_5 := cell_of_row _ _ 5 _ _ _ hSz.2.2; have c4_6 := cell_of_row _ _ 6 _ _ _ hSz.2.2; have c4_7 := cell_of_row _ _ 7 _ _ _ hSz.2.2; simp at c2_0 c2_1 c2_2 c3_0 c3_1 c3_2 c3_3 c3_4 c3_5 c3_6 c3_7 c4_0 c4_1 c4_2 c4_3 c4_4 c4_5 c4_6 c4_7; go_simp; try with_reducible rfl)⟩) hS14c ?_
    go_simp
    refine wpAnyH_take (i := 13) (v := ?_) rfl (by kernel_rfl) (by kernel_rfl) (by kernel_rfl) (fun _ _ _ h => h) (Or.inl ⟨by kernel_rfl, by (intro wz hSz; go_simp; try with_reducible rfl)⟩) hS14c ?_
    go_simp
    refine wpAnyH_take (i := 14) (v := ?_) rfl (by kernel_rfl) (by kernel_rfl) (by kernel_rfl) (fun _ _ _ h => h) (Or.inl ⟨by kernel_rfl, by (intro wz hSz; have c2_0 := cell_of_row _ _ 0 _ _ _ hSz.1; have c2_1 := cell_of_row _ _ 1 _ _ _ hSz.1; have c2_2 := cell_of_row _ _ 2 _ _ _ hSz.1; have c3_0 := cell_of_row _ _ 0 _ _ _ hSz.2.1; have c3_1 := cell_of_row _ _ 1 _ _ _ hSz.2.1; have c3_2 := cell_of_row _ _ 2 _ _ _ hSz.2.1; have c3_3 := cell_of_row _ _ 3 _ _ _ hSz.2.1; have c3_4 := cell_of_row _ _ 4 _ _ _ hSz.2.1; have c3_5 := cell_of_row _ _ 5 _ _ _ hSz.2.1; have c3_6 := cell_of_row _ _ 6 _ _ _ hSz.2.1; have c3_7 := cell_of_row _ _ 7 _ _ _ hSz.2.1; have c4_0 := cell_of_row _ _ 0 _ _ _ hSz.2.2; have c4_1 := cell_of_row _ _ 1 _ _ _ hSz.2.2; have c4_2 := cell_of_row _ _ 2 _ _ _ hSz.2.2; have c4_3 := cell_of_row _ _ 3 _ _ _ hSz.2.2; have c4_4 := cell_of_row _ _ 4 _ _ _ hSz.2.2; have c4_5 := cell_of_row _ _ 5 _ _ _ hSz.2.2; have c4_6 := cell_of_row _ _ 6 _ _ _ hSz.2.2; have c4_7 := cell_of_row _ _ 7 _ _ _ hSz.2.2; simp at c2_0 c2_1 c2_2 c3_0 c3_1 c3_2 c3_3 c3_4 c3_5 c3_6 c3_7 c4_0 c4_1 c4_2 c4_3 c4_4 c4_5 c4_6 c4_7; go_simp; try with_reducible rfl)⟩) hS14c ?_
    go_simp
    refine wpAnyH_ready (rs := [12]) (by kernel_rfl) (by simp) ?_
    refine AllReadyH.cons rfl (fun K hK => ?_) AllReadyH.nil
    go_simp
    go_wp2_with (go_at_call 22; refine (hfrom_any _ _ _ _).mono ?_; rintro e y15 ⟨rfl, hb15⟩)
    have hr15_0 := (hb15.block _ (lt_heap hr14_0)).trans hr14_0
    have hr15_1 := (hb15.block _ (lt_heap hr14_1)).trans hr14_1
    have hr15_2 := (hb15.block _ (lt_heap hr14_2)).trans hr14_2
    have hr15_3 := (hb15.block _ (lt_heap hr14_3)).trans hr14_3
    have hr15_4 := (hb15.block _ (lt_heap hr14_4)).trans hr14_4
    have HU15 := Lib.hid (HU14.out.trans (hb15.mono HU14.out.size))
    refine hK.out _ _ (⟨(hb15.block _ (lt_heap hS14c.1)).trans hS14c.1, (hb15.block _ (lt_heap hS14c.2.1)).trans hS14c.2.1, (hb15.block _ (lt_heap hS14c.2.2)).trans hS14c.2.2⟩) (fun hS15c => ?_)
    clear hK K
    refine wpAnyH_take (i := 15) (v := ?_) rfl (by kernel_rfl) (by kernel_rfl) (by kernel_rfl) (fun _ _ _ h => h) (Or.inl ⟨by kernel_rfl, by (intro wz hSz; go_simp; try with_reducible rfl)⟩) hS15c ?_
    go_simp
    refine wpAnyH_take (i := 16) (v := ?_) rfl (by kernel_rfl) (by kernel_rfl) (by kernel_rfl) (fun _ _ _ h => h) (Or.inl ⟨by kernel_rfl, by (intro wz hSz; go_simp; try with_reducible rfl)⟩) hS15c ?_
    go_simp
    refine wpAnyH_take (i := 17) (v := ?_) rfl (by kernel_rfl) (by kernel_rfl) (by kernel_rfl) (fun _ _ _ h => h) (Or.inl ⟨by kernel_rfl, by (intro wz hSz; go_simp; try with_reducible rfl)⟩) hS15c ?_
    go_simp
    refine wpAnyH_take (i := 18) (v := ?_) rfl (by kernel_rfl) (by kernel_rfl) (by kernel_rfl) (fun _ _ _ h => h) (Or.inl ⟨by kernel_rfl, by (intro wz hSz; go_simp; try with_reducible rfl)⟩) hS15c ?_
    go_simp
    refine wpAnyH_take (i := 19) (v := ?_) rfl (by kernel_rfl) (by kernel_rfl) (by kernel_rfl) (fun _ _ _ h => h) (Or.inl ⟨by kernel_rfl, by (intro wz hSz; have c2_0 := cell_of_row _ _ 0 _ _ _ hSz.1; have c2_1 := cell_of_row _ _ 1 _ _ _ hSz.1; have c2_2 := cell_of_row _ _ 2 _ _ _ hSz.1; have c3_0 := cell_of_row _ _ 0 _ _ _ hSz.2.1; have c3_1 := cell_of_row _ _ 1 _ _ _ hSz.2.1; have c3_2 := cell_of_row _ _ 2 _ _ _ hSz.2.1; have c3_3 := cell_of_row _ _ 3 _ _ _ hSz.2.1; have c3_4 := cell_of_row _ _ 4 _ _ _ hSz.2.1; have c3_5 := cell_of_row _ _ 5 _ _ _ hSz.2.1; have c3_6 := cell_of_row _ _ 6 _ _ _ hSz.2.1; have c3_7 := cell_of_row _ _ 7 _ _ _ hSz.2.1; have c4_0 := cell_of_row _ _ 0 _ _ _ hSz.2.2; have c4_1 := cell_of_row _ _ 1 _ _ _ hSz.2.2; have c4_2 := cell_of_row _ _ 2 _ _ _ hSz.2.2; have c4_3 := cell_of_row _ _ 3 _ _ _ hSz.2.2; have c4_4 := cell_of_row _ _ 4 _ _ _ hSz.2.2; have c4_5 := cell_of_row _ _ 5 _ _ _ hSz.2.2; have c4_6 := cell_of_row _ _ 6 _ _ _ hSz.2.2; have c4_7 := cell_of_row _ _ 7 _ _ _ hSz.2.2; simp at c2_0 c2_1 c2_2 c3_0 c3_1 c3_2 c3_3 c3_4 c3_5 c3_6 c3_7 c4_0 c4_1 c4_2 c4_3 c4_4 c4_5 c4_6 c4_7; go_simp; try with_reducible rfl)⟩) hS15c ?_
    go_simp
    refine wpAnyH_take (i := 20) (v := ?_) rfl (by kernel_rfl) (by kernel_rfl) (by kernel_rfl) (fun _ _ _ h => h) (Or.inl ⟨by kernel_rfl, by (intro wz hSz; go_simp; try with_reducible rfl)⟩) hS15c ?_
    go_simp
    refine wpAnyH_take (i := 21) (v := ?_) rfl (by kernel_rfl) (by kernel_rfl) (by kernel_rfl) (fun _ _ _ h => h) (Or.inl ⟨by kernel_rfl, by (intro wz hSz; have c2_0 := cell_of_row _ _ 0 _ _ _ hSz.1; have c2_1 := cell_of_row _ _ 1 _ _ _ hSz.1; have c2_2 := cell_of_row _ _ 2 _ _ _ hSz.1; have c3_0 := cell_of_row _ _ 0 _ _ _ hSz.2.1; have c3_1 := cell_of_row _ _ 1 _ _ _ hSz.2.1; have c3_2 := cell_of_row _ _ 2 _ _ _ hSz.2.1; have c3_3 := cell_of_row _ _ 3 _ _ _ hSz.2.1; have c3_4 := cell_of_row _ _ 4 _ _ _ hSz.2.1; have c3_5 := cell_of_row _ _ 5 _ _ _ hSz.2.1; have c3_6 := cell_of_row _ _ 6 _ _ _ hSz.2.1; have c3_7 := cell_of_row _ _ 7 _ _ _ hSz.2.1; have c4_0 := cell_of_row _ _ 0 _ _ _ hSz.2.2; have c4_1 := cell_of_row _ _ 1 _ _ _ hSz.2.2; have c4_2 := cell_of_row _ _ 2 _ _ _ hSz.2.2; have c4_3 := cell_of_row _ _ 3 _ _ _ hSz.2.2; have c4_4 := cell_of_row _ _ 4 _ _ _ hSz.2.2; have c4_5 := cell_of_row _ _ 5 _ _ _ hSz.2.2; have c4_6 := cell_of_row _ _ 6 _ _ _ hSz.2.2; have c4_7 := cell_of_row _ _ 7 _ _ _ hSz.2.2; simp at c2_0 c2_1 c2_2 c3_0 c3_1 c3_2 c3_3 c3_4 c3_5 c3_6 c3_7 c4_0 c4_1 c4_2 c4_3 c4_4 c4_5 c4_6 c4_7; go_simp; try with_reducible rfl)⟩) hS15c ?_
    go_simp
    refine wpAnyH_take (i := 22) (v := ?_) rfl (by kernel_rfl) (by kernel_rfl) (by kernel_rfl) (fun _ _ _ h => h) (Or.inl ⟨by kernel_rfl, by (intro wz hSz; go_simp; try with_reducible rfl)⟩) hS15c ?_
    go_simp
    refine wpAnyH_take (i := 23) (v := ?_) rfl (by kernel_rfl) (by kernel_rfl) (by kernel_rfl) (fun _ _ _ h => h) (Or.inl ⟨by kernel_rfl, by (intro wz hSz; go_simp; try with_reducible rfl)⟩) hS15c ?_
    go_simp
    refine wpAnyH_take (i := 24) (v := ?_) rfl (by kernel_rfl) (by kernel_rfl) (by kernel_rfl) (fun _ _ _ h => h) (Or.inl ⟨by kernel_rfl, by (intro wz hSz; go_simp; try with_reducible rfl)⟩) hS15c ?_
    go_simp
    refine wpAnyH_take (i := 25) (v := ?_) rfl (by kernel_rfl) (by kernel_rfl) (by kernel_rfl) (fun _ _ _ h => h) (Or.inl ⟨by kernel_rfl, by (intro wz hSz; go_simp; try with_reducible rfl)⟩) hS15c ?_
    go_simp
    refine wpAnyH_take (i := 26) (v := ?_) rfl (by kernel_rfl) (by kernel_rfl) (by kernel_rfl) (fun _ _ _ h => h) (Or.inl ⟨by kernel_rfl, by (intro wz hSz; have c2_0 := cell_of_row _ _ 0 _ _ _ hSz.1; have c2_1 := cell_of_row _ _ 1 _ _ _ hSz.1; have c2_2 := cell_of_row _ _ 2 _ _ _ hSz.1; have c3_0 := cell_of_row _ _ 0 _ _ _ hSz.2.1; have c3_1 := cell_of_row _ _ 1 _ _ _ hSz.2.1; have c3_2 := cell_of_row _ _ 2 _ _ _ hSz.2.1; have c3_3 := cell_of_row _ _ 3 _ _ _ hSz.2.1; have c3_4 := cell_of_row _ _ 4 _ _ _ hSz.2.1; have c3_5 := cell_of_row _ _ 5 _ _ _ hSz.2.1; have c3_6 := cell_of_row _ _ 6 _ _ _ hSz.2.1; have c3_7 := cell_of_row _ _ 7 _ _ _ hSz.2.1; have c4_0 := cell_of_row _ _ 0 _ _ _ hSz.2.2; have c4_1 := cell_of_row _ _ 1 _ _ _ hSz.2.2; have c4_2 := cell_of_row _ _ 2 _ _ _ hSz.2.2; have c4_3 := cell_of_row _ _ 3 _ _ _ hSz.2.2; have c4_4 := cell_of_row _ _ 4 _ _ _ hSz.2.2; have c4_5 := cell_of_row _ _ 5 _ _ _ hSz.2.2; have c4_6 := cell_of_row _ _ 6 _ _ _ hSz.2.2; have c4_7 := cell_of_row _ _ 7 _ _ _ hSz.2.2; simp at c2_0 c2_1 c2_2 c3_0 c3_1 c3_2 c3_3 c3_4 c3_5 c3_6 c3_7 c4_0 c4_1 c4_2 c4_3 c4_4 c4_5 c4_6 c4_7; go_simp; try with_reducible rfl)⟩) hS15c ?_
    go_simp
    refine wpAnyH_take (i := 27) (v := ?_) rfl (by kernel_rfl) (by kernel_rfl) (by kernel_rfl) (fun _ _ _ h => h) (Or.inl ⟨by kernel_rfl, by (intro wz hSz; go_simp; try with_reducible rfl)⟩) hS15c ?_
    go_simp
    refine wpAnyH_take (i := 28) (v := ?_) rfl (by kernel_rfl) (by kernel_rfl) (by kernel_rfl) (fun _ _ _ h => h) (Or.inl ⟨by kernel_rfl, by (intro wz hSz; have c2_0 := cell_of_row _ _ 0 _ _ _ hSz.1; have c2_1 := cell_of_row _ _ 1 _ _ _ hSz.1; have c2_2 := cell_of_row _ _ 2 _ _ _ hSz.1; have c3_0 := cell_of_row _ _ 0 _ _ _ hSz.2.1; have c3_1 := cell_of_row _ _ 1 _ _ _ hSz.2.1; have c3_2 := cell_of_row _ _ 2 _ _ _ hSz.2.1; have c3_3 := cell_of_row _ _ 3 _ _ _ hSz.2.1; have c3_4 := cell_of_row _ _ 4 _ _ _ hSz.2.1; have c3_5 := cell_of_row _ _ 5 _ _ _ hSz.2.1; have c3_6 := cell_of_row _ _ 6 _ _ _ hSz.2.1; have c3_7 := cell_of_row _ _ 7 _ _ _ hSz.2.1; have c4_0 := cell_of_row _ _ 0 _ _ _ hSz.2.2; have c4_1 := cell_of_row _ _ 1 _ _ _ hSz.2.2; have c4_2 := cell_of_row _ _ 2 _ _ _ hSz.2.2; have c4_3 := cell_of_row _ _ 3 _ _ _ hSz.2.2; have c4_4 := cell_of_row _ _ 4 _ _ _ hSz.2.2; have c4_5 := cell_of_row _ _ 5 _ _ _ hSz.2.2; have c4_6 := cell_of_row _ _ 6 _ _ _ hSz.2.2; have c4_7 := cell_of_row _ _ 7 _ _ _ hSz.2.2; simp at c2_0 c2_1 c2_2 c3_0 c3_1 c3_2 c3_3 c3_4 c3_5 c3_6 c3_7 c4_0 c4_1 c4_2 c4_3 c4_4 c4_5 c4_6 c4_7; go_simp; try with_reducible rfl)⟩) hS15c ?_
    go_simp
    refine wpAnyH_take (i := 29) (v := ?_) rfl (by kernel_rfl) (by kernel_rfl) (by kernel_rfl) (fun _ _ _ h => h) (Or.inl ⟨by kernel_rfl, by (intro wz hSz; go_simp; try with_reducible rfl)⟩) hS15c ?_
    go_simp
    refine wpAnyH_take (i := 30) (v := ?_) rfl (by kernel_rfl) (by kernel_rfl) (by kernel_rfl) (fun _ _ _ h => h) (Or.inl ⟨by kernel_rfl, by (intro wz hSz; go_simp; try with_reducible rfl)⟩) hS15c ?_
    go_simp
    refine wpAnyH_take (i := 31) (v := ?_) rfl (by kernel_rfl) (by kernel_rfl) (by kernel_rfl) (fun _ _ _ h => h) (Or.inl ⟨by kernel_rfl, by (intro wz hSz; go_simp; try with_reducible rfl)⟩) hS15c ?_
    go_simp
    refine wpAnyH_take (i := 32) (v := ?_) rfl (by kernel_rfl) (by kernel_rfl) (by kernel_rfl) (fun _ _ _ h => h) (Or.inl ⟨by kernel_rfl, by (intro wz hSz; go_simp; try with_reducible rfl)⟩) hS15c ?_
    go_simp
    refine wpAnyH_take (i := 33) (v := ?_) rfl (by kernel_rfl) (by kernel_rfl) (by kernel_rfl) (fun _ _ _ h => h) (Or.inl ⟨by kernel_rfl, by (intro wz hSz; have c2_0 := cell_of_row _ _ 0 _ _ _ hSz.1; have c2_1 := cell_of_row _ _ 1 _ _ _ hSz.1; have c2_2 := cell_of_row _ _ 2 _ _ _ hSz.1; have c3_0 := cell_of_row _ _ 0 _ _ _ hSz.2.1; have c3_1 := cell_of_row _ _ 1 _ _ _ hSz.2.1; have c3_2 := cell_of_row _ _ 2 _ _ _ hSz.2.1; have c3_3 := cell_of_row _ _ 3 _ _ _ hSz.2.1; have c3_4 := cell_of_row _ _ 4 _ _ _ hSz.2.1; have c3_5 := cell_of_row _ _ 5 _ _ _ hSz.2.1; have c3_6 := cell_of_row _ _ 6 _ _ _ hSz.2.1; have c3_7 := cell_of_row _ _ 7 _ _ _ hSz.2.1; have c4_0 := cell_of_row _ _ 0 _ _ _ hSz.2.2; have c4_1 := cell_of_row _ _ 1 _ _ _ hSz.2.2; have c4_2 := cell_of_row _ _ 2 _ _ _ hSz.2.2; have c4_3 := cell_of_row _ _ 3 _ _ _ hSz.2.2; have c4_4 := cell_of_row _ _ 4 _ _ _ hSz.2.2; have c4_5 := cell_of_row _ _ 5 _ _ _ hSz.2.2; have c4_6 := cell_of_row _ _ 6 _ _ _ hSz.2.2; have c4_7 := cell_of_row _ _ 7 _ _ _ hSz.2.2; simp at c2_0 c2_1 c2_2 c3_0 c3_1 c3_2 c3_3 c3_4 c3_5 c3_6 c3_7 c4_0 c4_1 c4_2 c4_3 c4_4 c4_5 c4_6 c4_7; go_simp; try with_reducible rfl)⟩) hS15c ?_
    go_simp
    refine wpAnyH_take (i := 34) (v := ?_) rfl (by kernel_rfl) (by kernel_rfl) (by kernel_rfl) (fun _ _ _ h => h) (Or.inl ⟨by kernel_rfl, by (intro wz hSz; go_simp; try with_reducible rfl)⟩) hS15c ?_
    go_simp
    refine wpAnyH_take (i := 35) (v := ?_) rfl (by kernel_rfl) (by kernel_rfl) (by kernel_rfl) (fun _ _ _ h => h) (Or.inl ⟨by kernel_rfl, by (intro wz hSz; go_simp; try with_reducible rfl)⟩) hS15c ?_
    go_simp
    refine wpAnyH_take (i := 36) (v := undef) rfl (by kernel_rfl) (by kernel_rfl) (by kernel_rfl) (fun _ _ _ h => h) (Or.inr ⟨by kernel_rfl, rfl⟩) hS15c ?_
    go_simp
    refine wpAnyH_take (i := 37) (v := undef) rfl (by kernel_rfl) (by kernel_rfl) (by kernel_rfl) (fun _ _ _ h => h) (Or.inr ⟨by kernel_rfl, rfl⟩) hS15c ?_
    go_simp
    refine wpAnyH_take (i := 38) (v := undef) rfl (by kernel_rfl) (by kernel_rfl) (by kernel_rfl) (fun _ _ _ h => h) (Or.inr ⟨by kernel_rfl, rfl⟩) hS15c ?_
    go_simp
    refine wpAnyH_take (i := 39) (v := undef) rfl (by kernel_rfl) (by kernel_rfl) (by kernel_rfl) (fun _ _ _ h => h) (Or.inr ⟨by kernel_rfl, rfl⟩) hS15c ?_
    go_simp
    refine wpAnyH_take (i := 40) (v := undef) rfl (by kernel_rfl) (by kernel_rfl) (by kernel_rfl) (fun _ _ _ h => h) (Or.inr ⟨by kernel_rfl, rfl⟩) hS15c ?_
    go_simp
    refine wpAnyH_take (i := 41) (v := undef) rfl (by kernel_rfl) (by kernel_rfl) (by kernel_rfl) (fun _ _ _ h => h) (Or.inr ⟨by kernel_rfl, rfl⟩) hS15c ?_
    go_simp
    refine wpAnyH_take (i := 42) (v := ?_) rfl (by kernel_rfl) (by kernel_rfl) (by kernel_rfl) (fun _ _ _ h => h) (Or.inl ⟨by kernel_rfl, by (intro wz hSz; go_simp; try with_reducible rfl)⟩) hS15c ?_
    go_simp
    refine wpAnyH_take (i := 43) (v := ?_) rfl (by kernel_rfl) (by kernel_rfl) (by kernel_rfl) (fun _ _ _ h => h) (Or.inl ⟨by kernel_rfl, by (intro wz hSz; go_simp; try with_reducible rfl)⟩) hS15c ?_
    go_simp
    refine wpAnyH_take (i := 44) (v := ?_) rfl (by kernel_rfl) (by kernel_rfl) (by kernel_rfl) (fun _ _ _ h => h) (Or.inl ⟨by kernel_rfl, by (intro wz hSz; go_simp; try with_reducible rfl)⟩) hS15c ?_
    go_simp
    refine wpAnyH_done (by kernel_rfl) ?_ _
    go_wp2
    go_ret
    exact ⟨rfl, HU15.out⟩

theorem walk (k c1 c2 c3 ro d1_ d2_ d3_ n1 n2 n3 u v : Int) (w : World) : Calls Try.prog 5 #[.agg #[.int .i64 k, .int .i64 c1, .int .i64 c2, .int .i64 c3, .int .i64 ro], .agg #[.int .i64 d1_, .int .i64 d2_, .int .i64 d3_], .agg #[.int .i64 n1, .int .i64 n2, .int .i64 n3], .int .i64 u, .int .i64 v] w fun e' w' => e' = .returned (.bool true) ∧ Below w.heap.size w w' := by
  by_cases h0 : k = 0
  · subst h0
    obtain ⟨x1, x2, x3, hD, hE⟩ : ∃ x1 x2 x3 : Int, (∀ W : World, Calls Try.prog 31 #[.agg #[.int .i64 n1, .int .i64 n2, .int .i64 n3], .int .i64 u, .int .i64 v] W fun e' w' => e' = .returned (.agg #[.int .i64 x1, .int .i64 x2, .int .i64 x3]) ∧ Below W.heap.size W w') ∧ (∀ W : World, Calls Try.prog 36 #[.agg #[.int .i64 n1, .int .i64 n2, .int .i64 n3], .int .i64 u, .int .i64 v] W fun e' w' => e' = .returned (.agg #[.int .i64 x1, .int .i64 x2, .int .i64 x3]) ∧ Below W.heap.size W w') := ⟨_, _, _, fun W => dome_any u v n1 n2 n3 W, fun W => rdome_any u v n1 n2 n3 W⟩
    obtain ⟨z, hT, hS⟩ : ∃ z : Int, (∀ W : World, Calls Try.prog 23 #[.agg #[.int .i64 x1, .int .i64 x2, .int .i64 x3], .agg #[.int .i64 n1, .int .i64 n2, .int .i64 n3]] W fun e' w' => e' = .returned (.int .i64 z) ∧ Below W.heap.size W w') ∧ (∀ W : World, Calls Try.prog 41 #[.agg #[.int .i64 x1, .int .i64 x2, .int .i64 x3], .agg #[.int .i64 n1, .int .i64 n2, .int .i64 n3]] W fun e' w' => e' = .returned (.int .i64 z) ∧ Below W.heap.size W w') := ⟨_, fun W => dot_any x1 x2 x3 n1 n2 n3 W, fun W => rdot_any x1 x2 x3 n1 n2 n3 W⟩
    by_cases hz : z ≤ 0
    · exact core_stays 0 c1 c2 c3 ro d1_ d2_ d3_ n1 n2 n3 u v 0 0 0 0 0 0 0 false (fun W => bounce0_neg c1 c2 c3 ro d1_ d2_ d3_ n1 n2 n3 u v x1 x2 x3 z hD hT hz W) (fun W => rbounce0_neg c1 c2 c3 ro d1_ d2_ d3_ n1 n2 n3 u v x1 x2 x3 z hE hS hz W) w
    · exact core_goes 0 c1 c2 c3 ro d1_ d2_ d3_ n1 n2 n3 u v x1 x2 x3 c1 c2 c3 z false (fun W => bounce0_pos c1 c2 c3 ro d1_ d2_ d3_ n1 n2 n3 u v x1 x2 x3 z hD hT hz W) (fun W => rbounce0_pos c1 c2 c3 ro d1_ d2_ d3_ n1 n2 n3 u v x1 x2 x3 z hE hS hz W) hT (by omega) w
  by_cases h1 : k = 1
  · subst h1
    obtain ⟨m1, m2, m3, hM, hN⟩ : ∃ m1 m2 m3 : Int, (∀ W : World, Calls Try.prog 33 #[.agg #[.int .i64 d1_, .int .i64 d2_, .int .i64 d3_], .agg #[.int .i64 n1, .int .i64 n2, .int .i64 n3]] W fun e' w' => e' = .returned (.agg #[.int .i64 m1, .int .i64 m2, .int .i64 m3]) ∧ Below W.heap.size W w') ∧ (∀ W : World, Calls Try.prog 38 #[.agg #[.int .i64 d1_, .int .i64 d2_, .int .i64 d3_], .agg #[.int .i64 n1, .int .i64 n2, .int .i64 n3]] W fun e' w' => e' = .returned (.agg #[.int .i64 m1, .int .i64 m2, .int .i64 m3]) ∧ Below W.heap.size W w') := ⟨_, _, _, fun W => mirrored_any d1_ d2_ d3_ n1 n2 n3 W, fun W => rmirrored_any d1_ d2_ d3_ n1 n2 n3 W⟩
    obtain ⟨x1, x2, x3, hV, hU⟩ : ∃ x1 x2 x3 : Int, (∀ W : World, Calls Try.prog 32 #[.agg #[.int .i64 m1, .int .i64 m2, .int .i64 m3]] W fun e' w' => e' = .returned (.agg #[.int .i64 x1, .int .i64 x2, .int .i64 x3]) ∧ Below W.heap.size W w') ∧ (∀ W : World, Calls Try.prog 37 #[.agg #[.int .i64 m1, .int .i64 m2, .int .i64 m3]] W fun e' w' => e' = .returned (.agg #[.int .i64 x1, .int .i64 x2, .int .i64 x3]) ∧ Below W.heap.size W w') := ⟨_, _, _, fun W => vunit_any m1 m2 m3 W, fun W => runit_any m1 m2 m3 W⟩
    obtain ⟨z, hT, hS⟩ : ∃ z : Int, (∀ W : World, Calls Try.prog 23 #[.agg #[.int .i64 x1, .int .i64 x2, .int .i64 x3], .agg #[.int .i64 n1, .int .i64 n2, .int .i64 n3]] W fun e' w' => e' = .returned (.int .i64 z) ∧ Below W.heap.size W w') ∧ (∀ W : World, Calls Try.prog 41 #[.agg #[.int .i64 x1, .int .i64 x2, .int .i64 x3], .agg #[.int .i64 n1, .int .i64 n2, .int .i64 n3]] W fun e' w' => e' = .returned (.int .i64 z) ∧ Below W.heap.size W w') := ⟨_, fun W => dot_any x1 x2 x3 n1 n2 n3 W, fun W => rdot_any x1 x2 x3 n1 n2 n3 W⟩
    by_cases hz : z ≤ 0
    · exact core_stays 1 c1 c2 c3 ro d1_ d2_ d3_ n1 n2 n3 u v 0 0 0 0 0 0 0 false (fun W => bounce1_neg c1 c2 c3 ro d1_ d2_ d3_ n1 n2 n3 u v x1 x2 x3 m1 m2 m3 z hM hV hT hz W) (fun W => rbounce1_neg c1 c2 c3 ro d1_ d2_ d3_ n1 n2 n3 u v x1 x2 x3 m1 m2 m3 z hN hU hS hz W) w
    · exact core_goes 1 c1 c2 c3 ro d1_ d2_ d3_ n1 n2 n3 u v x1 x2 x3 c1 c2 c3 z true (fun W => bounce1_pos c1 c2 c3 ro d1_ d2_ d3_ n1 n2 n3 u v x1 x2 x3 m1 m2 m3 z hM hV hT hz W) (fun W => rbounce1_pos c1 c2 c3 ro d1_ d2_ d3_ n1 n2 n3 u v x1 x2 x3 m1 m2 m3 z hN hU hS hz W) hT (by omega) w
  by_cases h2 : k = 2
  · subst h2
    obtain ⟨m1, m2, m3, hM, hN⟩ : ∃ m1 m2 m3 : Int, (∀ W : World, Calls Try.prog 33 #[.agg #[.int .i64 d1_, .int .i64 d2_, .int .i64 d3_], .agg #[.int .i64 n1, .int .i64 n2, .int .i64 n3]] W fun e' w' => e' = .returned (.agg #[.int .i64 m1, .int .i64 m2, .int .i64 m3]) ∧ Below W.heap.size W w') ∧ (∀ W : World, Calls Try.prog 38 #[.agg #[.int .i64 d1_, .int .i64 d2_, .int .i64 d3_], .agg #[.int .i64 n1, .int .i64 n2, .int .i64 n3]] W fun e' w' => e' = .returned (.agg #[.int .i64 m1, .int .i64 m2, .int .i64 m3]) ∧ Below W.heap.size W w') := ⟨_, _, _, fun W => mirrored_any d1_ d2_ d3_ n1 n2 n3 W, fun W => rmirrored_any d1_ d2_ d3_ n1 n2 n3 W⟩
    obtain ⟨e1, e2, e3, hD, hE⟩ : ∃ e1 e2 e3 : Int, (∀ W : World, Calls Try.prog 31 #[.agg #[.int .i64 n1, .int .i64 n2, .int .i64 n3], .int .i64 u, .int .i64 v] W fun e' w' => e' = .returned (.agg #[.int .i64 e1, .int .i64 e2, .int .i64 e3]) ∧ Below W.heap.size W w') ∧ (∀ W : World, Calls Try.prog 36 #[.agg #[.int .i64 n1, .int .i64 n2, .int .i64 n3], .int .i64 u, .int .i64 v] W fun e' w' => e' = .returned (.agg #[.int .i64 e1, .int .i64 e2, .int .i64 e3]) ∧ Below W.heap.size W w') := ⟨_, _, _, fun W => dome_any u v n1 n2 n3 W, fun W => rdome_any u v n1 n2 n3 W⟩
    obtain ⟨p1, p2, p3, hC, hG⟩ : ∃ p1 p2 p3 : Int, (∀ W : World, Calls Try.prog 34 #[.agg #[.int .i64 e1, .int .i64 e2, .int .i64 e3], .int .i64 ro] W fun e' w' => e' = .returned (.agg #[.int .i64 p1, .int .i64 p2, .int .i64 p3]) ∧ Below W.heap.size W w') ∧ (∀ W : World, Calls Try.prog 40 #[.agg #[.int .i64 e1, .int .i64 e2, .int .i64 e3], .int .i64 ro] W fun e' w' => e' = .returned (.agg #[.int .i64 p1, .int .i64 p2, .int .i64 p3]) ∧ Below W.heap.size W w') := ⟨_, _, _, fun W => scale_any e1 e2 e3 ro W, fun W => rscale_any e1 e2 e3 ro W⟩
    obtain ⟨s1, s2, s3, hP, hQ⟩ : ∃ s1 s2 s3 : Int, (∀ W : World, Calls Try.prog 35 #[.agg #[.int .i64 m1, .int .i64 m2, .int .i64 m3], .agg #[.int .i64 p1, .int .i64 p2, .int .i64 p3]] W fun e' w' => e' = .returned (.agg #[.int .i64 s1, .int .i64 s2, .int .i64 s3]) ∧ Below W.heap.size W w') ∧ (∀ W : World, Calls Try.prog 39 #[.agg #[.int .i64 m1, .int .i64 m2, .int .i64 m3], .agg #[.int .i64 p1, .int .i64 p2, .int .i64 p3]] W fun e' w' => e' = .returned (.agg #[.int .i64 s1, .int .i64 s2, .int .i64 s3]) ∧ Below W.heap.size W w') := ⟨_, _, _, fun W => vadd_any m1 m2 m3 p1 p2 p3 W, fun W => radd_any m1 m2 m3 p1 p2 p3 W⟩
    obtain ⟨x1, x2, x3, hV, hU⟩ : ∃ x1 x2 x3 : Int, (∀ W : World, Calls Try.prog 32 #[.agg #[.int .i64 s1, .int .i64 s2, .int .i64 s3]] W fun e' w' => e' = .returned (.agg #[.int .i64 x1, .int .i64 x2, .int .i64 x3]) ∧ Below W.heap.size W w') ∧ (∀ W : World, Calls Try.prog 37 #[.agg #[.int .i64 s1, .int .i64 s2, .int .i64 s3]] W fun e' w' => e' = .returned (.agg #[.int .i64 x1, .int .i64 x2, .int .i64 x3]) ∧ Below W.heap.size W w') := ⟨_, _, _, fun W => vunit_any s1 s2 s3 W, fun W => runit_any s1 s2 s3 W⟩
    obtain ⟨z, hT, hS⟩ : ∃ z : Int, (∀ W : World, Calls Try.prog 23 #[.agg #[.int .i64 x1, .int .i64 x2, .int .i64 x3], .agg #[.int .i64 n1, .int .i64 n2, .int .i64 n3]] W fun e' w' => e' = .returned (.int .i64 z) ∧ Below W.heap.size W w') ∧ (∀ W : World, Calls Try.prog 41 #[.agg #[.int .i64 x1, .int .i64 x2, .int .i64 x3], .agg #[.int .i64 n1, .int .i64 n2, .int .i64 n3]] W fun e' w' => e' = .returned (.int .i64 z) ∧ Below W.heap.size W w') := ⟨_, fun W => dot_any x1 x2 x3 n1 n2 n3 W, fun W => rdot_any x1 x2 x3 n1 n2 n3 W⟩
    by_cases hz : z ≤ 0
    · exact core_stays 2 c1 c2 c3 ro d1_ d2_ d3_ n1 n2 n3 u v 0 0 0 0 0 0 0 false (fun W => bounce2_neg c1 c2 c3 ro d1_ d2_ d3_ n1 n2 n3 u v x1 x2 x3 m1 m2 m3 s1 s2 s3 e1 e2 e3 p1 p2 p3 z hD hM hC hP hV hT hz W) (fun W => rbounce2_neg c1 c2 c3 ro d1_ d2_ d3_ n1 n2 n3 u v x1 x2 x3 m1 m2 m3 s1 s2 s3 e1 e2 e3 p1 p2 p3 z hE hN hG hQ hU hS hz W) w
    · exact core_goes 2 c1 c2 c3 ro d1_ d2_ d3_ n1 n2 n3 u v x1 x2 x3 c1 c2 c3 z true (fun W => bounce2_pos c1 c2 c3 ro d1_ d2_ d3_ n1 n2 n3 u v x1 x2 x3 m1 m2 m3 s1 s2 s3 e1 e2 e3 p1 p2 p3 z hD hM hC hP hV hT hz W) (fun W => rbounce2_pos c1 c2 c3 ro d1_ d2_ d3_ n1 n2 n3 u v x1 x2 x3 m1 m2 m3 s1 s2 s3 e1 e2 e3 p1 p2 p3 z hE hN hG hQ hU hS hz W) hT (by omega) w
  · exact core_stays k c1 c2 c3 ro d1_ d2_ d3_ n1 n2 n3 u v 0 0 0 0 0 0 0 false (fun W => bounce_other c1 c2 c3 ro d1_ d2_ d3_ n1 n2 n3 u v k h0 h1 h2 W) (fun W => rbounce_other c1 c2 c3 ro d1_ d2_ d3_ n1 n2 n3 u v k h0 h1 h2 W) w

end Go.Proofs.Ytplcbdmiccpnnaa.coatBouncesW
