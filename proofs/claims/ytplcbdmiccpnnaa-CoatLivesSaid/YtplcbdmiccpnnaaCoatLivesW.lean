/- The walk of CoatLives: the law returns true, whatever light and number come in; nothing that was there is written. -/
import Derived.Test.YtplcbdmiccpnnaaCoc
import Derived.Test.YtplcbdmiccpnnaaCod
import Derived.Test.YtplcbdmiccpnnaaVg
namespace Go.Proofs.Ytplcbdmiccpnnaa.coatLivesW
open Go.Proofs.Ytplcbdmiccpnnaa.Co Go.RowKit Go.Proofs.Ytplcbdmiccpnnaa Go.Proofs.Ytplcbdmiccpnnaa.Wa Go.Proofs.Ytplcbdmiccpnnaa.Ve Go.Proofs.Ytplcbdmiccpnnaa.Au
set_option linter.unusedVariables false
set_option linter.unusedSimpArgs false

theorem eq_hue (x y z : Int) (W : World) : (Op.equalIn 10000 57 (.agg #[.int .i64 x, .int .i64 y, .int .i64 z]) (.agg #[.int .i64 x, .int .i64 y, .int .i64 z])).run Try.prog W = .ok true W := by
  obtain ⟨i0, hi, hz0, hz1, hz2⟩ := info_parts infoInt
  rw [run_equalIn_array W 9999 _ _ Try.underlying57 hi, cellsInt]
  simp only [show List.range 3 = [0, 1, 2] from rfl, Op.eqItems, Sem.run_bind]
  simp [go_sem]

set_option maxHeartbeats 4000000 in
set_option maxRecDepth 100000 in
theorem core_ok_f (r g b u lx ly lz : Int) (h1 : ¬ 65536 ≤ r) (hA : ∀ W : World, Calls Try.prog 24 #[.agg #[.int .i64 r, .int .i64 g, .int .i64 b], .int .i64 u] W fun e' w' => e' = .returned (.tuple #[.agg #[.int .i64 lx, .int .i64 ly, .int .i64 lz], .bool true]) ∧ Below W.heap.size W w') (hB : ∀ W : World, Calls Try.prog 26 #[.agg #[.int .i64 r, .int .i64 g, .int .i64 b], .int .i64 u] W fun e' w' => e' = .returned (.tuple #[.agg #[.int .i64 lx, .int .i64 ly, .int .i64 lz], .bool true]) ∧ Below W.heap.size W w') (w : World)  : Calls Try.prog 6 #[.agg #[.int .i64 r, .int .i64 g, .int .i64 b], .int .i64 u] w fun e' w' => e' = .returned (.bool true) ∧ Below w.heap.size w w' := by
  have heq := eq_hue
  have d1 := decide_eq_false h1
  go_enter Try.func6, Try.ntmps6
  go_upto_region 1 with fail
  have hR := Au.rows1 w (.cells #[.int .i64 r, .int .i64 g, .int .i64 b] 57)
  have HUx := below_n1 w (.cells #[.int .i64 r, .int .i64 g, .int .i64 b] 57)
  obtain ⟨y0, hy0⟩ : ∃ y0, w.alloc (.cells #[.int .i64 r, .int .i64 g, .int .i64 b] 57) = y0 := ⟨_, rfl⟩
  rw [hy0] at hR HUx ⊢
  clear hy0
  have HU0 := Lib.hid HUx
  clear HUx
  have hr0_0 := hR
  clear hR
  have c0_0 := cell_of_row _ _ 0 _ _ _ hr0_0
  have c0_1 := cell_of_row _ _ 1 _ _ _ hr0_0
  have c0_2 := cell_of_row _ _ 2 _ _ _ hr0_0
  simp at c0_0 c0_1 c0_2
  go_wp2_with fail
  refine (hto_any _ _ _ _).mono ?_
  rintro e y1 ⟨rfl, hb1⟩
  clear c0_0 c0_1 c0_2
  have hr1_0 := (hb1.block _ (lt_heap hr0_0)).trans hr0_0
  have HU1 := Lib.hid (HU0.out.trans (hb1.mono HU0.out.size))
  clear hr0_0 HU0
  go_wp2_with fail
  refine (hA _).mono ?_
  rintro e y2 ⟨rfl, hb2⟩
  have hr2_0 := (hb2.block _ (lt_heap hr1_0)).trans hr1_0
  have HU2 := Lib.hid (HU1.out.trans (hb2.mono HU1.out.size))
  clear hr1_0 HU1
  have c0_0 := cell_of_row _ _ 0 _ _ _ hr2_0
  have c0_1 := cell_of_row _ _ 1 _ _ _ hr2_0
  have c0_2 := cell_of_row _ _ 2 _ _ _ hr2_0
  simp at c0_0 c0_1 c0_2
  have HA := Lib.hid (heap_alloc_last y2 (.cells #[.int .i64 0, .int .i64 0, .int .i64 0] 61))
  have hHi := Lib.hid (show (Try.prog.info? 61).map (·.size) = some (#[.int .i64 lx, .int .i64 ly, .int .i64 lz] : Array Value).size by kernel_rfl)
  have hHz := Lib.hid (show (#[.int .i64 0, .int .i64 0, .int .i64 0] : Array Value).size = (#[.int .i64 lx, .int .i64 ly, .int .i64 lz] : Array Value).size from rfl)
  have hHo := Lib.hid (show (#[.int .i64 lx, .int .i64 ly, .int .i64 lz] : Array Value).all (·.oneCell') = true by simp [Value.oneCell'])
  go_upto_region 2 with (refine Au.wpList_store_row rfl 61 (.tmp 5) (.tmp 15) rfl (y2.alloc (.cells #[.int .i64 0, .int .i64 0, .int .i64 0] 61)) #[.int .i64 0, .int .i64 0, .int .i64 0] #[.int .i64 lx, .int .i64 ly, .int .i64 lz] (y2.heap.size) 61 HA.out rfl rfl hHi.out hHz.out hHo.out ?_)
  clear c0_0 c0_1 c0_2
  clear hHi hHz hHo
  have hN := setRow_heap _ (y2.heap.size) _ #[.int .i64 lx, .int .i64 ly, .int .i64 lz] _ _ HA.out
  clear HA
  have hsz := HU2.out.size
  have hb := below_n1 y2 (.cells #[.int .i64 0, .int .i64 0, .int .i64 0] 61)
  have HUx := below_setRow (g := y2.heap.size) (HU2.out.trans (hb.mono HU2.out.size)) (by omega) #[.int .i64 lx, .int .i64 ly, .int .i64 lz]
  have hO : ∀ kk, kk < y2.heap.size → ((y2.alloc (.cells #[.int .i64 0, .int .i64 0, .int .i64 0] 61)).setRow (y2.heap.size) #[.int .i64 lx, .int .i64 ly, .int .i64 lz]).heap[kk]? = y2.heap[kk]? := fun kk hk => (setRow_other _ _ _ _ (by omega)).trans (hb.block _ hk)
  obtain ⟨y3, hy3⟩ : ∃ y, (y2.alloc (.cells #[.int .i64 0, .int .i64 0, .int .i64 0] 61)).setRow (y2.heap.size) #[.int .i64 lx, .int .i64 ly, .int .i64 lz] = y := ⟨_, rfl⟩
  have hs3 : y3.heap.size = y2.heap.size + 1 := by rw [← hy3]; simp [World.setRow]
  rw [hy3] at hN HUx hO ⊢
  clear hy3 hsz hb
  have HU3 := Lib.hid HUx
  clear HUx
  have hl3_0 := lt_heap hr2_0
  have hr3_0 := (hO _ hl3_0).trans hr2_0
  have hr3_1 := hN
  clear hN hO
  clear hr2_0 HU2
  have c0_0 := cell_of_row _ _ 0 _ _ _ hr3_0
  have c0_1 := cell_of_row _ _ 1 _ _ _ hr3_0
  have c0_2 := cell_of_row _ _ 2 _ _ _ hr3_0
  simp at c0_0 c0_1 c0_2
  go_wp2_with fail
  refine (hB _).mono ?_
  rintro e y4 ⟨rfl, hb4⟩
  clear c0_0 c0_1 c0_2
  have hr4_0 := (hb4.block _ (lt_heap hr3_0)).trans hr3_0
  have hr4_1 := (hb4.block _ (lt_heap hr3_1)).trans hr3_1
  have HU4 := Lib.hid (HU3.out.trans (hb4.mono HU3.out.size))
  clear hr3_0 hr3_1 HU3
  have c0_0 := cell_of_row _ _ 0 _ _ _ hr4_0
  have c0_1 := cell_of_row _ _ 1 _ _ _ hr4_0
  have c0_2 := cell_of_row _ _ 2 _ _ _ hr4_0
  have c1_0 := cell_of_row _ _ 0 _ _ _ hr4_1
  have c1_1 := cell_of_row _ _ 1 _ _ _ hr4_1
  have c1_2 := cell_of_row _ _ 2 _ _ _ hr4_1
  simp at c0_0 c0_1 c0_2 c1_0 c1_1 c1_2
  have HA := Lib.hid (heap_alloc_last y4 (.cells #[.int .i64 0, .int .i64 0, .int .i64 0] 57))
  have hHi := Lib.hid (show (Try.prog.info? 57).map (·.size) = some (#[.int .i64 lx, .int .i64 ly, .int .i64 lz] : Array Value).size by kernel_rfl)
  have hHz := Lib.hid (show (#[.int .i64 0, .int .i64 0, .int .i64 0] : Array Value).size = (#[.int .i64 lx, .int .i64 ly, .int .i64 lz] : Array Value).size from rfl)
  have hHo := Lib.hid (show (#[.int .i64 lx, .int .i64 ly, .int .i64 lz] : Array Value).all (·.oneCell') = true by simp [Value.oneCell'])
  go_upto_region 3 with (refine Au.wpList_store_row rfl 57 (.tmp 7) (.tmp 21) rfl (y4.alloc (.cells #[.int .i64 0, .int .i64 0, .int .i64 0] 57)) #[.int .i64 0, .int .i64 0, .int .i64 0] #[.int .i64 lx, .int .i64 ly, .int .i64 lz] (y4.heap.size) 57 HA.out rfl rfl hHi.out hHz.out hHo.out ?_)
  clear c0_0 c0_1 c0_2 c1_0 c1_1 c1_2
  clear hHi hHz hHo
  have hN := setRow_heap _ (y4.heap.size) _ #[.int .i64 lx, .int .i64 ly, .int .i64 lz] _ _ HA.out
  clear HA
  have hsz := HU4.out.size
  have hb := below_n1 y4 (.cells #[.int .i64 0, .int .i64 0, .int .i64 0] 57)
  have HUx := below_setRow (g := y4.heap.size) (HU4.out.trans (hb.mono HU4.out.size)) (by omega) #[.int .i64 lx, .int .i64 ly, .int .i64 lz]
  have hO : ∀ kk, kk < y4.heap.size → ((y4.alloc (.cells #[.int .i64 0, .int .i64 0, .int .i64 0] 57)).setRow (y4.heap.size) #[.int .i64 lx, .int .i64 ly, .int .i64 lz]).heap[kk]? = y4.heap[kk]? := fun kk hk => (setRow_other _ _ _ _ (by omega)).trans (hb.block _ hk)
  obtain ⟨y5, hy5⟩ : ∃ y, (y4.alloc (.cells #[.int .i64 0, .int .i64 0, .int .i64 0] 57)).setRow (y4.heap.size) #[.int .i64 lx, .int .i64 ly, .int .i64 lz] = y := ⟨_, rfl⟩
  have hs5 : y5.heap.size = y4.heap.size + 1 := by rw [← hy5]; simp [World.setRow]
  rw [hy5] at hN HUx hO ⊢
  clear hy5 hsz hb
  have HU5 := Lib.hid HUx
  clear HUx
  have hl5_0 := lt_heap hr4_0
  have hr5_0 := (hO _ hl5_0).trans hr4_0
  have hl5_1 := lt_heap hr4_1
  have hr5_1 := (hO _ hl5_1).trans hr4_1
  have hr5_2 := hN
  clear hN hO
  clear hr4_0 hr4_1 HU4
  have c0_0 := cell_of_row _ _ 0 _ _ _ hr5_0
  have c0_1 := cell_of_row _ _ 1 _ _ _ hr5_0
  have c0_2 := cell_of_row _ _ 2 _ _ _ hr5_0
  simp at c0_0 c0_1 c0_2
  go_upto_region 4 with fail
  clear c0_0 c0_1 c0_2
  refine wp_region_held_drew (S := fun y => y.heap[y2.heap.size]? = some (.cells #[.int .i64 lx, .int .i64 ly, .int .i64 lz] 61 (0, 0)) ∧ y.heap[y4.heap.size]? = some (.cells #[.int .i64 lx, .int .i64 ly, .int .i64 lz] 57 (0, 0))) (by kernel_rfl) (⟨hr5_1, hr5_2⟩) (fun hS0 => ?_)
  obtain ⟨y6, hy6⟩ : ∃ y, y5.drew = y := ⟨_, rfl⟩
  have HU6 := Lib.hid (show Below w.heap.size w y6 by rw [← hy6]; exact HU5.out.drew)
  have hr6_0 : y6.heap[w.heap.size]? = some (.cells #[.int .i64 r, .int .i64 g, .int .i64 b] 57 (0, 0)) := by rw [← hy6]; exact hr5_0
  have hr6_1 : y6.heap[y2.heap.size]? = some (.cells #[.int .i64 lx, .int .i64 ly, .int .i64 lz] 61 (0, 0)) := by rw [← hy6]; exact hr5_1
  have hr6_2 : y6.heap[y4.heap.size]? = some (.cells #[.int .i64 lx, .int .i64 ly, .int .i64 lz] 57 (0, 0)) := by rw [← hy6]; exact hr5_2
  rw [hy6] at hS0 ⊢
  clear hy6
  refine wpAnyH_ready (rs := [0]) (by kernel_rfl) (by simp) ?_
  refine AllReadyH.cons rfl (fun K hK => ?_) AllReadyH.nil
  go_simp
  go_wp2_with (go_at_call 20; refine (awake_any _).mono ?_; rintro e y7 ⟨rfl, hb7⟩)
  have hr7_0 := (hb7.block _ (lt_heap hr6_0)).trans hr6_0
  have hr7_1 := (hb7.block _ (lt_heap hr6_1)).trans hr6_1
  have hr7_2 := (hb7.block _ (lt_heap hr6_2)).trans hr6_2
  have HU7 := Lib.hid (HU6.out.trans (hb7.mono HU6.out.size))
  refine hK.out _ _ (⟨(hb7.block _ (lt_heap hS0.1)).trans hS0.1, (hb7.block _ (lt_heap hS0.2)).trans hS0.2⟩) (fun hS7c => ?_)
  clear hK K
  refine wpAnyH_take (i := 1) (v := ?_) rfl (by kernel_rfl) (by kernel_rfl) (by kernel_rfl) (fun _ _ _ h => h) (Or.inl ⟨by kernel_rfl, by (intro wz hSz; go_simp; try with_reducible rfl)⟩) hS7c ?_
  go_simp
  refine wpAnyH_take (i := 2) (v := ?_) rfl (by kernel_rfl) (by kernel_rfl) (by kernel_rfl) (fun _ _ _ h => h) (Or.inl ⟨by kernel_rfl, by (intro wz hSz; have c1_0 := cell_of_row _ _ 0 _ _ _ hSz.1; have c1_1 := cell_of_row _ _ 1 _ _ _ hSz.1; have c1_2 := cell_of_row _ _ 2 _ _ _ hSz.1; have c2_0 := cell_of_row _ _ 0 _ _ _ hSz.2; have c2_1 := cell_of_row _ _ 1 _ _ _ hSz.2; have c2_2 := cell_of_row _ _ 2 _ _ _ hSz.2; simp at c1_0 c1_1 c1_2 c2_0 c2_1 c2_2; go_simp; try with_reducible rfl)⟩) hS7c ?_
  go_simp
  refine wpAnyH_take (i := 4) (v := ?_) rfl (by kernel_rfl) (by kernel_rfl) (by kernel_rfl) (fun _ _ _ h => h) (Or.inl ⟨by kernel_rfl, by (intro wz hSz; have c1_0 := cell_of_row _ _ 0 _ _ _ hSz.1; have c1_1 := cell_of_row _ _ 1 _ _ _ hSz.1; have c1_2 := cell_of_row _ _ 2 _ _ _ hSz.1; have c2_0 := cell_of_row _ _ 0 _ _ _ hSz.2; have c2_1 := cell_of_row _ _ 1 _ _ _ hSz.2; have c2_2 := cell_of_row _ _ 2 _ _ _ hSz.2; simp at c1_0 c1_1 c1_2 c2_0 c2_1 c2_2; go_simp; try with_reducible rfl)⟩) hS7c ?_
  go_simp
  refine wpAnyH_ready (rs := [3]) (by kernel_rfl) (by simp) ?_
  refine AllReadyH.cons rfl (fun K hK => ?_) AllReadyH.nil
  go_simp
  go_wp2_with (go_at_call 22; refine (hfrom_any _ _ _ _).mono ?_; rintro e y8 ⟨rfl, hb8⟩)
  have hr8_0 := (hb8.block _ (lt_heap hr7_0)).trans hr7_0
  have hr8_1 := (hb8.block _ (lt_heap hr7_1)).trans hr7_1
  have hr8_2 := (hb8.block _ (lt_heap hr7_2)).trans hr7_2
  have HU8 := Lib.hid (HU7.out.trans (hb8.mono HU7.out.size))
  refine hK.out _ _ (⟨(hb8.block _ (lt_heap hS7c.1)).trans hS7c.1, (hb8.block _ (lt_heap hS7c.2)).trans hS7c.2⟩) (fun hS8c => ?_)
  clear hK K
  refine wpAnyH_take (i := 5) (v := ?_) rfl (by kernel_rfl) (by kernel_rfl) (by kernel_rfl) (fun _ _ _ h => h) (Or.inl ⟨by kernel_rfl, by (intro wz hSz; go_simp; try with_reducible rfl)⟩) hS8c ?_
  go_simp
  refine wpAnyH_take (i := 6) (v := ?_) rfl (by kernel_rfl) (by kernel_rfl) (by kernel_rfl) (fun _ _ _ h => h) (Or.inl ⟨by kernel_rfl, by (intro wz hSz; go_simp; try with_reducible rfl)⟩) hS8c ?_
  go_simp
  refine wpAnyH_take (i := 7) (v := ?_) rfl (by kernel_rfl) (by kernel_rfl) (by kernel_rfl) (fun _ _ _ h => h) (Or.inl ⟨by kernel_rfl, by (intro wz hSz; go_simp; try with_reducible rfl)⟩) hS8c ?_
  go_simp
  refine wpAnyH_take (i := 8) (v := ?_) rfl (by kernel_rfl) (by kernel_rfl) (by kernel_rfl) (fun _ _ _ h => h) (Or.inl ⟨by kernel_rfl, by (intro wz hSz; go_simp; try with_reducible rfl)⟩) hS8c ?_
  go_simp
  refine wpAnyH_take (i := 9) (v := ?_) rfl (by kernel_rfl) (by kernel_rfl) (by kernel_rfl) (fun _ _ _ h => h) (Or.inl ⟨by kernel_rfl, by (intro wz hSz; go_simp; try with_reducible rfl)⟩) hS8c ?_
  go_simp
  refine wpAnyH_take (i := 10) (v := ?_) rfl (by kernel_rfl) (by kernel_rfl) (by kernel_rfl) (fun _ _ _ h => h) (Or.inl ⟨by kernel_rfl, by (intro wz hSz; go_simp; try with_reducible rfl)⟩) hS8c ?_
  go_simp
  refine wpAnyH_take (i := 11) (v := ?_) rfl (by kernel_rfl) (by kernel_rfl) (by kernel_rfl) (fun _ _ _ h => h) (Or.inl ⟨by kernel_rfl, by (intro wz hSz; go_simp; try with_reducible rfl)⟩) hS8c ?_
  go_simp
  refine wpAnyH_take (i := 12) (v := ?_) rfl (by kernel_rfl) (by kernel_rfl) (by kernel_rfl) (fun _ _ _ h => h) (Or.inl ⟨by kernel_rfl, by (intro wz hSz; go_simp; try with_reducible rfl)⟩) hS8c ?_
  go_simp
  refine wpAnyH_take (i := 13) (v := ?_) rfl (by kernel_rfl) (by kernel_rfl) (by kernel_rfl) (fun _ _ _ h => h) (Or.inl ⟨by kernel_rfl, by (intro wz hSz; go_simp; try with_reducible rfl)⟩) hS8c ?_
  go_simp
  refine wpAnyH_take (i := 14) (v := ?_) rfl (by kernel_rfl) (by kernel_rfl) (by kernel_rfl) (fun _ _ _ h => h) (Or.inl ⟨by kernel_rfl, by (intro wz hSz; go_simp; try with_reducible rfl)⟩) hS8c ?_
  go_simp
  refine wpAnyH_take (i := 15) (v := undef) rfl (by kernel_rfl) (by kernel_rfl) (by kernel_rfl) (fun _ _ _ h => h) (Or.inr ⟨by kernel_rfl, rfl⟩) hS8c ?_
  go_simp
  refine wpAnyH_take (i := 16) (v := undef) rfl (by kernel_rfl) (by kernel_rfl) (by kernel_rfl) (fun _ _ _ h => h) (Or.inr ⟨by kernel_rfl, rfl⟩) hS8c ?_
  go_simp
  refine wpAnyH_take (i := 17) (v := ?_) rfl (by kernel_rfl) (by kernel_rfl) (by kernel_rfl) (fun _ _ _ h => h) (Or.inl ⟨by kernel_rfl, by (intro wz hSz; go_simp; try with_reducible rfl)⟩) hS8c ?_
  go_simp
  refine wpAnyH_take (i := 18) (v := ?_) rfl (by kernel_rfl) (by kernel_rfl) (by kernel_rfl) (fun _ _ _ h => h) (Or.inl ⟨by kernel_rfl, by (intro wz hSz; go_simp; try with_reducible rfl)⟩) hS8c ?_
  go_simp
  refine wpAnyH_take (i := 19) (v := ?_) rfl (by kernel_rfl) (by kernel_rfl) (by kernel_rfl) (fun _ _ _ h => h) (Or.inl ⟨by kernel_rfl, by (intro wz hSz; go_simp; try with_reducible rfl)⟩) hS8c ?_
  go_simp
  refine wpAnyH_done (by kernel_rfl) ?_ _
  go_wp2
  go_ret
  exact ⟨rfl, HU8.out⟩

set_option maxHeartbeats 4000000 in
set_option maxRecDepth 100000 in
theorem core_ok_tt (r g b u lx ly lz : Int) (h1 : 65536 ≤ r) (h2 : u < 65536) (hA : ∀ W : World, Calls Try.prog 24 #[.agg #[.int .i64 r, .int .i64 g, .int .i64 b], .int .i64 u] W fun e' w' => e' = .returned (.tuple #[.agg #[.int .i64 lx, .int .i64 ly, .int .i64 lz], .bool true]) ∧ Below W.heap.size W w') (hB : ∀ W : World, Calls Try.prog 26 #[.agg #[.int .i64 r, .int .i64 g, .int .i64 b], .int .i64 u] W fun e' w' => e' = .returned (.tuple #[.agg #[.int .i64 lx, .int .i64 ly, .int .i64 lz], .bool true]) ∧ Below W.heap.size W w') (w : World)  : Calls Try.prog 6 #[.agg #[.int .i64 r, .int .i64 g, .int .i64 b], .int .i64 u] w fun e' w' => e' = .returned (.bool true) ∧ Below w.heap.size w w' := by
  have heq := eq_hue
  have d1 := decide_eq_true h1
  have d2 := decide_eq_true h2
  go_enter Try.func6, Try.ntmps6
  go_upto_region 1 with fail
  have hR := Au.rows1 w (.cells #[.int .i64 r, .int .i64 g, .int .i64 b] 57)
  have HUx := below_n1 w (.cells #[.int .i64 r, .int .i64 g, .int .i64 b] 57)
  obtain ⟨y0, hy0⟩ : ∃ y0, w.alloc (.cells #[.int .i64 r, .int .i64 g, .int .i64 b] 57) = y0 := ⟨_, rfl⟩
  rw [hy0] at hR HUx ⊢
  clear hy0
  have HU0 := Lib.hid HUx
  clear HUx
  have hr0_0 := hR
  clear hR
  have c0_0 := cell_of_row _ _ 0 _ _ _ hr0_0
  have c0_1 := cell_of_row _ _ 1 _ _ _ hr0_0
  have c0_2 := cell_of_row _ _ 2 _ _ _ hr0_0
  simp at c0_0 c0_1 c0_2
  go_wp2_with fail
  refine (hto_any _ _ _ _).mono ?_
  rintro e y1 ⟨rfl, hb1⟩
  clear c0_0 c0_1 c0_2
  have hr1_0 := (hb1.block _ (lt_heap hr0_0)).trans hr0_0
  have HU1 := Lib.hid (HU0.out.trans (hb1.mono HU0.out.size))
  clear hr0_0 HU0
  go_wp2_with fail
  refine (hA _).mono ?_
  rintro e y2 ⟨rfl, hb2⟩
  have hr2_0 := (hb2.block _ (lt_heap hr1_0)).trans hr1_0
  have HU2 := Lib.hid (HU1.out.trans (hb2.mono HU1.out.size))
  clear hr1_0 HU1
  have c0_0 := cell_of_row _ _ 0 _ _ _ hr2_0
  have c0_1 := cell_of_row _ _ 1 _ _ _ hr2_0
  have c0_2 := cell_of_row _ _ 2 _ _ _ hr2_0
  simp at c0_0 c0_1 c0_2
  have HA := Lib.hid (heap_alloc_last y2 (.cells #[.int .i64 0, .int .i64 0, .int .i64 0] 61))
  have hHi := Lib.hid (show (Try.prog.info? 61).map (·.size) = some (#[.int .i64 lx, .int .i64 ly, .int .i64 lz] : Array Value).size by kernel_rfl)
  have hHz := Lib.hid (show (#[.int .i64 0, .int .i64 0, .int .i64 0] : Array Value).size = (#[.int .i64 lx, .int .i64 ly, .int .i64 lz] : Array Value).size from rfl)
  have hHo := Lib.hid (show (#[.int .i64 lx, .int .i64 ly, .int .i64 lz] : Array Value).all (·.oneCell') = true by simp [Value.oneCell'])
  go_upto_region 2 with (refine Au.wpList_store_row rfl 61 (.tmp 5) (.tmp 15) rfl (y2.alloc (.cells #[.int .i64 0, .int .i64 0, .int .i64 0] 61)) #[.int .i64 0, .int .i64 0, .int .i64 0] #[.int .i64 lx, .int .i64 ly, .int .i64 lz] (y2.heap.size) 61 HA.out rfl rfl hHi.out hHz.out hHo.out ?_)
  clear c0_0 c0_1 c0_2
  clear hHi hHz hHo
  have hN := setRow_heap _ (y2.heap.size) _ #[.int .i64 lx, .int .i64 ly, .int .i64 lz] _ _ HA.out
  clear HA
  have hsz := HU2.out.size
  have hb := below_n1 y2 (.cells #[.int .i64 0, .int .i64 0, .int .i64 0] 61)
  have HUx := below_setRow (g := y2.heap.size) (HU2.out.trans (hb.mono HU2.out.size)) (by omega) #[.int .i64 lx, .int .i64 ly, .int .i64 lz]
  have hO : ∀ kk, kk < y2.heap.size → ((y2.alloc (.cells #[.int .i64 0, .int .i64 0, .int .i64 0] 61)).setRow (y2.heap.size) #[.int .i64 lx, .int .i64 ly, .int .i64 lz]).heap[kk]? = y2.heap[kk]? := fun kk hk => (setRow_other _ _ _ _ (by omega)).trans (hb.block _ hk)
  obtain ⟨y3, hy3⟩ : ∃ y, (y2.alloc (.cells #[.int .i64 0, .int .i64 0, .int .i64 0] 61)).setRow (y2.heap.size) #[.int .i64 lx, .int .i64 ly, .int .i64 lz] = y := ⟨_, rfl⟩
  have hs3 : y3.heap.size = y2.heap.size + 1 := by rw [← hy3]; simp [World.setRow]
  rw [hy3] at hN HUx hO ⊢
  clear hy3 hsz hb
  have HU3 := Lib.hid HUx
  clear HUx
  have hl3_0 := lt_heap hr2_0
  have hr3_0 := (hO _ hl3_0).trans hr2_0
  have hr3_1 := hN
  clear hN hO
  clear hr2_0 HU2
  have c0_0 := cell_of_row _ _ 0 _ _ _ hr3_0
  have c0_1 := cell_of_row _ _ 1 _ _ _ hr3_0
  have c0_2 := cell_of_row _ _ 2 _ _ _ hr3_0
  simp at c0_0 c0_1 c0_2
  go_wp2_with fail
  refine (hB _).mono ?_
  rintro e y4 ⟨rfl, hb4⟩
  clear c0_0 c0_1 c0_2
  have hr4_0 := (hb4.block _ (lt_heap hr3_0)).trans hr3_0
  have hr4_1 := (hb4.block _ (lt_heap hr3_1)).trans hr3_1
  have HU4 := Lib.hid (HU3.out.trans (hb4.mono HU3.out.size))
  clear hr3_0 hr3_1 HU3
  have c0_0 := cell_of_row _ _ 0 _ _ _ hr4_0
  have c0_1 := cell_of_row _ _ 1 _ _ _ hr4_0
  have c0_2 := cell_of_row _ _ 2 _ _ _ hr4_0
  have c1_0 := cell_of_row _ _ 0 _ _ _ hr4_1
  have c1_1 := cell_of_row _ _ 1 _ _ _ hr4_1
  have c1_2 := cell_of_row _ _ 2 _ _ _ hr4_1
  simp at c0_0 c0_1 c0_2 c1_0 c1_1 c1_2
  have HA := Lib.hid (heap_alloc_last y4 (.cells #[.int .i64 0, .int .i64 0, .int .i64 0] 57))
  have hHi := Lib.hid (show (Try.prog.info? 57).map (·.size) = some (#[.int .i64 lx, .int .i64 ly, .int .i64 lz] : Array Value).size by kernel_rfl)
  have hHz := Lib.hid (show (#[.int .i64 0, .int .i64 0, .int .i64 0] : Array Value).size = (#[.int .i64 lx, .int .i64 ly, .int .i64 lz] : Array Value).size from rfl)
  have hHo := Lib.hid (show (#[.int .i64 lx, .int .i64 ly, .int .i64 lz] : Array Value).all (·.oneCell') = true by simp [Value.oneCell'])
  go_upto_region 3 with (refine Au.wpList_store_row rfl 57 (.tmp 7) (.tmp 21) rfl (y4.alloc (.cells #[.int .i64 0, .int .i64 0, .int .i64 0] 57)) #[.int .i64 0, .int .i64 0, .int .i64 0] #[.int .i64 lx, .int .i64 ly, .int .i64 lz] (y4.heap.size) 57 HA.out rfl rfl hHi.out hHz.out hHo.out ?_)
  clear c0_0 c0_1 c0_2 c1_0 c1_1 c1_2
  clear hHi hHz hHo
  have hN := setRow_heap _ (y4.heap.size) _ #[.int .i64 lx, .int .i64 ly, .int .i64 lz] _ _ HA.out
  clear HA
  have hsz := HU4.out.size
  have hb := below_n1 y4 (.cells #[.int .i64 0, .int .i64 0, .int .i64 0] 57)
  have HUx := below_setRow (g := y4.heap.size) (HU4.out.trans (hb.mono HU4.out.size)) (by omega) #[.int .i64 lx, .int .i64 ly, .int .i64 lz]
  have hO : ∀ kk, kk < y4.heap.size → ((y4.alloc (.cells #[.int .i64 0, .int .i64 0, .int .i64 0] 57)).setRow (y4.heap.size) #[.int .i64 lx, .int .i64 ly, .int .i64 lz]).heap[kk]? = y4.heap[kk]? := fun kk hk => (setRow_other _ _ _ _ (by omega)).trans (hb.block _ hk)
  obtain ⟨y5, hy5⟩ : ∃ y, (y4.alloc (.cells #[.int .i64 0, .int .i64 0, .int .i64 0] 57)).setRow (y4.heap.size) #[.int .i64 lx, .int .i64 ly, .int .i64 lz] = y := ⟨_, rfl⟩
  have hs5 : y5.heap.size = y4.heap.size + 1 := by rw [← hy5]; simp [World.setRow]
  rw [hy5] at hN HUx hO ⊢
  clear hy5 hsz hb
  have HU5 := Lib.hid HUx
  clear HUx
  have hl5_0 := lt_heap hr4_0
  have hr5_0 := (hO _ hl5_0).trans hr4_0
  have hl5_1 := lt_heap hr4_1
  have hr5_1 := (hO _ hl5_1).trans hr4_1
  have hr5_2 := hN
  clear hN hO
  clear hr4_0 hr4_1 HU4
  have c0_0 := cell_of_row _ _ 0 _ _ _ hr5_0
  have c0_1 := cell_of_row _ _ 1 _ _ _ hr5_0
  have c0_2 := cell_of_row _ _ 2 _ _ _ hr5_0
  simp at c0_0 c0_1 c0_2
  go_upto_region 4 with fail
  clear c0_0 c0_1 c0_2
  refine wp_region_held_drew (S := fun y => y.heap[y2.heap.size]? = some (.cells #[.int .i64 lx, .int .i64 ly, .int .i64 lz] 61 (0, 0)) ∧ y.heap[y4.heap.size]? = some (.cells #[.int .i64 lx, .int .i64 ly, .int .i64 lz] 57 (0, 0))) (by kernel_rfl) (⟨hr5_1, hr5_2⟩) (fun hS0 => ?_)
  obtain ⟨y6, hy6⟩ : ∃ y, y5.drew = y := ⟨_, rfl⟩
  have HU6 := Lib.hid (show Below w.heap.size w y6 by rw [← hy6]; exact HU5.out.drew)
  have hr6_0 : y6.heap[w.heap.size]? = some (.cells #[.int .i64 r, .int .i64 g, .int .i64 b] 57 (0, 0)) := by rw [← hy6]; exact hr5_0
  have hr6_1 : y6.heap[y2.heap.size]? = some (.cells #[.int .i64 lx, .int .i64 ly, .int .i64 lz] 61 (0, 0)) := by rw [← hy6]; exact hr5_1
  have hr6_2 : y6.heap[y4.heap.size]? = some (.cells #[.int .i64 lx, .int .i64 ly, .int .i64 lz] 57 (0, 0)) := by rw [← hy6]; exact hr5_2
  rw [hy6] at hS0 ⊢
  clear hy6
  refine wpAnyH_ready (rs := [0]) (by kernel_rfl) (by simp) ?_
  refine AllReadyH.cons rfl (fun K hK => ?_) AllReadyH.nil
  go_simp
  go_wp2_with (go_at_call 20; refine (awake_any _).mono ?_; rintro e y7 ⟨rfl, hb7⟩)
  have hr7_0 := (hb7.block _ (lt_heap hr6_0)).trans hr6_0
  have hr7_1 := (hb7.block _ (lt_heap hr6_1)).trans hr6_1
  have hr7_2 := (hb7.block _ (lt_heap hr6_2)).trans hr6_2
  have HU7 := Lib.hid (HU6.out.trans (hb7.mono HU6.out.size))
  refine hK.out _ _ (⟨(hb7.block _ (lt_heap hS0.1)).trans hS0.1, (hb7.block _ (lt_heap hS0.2)).trans hS0.2⟩) (fun hS7c => ?_)
  clear hK K
  refine wpAnyH_take (i := 1) (v := ?_) rfl (by kernel_rfl) (by kernel_rfl) (by kernel_rfl) (fun _ _ _ h => h) (Or.inl ⟨by kernel_rfl, by (intro wz hSz; go_simp; try with_reducible rfl)⟩) hS7c ?_
  go_simp
  refine wpAnyH_take (i := 2) (v := ?_) rfl (by kernel_rfl) (by kernel_rfl) (by kernel_rfl) (fun _ _ _ h => h) (Or.inl ⟨by kernel_rfl, by (intro wz hSz; have c1_0 := cell_of_row _ _ 0 _ _ _ hSz.1; have c1_1 := cell_of_row _ _ 1 _ _ _ hSz.1; have c1_2 := cell_of_row _ _ 2 _ _ _ hSz.1; have c2_0 := cell_of_row _ _ 0 _ _ _ hSz.2; have c2_1 := cell_of_row _ _ 1 _ _ _ hSz.2; have c2_2 := cell_of_row _ _ 2 _ _ _ hSz.2; simp at c1_0 c1_1 c1_2 c2_0 c2_1 c2_2; go_simp; try with_reducible rfl)⟩) hS7c ?_
  go_simp
  refine wpAnyH_take (i := 4) (v := ?_) rfl (by kernel_rfl) (by kernel_rfl) (by kernel_rfl) (fun _ _ _ h => h) (Or.inl ⟨by kernel_rfl, by (intro wz hSz; have c1_0 := cell_of_row _ _ 0 _ _ _ hSz.1; have c1_1 := cell_of_row _ _ 1 _ _ _ hSz.1; have c1_2 := cell_of_row _ _ 2 _ _ _ hSz.1; have c2_0 := cell_of_row _ _ 0 _ _ _ hSz.2; have c2_1 := cell_of_row _ _ 1 _ _ _ hSz.2; have c2_2 := cell_of_row _ _ 2 _ _ _ hSz.2; simp at c1_0 c1_1 c1_2 c2_0 c2_1 c2_2; go_simp; try with_reducible rfl)⟩) hS7c ?_
  go_simp
  refine wpAnyH_ready (rs := [3]) (by kernel_rfl) (by simp) ?_
  refine AllReadyH.cons rfl (fun K hK => ?_) AllReadyH.nil
  go_simp
  go_wp2_with (go_at_call 22; refine (hfrom_any _ _ _ _).mono ?_; rintro e y8 ⟨rfl, hb8⟩)
  have hr8_0 := (hb8.block _ (lt_heap hr7_0)).trans hr7_0
  have hr8_1 := (hb8.block _ (lt_heap hr7_1)).trans hr7_1
  have hr8_2 := (hb8.block _ (lt_heap hr7_2)).trans hr7_2
  have HU8 := Lib.hid (HU7.out.trans (hb8.mono HU7.out.size))
  refine hK.out _ _ (⟨(hb8.block _ (lt_heap hS7c.1)).trans hS7c.1, (hb8.block _ (lt_heap hS7c.2)).trans hS7c.2⟩) (fun hS8c => ?_)
  clear hK K
  refine wpAnyH_take (i := 5) (v := ?_) rfl (by kernel_rfl) (by kernel_rfl) (by kernel_rfl) (fun _ _ _ h => h) (Or.inl ⟨by kernel_rfl, by (intro wz hSz; go_simp; try with_reducible rfl)⟩) hS8c ?_
  go_simp
  refine wpAnyH_take (i := 6) (v := ?_) rfl (by kernel_rfl) (by kernel_rfl) (by kernel_rfl) (fun _ _ _ h => h) (Or.inl ⟨by kernel_rfl, by (intro wz hSz; go_simp; try with_reducible rfl)⟩) hS8c ?_
  go_simp
  refine wpAnyH_take (i := 7) (v := ?_) rfl (by kernel_rfl) (by kernel_rfl) (by kernel_rfl) (fun _ _ _ h => h) (Or.inl ⟨by kernel_rfl, by (intro wz hSz; go_simp; try with_reducible rfl)⟩) hS8c ?_
  go_simp
  refine wpAnyH_take (i := 8) (v := ?_) rfl (by kernel_rfl) (by kernel_rfl) (by kernel_rfl) (fun _ _ _ h => h) (Or.inl ⟨by kernel_rfl, by (intro wz hSz; go_simp; try with_reducible rfl)⟩) hS8c ?_
  go_simp
  refine wpAnyH_take (i := 9) (v := ?_) rfl (by kernel_rfl) (by kernel_rfl) (by kernel_rfl) (fun _ _ _ h => h) (Or.inl ⟨by kernel_rfl, by (intro wz hSz; go_simp; try with_reducible rfl)⟩) hS8c ?_
  go_simp
  refine wpAnyH_take (i := 10) (v := ?_) rfl (by kernel_rfl) (by kernel_rfl) (by kernel_rfl) (fun _ _ _ h => h) (Or.inl ⟨by kernel_rfl, by (intro wz hSz; go_simp; try with_reducible rfl)⟩) hS8c ?_
  go_simp
  refine wpAnyH_take (i := 11) (v := ?_) rfl (by kernel_rfl) (by kernel_rfl) (by kernel_rfl) (fun _ _ _ h => h) (Or.inl ⟨by kernel_rfl, by (intro wz hSz; go_simp; try with_reducible rfl)⟩) hS8c ?_
  go_simp
  refine wpAnyH_take (i := 12) (v := ?_) rfl (by kernel_rfl) (by kernel_rfl) (by kernel_rfl) (fun _ _ _ h => h) (Or.inl ⟨by kernel_rfl, by (intro wz hSz; go_simp; try with_reducible rfl)⟩) hS8c ?_
  go_simp
  refine wpAnyH_take (i := 13) (v := ?_) rfl (by kernel_rfl) (by kernel_rfl) (by kernel_rfl) (fun _ _ _ h => h) (Or.inl ⟨by kernel_rfl, by (intro wz hSz; go_simp; try with_reducible rfl)⟩) hS8c ?_
  go_simp
  refine wpAnyH_take (i := 14) (v := ?_) rfl (by kernel_rfl) (by kernel_rfl) (by kernel_rfl) (fun _ _ _ h => h) (Or.inl ⟨by kernel_rfl, by (intro wz hSz; go_simp; try with_reducible rfl)⟩) hS8c ?_
  go_simp
  refine wpAnyH_take (i := 15) (v := undef) rfl (by kernel_rfl) (by kernel_rfl) (by kernel_rfl) (fun _ _ _ h => h) (Or.inr ⟨by kernel_rfl, rfl⟩) hS8c ?_
  go_simp
  refine wpAnyH_take (i := 16) (v := undef) rfl (by kernel_rfl) (by kernel_rfl) (by kernel_rfl) (fun _ _ _ h => h) (Or.inr ⟨by kernel_rfl, rfl⟩) hS8c ?_
  go_simp
  refine wpAnyH_take (i := 17) (v := ?_) rfl (by kernel_rfl) (by kernel_rfl) (by kernel_rfl) (fun _ _ _ h => h) (Or.inl ⟨by kernel_rfl, by (intro wz hSz; go_simp; try with_reducible rfl)⟩) hS8c ?_
  go_simp
  refine wpAnyH_take (i := 18) (v := ?_) rfl (by kernel_rfl) (by kernel_rfl) (by kernel_rfl) (fun _ _ _ h => h) (Or.inl ⟨by kernel_rfl, by (intro wz hSz; go_simp; try with_reducible rfl)⟩) hS8c ?_
  go_simp
  refine wpAnyH_take (i := 19) (v := ?_) rfl (by kernel_rfl) (by kernel_rfl) (by kernel_rfl) (fun _ _ _ h => h) (Or.inl ⟨by kernel_rfl, by (intro wz hSz; go_simp; try with_reducible rfl)⟩) hS8c ?_
  go_simp
  refine wpAnyH_done (by kernel_rfl) ?_ _
  go_wp2
  go_ret
  exact ⟨rfl, HU8.out⟩

set_option maxHeartbeats 4000000 in
set_option maxRecDepth 100000 in
theorem core_ok_tf (r g b u lx ly lz : Int) (h1 : 65536 ≤ r) (h2 : ¬ u < 65536) (hA : ∀ W : World, Calls Try.prog 24 #[.agg #[.int .i64 r, .int .i64 g, .int .i64 b], .int .i64 u] W fun e' w' => e' = .returned (.tuple #[.agg #[.int .i64 lx, .int .i64 ly, .int .i64 lz], .bool true]) ∧ Below W.heap.size W w') (hB : ∀ W : World, Calls Try.prog 26 #[.agg #[.int .i64 r, .int .i64 g, .int .i64 b], .int .i64 u] W fun e' w' => e' = .returned (.tuple #[.agg #[.int .i64 lx, .int .i64 ly, .int .i64 lz], .bool true]) ∧ Below W.heap.size W w') (w : World)  : Calls Try.prog 6 #[.agg #[.int .i64 r, .int .i64 g, .int .i64 b], .int .i64 u] w fun e' w' => e' = .returned (.bool true) ∧ Below w.heap.size w w' := by
  have heq := eq_hue
  have d1 := decide_eq_true h1
  have d2 := decide_eq_false h2
  go_enter Try.func6, Try.ntmps6
  go_upto_region 1 with fail
  have hR := Au.rows1 w (.cells #[.int .i64 r, .int .i64 g, .int .i64 b] 57)
  have HUx := below_n1 w (.cells #[.int .i64 r, .int .i64 g, .int .i64 b] 57)
  obtain ⟨y0, hy0⟩ : ∃ y0, w.alloc (.cells #[.int .i64 r, .int .i64 g, .int .i64 b] 57) = y0 := ⟨_, rfl⟩
  rw [hy0] at hR HUx ⊢
  clear hy0
  have HU0 := Lib.hid HUx
  clear HUx
  have hr0_0 := hR
  clear hR
  have c0_0 := cell_of_row _ _ 0 _ _ _ hr0_0
  have c0_1 := cell_of_row _ _ 1 _ _ _ hr0_0
  have c0_2 := cell_of_row _ _ 2 _ _ _ hr0_0
  simp at c0_0 c0_1 c0_2
  go_wp2_with fail
  refine (hto_any _ _ _ _).mono ?_
  rintro e y1 ⟨rfl, hb1⟩
  clear c0_0 c0_1 c0_2
  have hr1_0 := (hb1.block _ (lt_heap hr0_0)).trans hr0_0
  have HU1 := Lib.hid (HU0.out.trans (hb1.mono HU0.out.size))
  clear hr0_0 HU0
  go_wp2_with fail
  refine (hA _).mono ?_
  rintro e y2 ⟨rfl, hb2⟩
  have hr2_0 := (hb2.block _ (lt_heap hr1_0)).trans hr1_0
  have HU2 := Lib.hid (HU1.out.trans (hb2.mono HU1.out.size))
  clear hr1_0 HU1
  have c0_0 := cell_of_row _ _ 0 _ _ _ hr2_0
  have c0_1 := cell_of_row _ _ 1 _ _ _ hr2_0
  have c0_2 := cell_of_row _ _ 2 _ _ _ hr2_0
  simp at c0_0 c0_1 c0_2
  have HA := Lib.hid (heap_alloc_last y2 (.cells #[.int .i64 0, .int .i64 0, .int .i64 0] 61))
  have hHi := Lib.hid (show (Try.prog.info? 61).map (·.size) = some (#[.int .i64 lx, .int .i64 ly, .int .i64 lz] : Array Value).size by kernel_rfl)
  have hHz := Lib.hid (show (#[.int .i64 0, .int .i64 0, .int .i64 0] : Array Value).size = (#[.int .i64 lx, .int .i64 ly, .int .i64 lz] : Array Value).size from rfl)
  have hHo := Lib.hid (show (#[.int .i64 lx, .int .i64 ly, .int .i64 lz] : Array Value).all (·.oneCell') = true by simp [Value.oneCell'])
  go_upto_region 2 with (refine Au.wpList_store_row rfl 61 (.tmp 5) (.tmp 15) rfl (y2.alloc (.cells #[.int .i64 0, .int .i64 0, .int .i64 0] 61)) #[.int .i64 0, .int .i64 0, .int .i64 0] #[.int .i64 lx, .int .i64 ly, .int .i64 lz] (y2.heap.size) 61 HA.out rfl rfl hHi.out hHz.out hHo.out ?_)
  clear c0_0 c0_1 c0_2
  clear hHi hHz hHo
  have hN := setRow_heap _ (y2.heap.size) _ #[.int .i64 lx, .int .i64 ly, .int .i64 lz] _ _ HA.out
  clear HA
  have hsz := HU2.out.size
  have hb := below_n1 y2 (.cells #[.int .i64 0, .int .i64 0, .int .i64 0] 61)
  have HUx := below_setRow (g := y2.heap.size) (HU2.out.trans (hb.mono HU2.out.size)) (by omega) #[.int .i64 lx, .int .i64 ly, .int .i64 lz]
  have hO : ∀ kk, kk < y2.heap.size → ((y2.alloc (.cells #[.int .i64 0, .int .i64 0, .int .i64 0] 61)).setRow (y2.heap.size) #[.int .i64 lx, .int .i64 ly, .int .i64 lz]).heap[kk]? = y2.heap[kk]? := fun kk hk => (setRow_other _ _ _ _ (by omega)).trans (hb.block _ hk)
  obtain ⟨y3, hy3⟩ : ∃ y, (y2.alloc (.cells #[.int .i64 0, .int .i64 0, .int .i64 0] 61)).setRow (y2.heap.size) #[.int .i64 lx, .int .i64 ly, .int .i64 lz] = y := ⟨_, rfl⟩
  have hs3 : y3.heap.size = y2.heap.size + 1 := by rw [← hy3]; simp [World.setRow]
  rw [hy3] at hN HUx hO ⊢
  clear hy3 hsz hb
  have HU3 := Lib.hid HUx
  clear HUx
  have hl3_0 := lt_heap hr2_0
  have hr3_0 := (hO _ hl3_0).trans hr2_0
  have hr3_1 := hN
  clear hN hO
  clear hr2_0 HU2
  have c0_0 := cell_of_row _ _ 0 _ _ _ hr3_0
  have c0_1 := cell_of_row _ _ 1 _ _ _ hr3_0
  have c0_2 := cell_of_row _ _ 2 _ _ _ hr3_0
  simp at c0_0 c0_1 c0_2
  go_wp2_with fail
  refine (hB _).mono ?_
  rintro e y4 ⟨rfl, hb4⟩
  clear c0_0 c0_1 c0_2
  have hr4_0 := (hb4.block _ (lt_heap hr3_0)).trans hr3_0
  have hr4_1 := (hb4.block _ (lt_heap hr3_1)).trans hr3_1
  have HU4 := Lib.hid (HU3.out.trans (hb4.mono HU3.out.size))
  clear hr3_0 hr3_1 HU3
  have c0_0 := cell_of_row _ _ 0 _ _ _ hr4_0
  have c0_1 := cell_of_row _ _ 1 _ _ _ hr4_0
  have c0_2 := cell_of_row _ _ 2 _ _ _ hr4_0
  have c1_0 := cell_of_row _ _ 0 _ _ _ hr4_1
  have c1_1 := cell_of_row _ _ 1 _ _ _ hr4_1
  have c1_2 := cell_of_row _ _ 2 _ _ _ hr4_1
  simp at c0_0 c0_1 c0_2 c1_0 c1_1 c1_2
  have HA := Lib.hid (heap_alloc_last y4 (.cells #[.int .i64 0, .int .i64 0, .int .i64 0] 57))
  have hHi := Lib.hid (show (Try.prog.info? 57).map (·.size) = some (#[.int .i64 lx, .int .i64 ly, .int .i64 lz] : Array Value).size by kernel_rfl)
  have hHz := Lib.hid (show (#[.int .i64 0, .int .i64 0, .int .i64 0] : Array Value).size = (#[.int .i64 lx, .int .i64 ly, .int .i64 lz] : Array Value).size from rfl)
  have hHo := Lib.hid (show (#[.int .i64 lx, .int .i64 ly, .int .i64 lz] : Array Value).all (·.oneCell') = true by simp [Value.oneCell'])
  go_upto_region 3 with (refine Au.wpList_store_row rfl 57 (.tmp 7) (.tmp 21) rfl (y4.alloc (.cells #[.int .i64 0, .int .i64 0, .int .i64 0] 57)) #[.int .i64 0, .int .i64 0, .int .i64 0] #[.int .i64 lx, .int .i64 ly, .int .i64 lz] (y4.heap.size) 57 HA.out rfl rfl hHi.out hHz.out hHo.out ?_)
  clear c0_0 c0_1 c0_2 c1_0 c1_1 c1_2
  clear hHi hHz hHo
  have hN := setRow_heap _ (y4.heap.size) _ #[.int .i64 lx, .int .i64 ly, .int .i64 lz] _ _ HA.out
  clear HA
  have hsz := HU4.out.size
  have hb := below_n1 y4 (.cells #[.int .i64 0, .int .i64 0, .int .i64 0] 57)
  have HUx := below_setRow (g := y4.heap.size) (HU4.out.trans (hb.mono HU4.out.size)) (by omega) #[.int .i64 lx, .int .i64 ly, .int .i64 lz]
  have hO : ∀ kk, kk < y4.heap.size → ((y4.alloc (.cells #[.int .i64 0, .int .i64 0, .int .i64 0] 57)).setRow (y4.heap.size) #[.int .i64 lx, .int .i64 ly, .int .i64 lz]).heap[kk]? = y4.heap[kk]? := fun kk hk => (setRow_other _ _ _ _ (by omega)).trans (hb.block _ hk)
  obtain ⟨y5, hy5⟩ : ∃ y, (y4.alloc (.cells #[.int .i64 0, .int .i64 0, .int .i64 0] 57)).setRow (y4.heap.size) #[.int .i64 lx, .int .i64 ly, .int .i64 lz] = y := ⟨_, rfl⟩
  have hs5 : y5.heap.size = y4.heap.size + 1 := by rw [← hy5]; simp [World.setRow]
  rw [hy5] at hN HUx hO ⊢
  clear hy5 hsz hb
  have HU5 := Lib.hid HUx
  clear HUx
  have hl5_0 := lt_heap hr4_0
  have hr5_0 := (hO _ hl5_0).trans hr4_0
  have hl5_1 := lt_heap hr4_1
  have hr5_1 := (hO _ hl5_1).trans hr4_1
  have hr5_2 := hN
  clear hN hO
  clear hr4_0 hr4_1 HU4
  have c0_0 := cell_of_row _ _ 0 _ _ _ hr5_0
  have c0_1 := cell_of_row _ _ 1 _ _ _ hr5_0
  have c0_2 := cell_of_row _ _ 2 _ _ _ hr5_0
  simp at c0_0 c0_1 c0_2
  go_upto_region 4 with fail
  clear c0_0 c0_1 c0_2
  refine wp_region_held_drew (S := fun y => y.heap[y2.heap.size]? = some (.cells #[.int .i64 lx, .int .i64 ly, .int .i64 lz] 61 (0, 0)) ∧ y.heap[y4.heap.size]? = some (.cells #[.int .i64 lx, .int .i64 ly, .int .i64 lz] 57 (0, 0))) (by kernel_rfl) (⟨hr5_1, hr5_2⟩) (fun hS0 => ?_)
  obtain ⟨y6, hy6⟩ : ∃ y, y5.drew = y := ⟨_, rfl⟩
  have HU6 := Lib.hid (show Below w.heap.size w y6 by rw [← hy6]; exact HU5.out.drew)
  have hr6_0 : y6.heap[w.heap.size]? = some (.cells #[.int .i64 r, .int .i64 g, .int .i64 b] 57 (0, 0)) := by rw [← hy6]; exact hr5_0
  have hr6_1 : y6.heap[y2.heap.size]? = some (.cells #[.int .i64 lx, .int .i64 ly, .int .i64 lz] 61 (0, 0)) := by rw [← hy6]; exact hr5_1
  have hr6_2 : y6.heap[y4.heap.size]? = some (.cells #[.int .i64 lx, .int .i64 ly, .int .i64 lz] 57 (0, 0)) := by rw [← hy6]; exact hr5_2
  rw [hy6] at hS0 ⊢
  clear hy6
  refine wpAnyH_ready (rs := [0]) (by kernel_rfl) (by simp) ?_
  refine AllReadyH.cons rfl (fun K hK => ?_) AllReadyH.nil
  go_simp
  go_wp2_with (go_at_call 20; refine (awake_any _).mono ?_; rintro e y7 ⟨rfl, hb7⟩)
  have hr7_0 := (hb7.block _ (lt_heap hr6_0)).trans hr6_0
  have hr7_1 := (hb7.block _ (lt_heap hr6_1)).trans hr6_1
  have hr7_2 := (hb7.block _ (lt_heap hr6_2)).trans hr6_2
  have HU7 := Lib.hid (HU6.out.trans (hb7.mono HU6.out.size))
  refine hK.out _ _ (⟨(hb7.block _ (lt_heap hS0.1)).trans hS0.1, (hb7.block _ (lt_heap hS0.2)).trans hS0.2⟩) (fun hS7c => ?_)
  clear hK K
  refine wpAnyH_take (i := 1) (v := ?_) rfl (by kernel_rfl) (by kernel_rfl) (by kernel_rfl) (fun _ _ _ h => h) (Or.inl ⟨by kernel_rfl, by (intro wz hSz; go_simp; try with_reducible rfl)⟩) hS7c ?_
  go_simp
  refine wpAnyH_take (i := 2) (v := ?_) rfl (by kernel_rfl) (by kernel_rfl) (by kernel_rfl) (fun _ _ _ h => h) (Or.inl ⟨by kernel_rfl, by (intro wz hSz; have c1_0 := cell_of_row _ _ 0 _ _ _ hSz.1; have c1_1 := cell_of_row _ _ 1 _ _ _ hSz.1; have c1_2 := cell_of_row _ _ 2 _ _ _ hSz.1; have c2_0 := cell_of_row _ _ 0 _ _ _ hSz.2; have c2_1 := cell_of_row _ _ 1 _ _ _ hSz.2; have c2_2 := cell_of_row _ _ 2 _ _ _ hSz.2; simp at c1_0 c1_1 c1_2 c2_0 c2_1 c2_2; go_simp; try with_reducible rfl)⟩) hS7c ?_
  go_simp
  refine wpAnyH_take (i := 4) (v := ?_) rfl (by kernel_rfl) (by kernel_rfl) (by kernel_rfl) (fun _ _ _ h => h) (Or.inl ⟨by kernel_rfl, by (intro wz hSz; have c1_0 := cell_of_row _ _ 0 _ _ _ hSz.1; have c1_1 := cell_of_row _ _ 1 _ _ _ hSz.1; have c1_2 := cell_of_row _ _ 2 _ _ _ hSz.1; have c2_0 := cell_of_row _ _ 0 _ _ _ hSz.2; have c2_1 := cell_of_row _ _ 1 _ _ _ hSz.2; have c2_2 := cell_of_row _ _ 2 _ _ _ hSz.2; simp at c1_0 c1_1 c1_2 c2_0 c2_1 c2_2; go_simp; try with_reducible rfl)⟩) hS7c ?_
  go_simp
  refine wpAnyH_ready (rs := [3]) (by kernel_rfl) (by simp) ?_
  refine AllReadyH.cons rfl (fun K hK => ?_) AllReadyH.nil
  go_simp
  go_wp2_with (go_at_call 22; refine (hfrom_any _ _ _ _).mono ?_; rintro e y8 ⟨rfl, hb8⟩)
  have hr8_0 := (hb8.block _ (lt_heap hr7_0)).trans hr7_0
  have hr8_1 := (hb8.block _ (lt_heap hr7_1)).trans hr7_1
  have hr8_2 := (hb8.block _ (lt_heap hr7_2)).trans hr7_2
  have HU8 := Lib.hid (HU7.out.trans (hb8.mono HU7.out.size))
  refine hK.out _ _ (⟨(hb8.block _ (lt_heap hS7c.1)).trans hS7c.1, (hb8.block _ (lt_heap hS7c.2)).trans hS7c.2⟩) (fun hS8c => ?_)
  clear hK K
  refine wpAnyH_take (i := 5) (v := ?_) rfl (by kernel_rfl) (by kernel_rfl) (by kernel_rfl) (fun _ _ _ h => h) (Or.inl ⟨by kernel_rfl, by (intro wz hSz; go_simp; try with_reducible rfl)⟩) hS8c ?_
  go_simp
  refine wpAnyH_take (i := 6) (v := ?_) rfl (by kernel_rfl) (by kernel_rfl) (by kernel_rfl) (fun _ _ _ h => h) (Or.inl ⟨by kernel_rfl, by (intro wz hSz; go_simp; try with_reducible rfl)⟩) hS8c ?_
  go_simp
  refine wpAnyH_take (i := 7) (v := ?_) rfl (by kernel_rfl) (by kernel_rfl) (by kernel_rfl) (fun _ _ _ h => h) (Or.inl ⟨by kernel_rfl, by (intro wz hSz; go_simp; try with_reducible rfl)⟩) hS8c ?_
  go_simp
  refine wpAnyH_take (i := 8) (v := ?_) rfl (by kernel_rfl) (by kernel_rfl) (by kernel_rfl) (fun _ _ _ h => h) (Or.inl ⟨by kernel_rfl, by (intro wz hSz; go_simp; try with_reducible rfl)⟩) hS8c ?_
  go_simp
  refine wpAnyH_take (i := 9) (v := ?_) rfl (by kernel_rfl) (by kernel_rfl) (by kernel_rfl) (fun _ _ _ h => h) (Or.inl ⟨by kernel_rfl, by (intro wz hSz; go_simp; try with_reducible rfl)⟩) hS8c ?_
  go_simp
  refine wpAnyH_take (i := 10) (v := ?_) rfl (by kernel_rfl) (by kernel_rfl) (by kernel_rfl) (fun _ _ _ h => h) (Or.inl ⟨by kernel_rfl, by (intro wz hSz; go_simp; try with_reducible rfl)⟩) hS8c ?_
  go_simp
  refine wpAnyH_take (i := 11) (v := ?_) rfl (by kernel_rfl) (by kernel_rfl) (by kernel_rfl) (fun _ _ _ h => h) (Or.inl ⟨by kernel_rfl, by (intro wz hSz; go_simp; try with_reducible rfl)⟩) hS8c ?_
  go_simp
  refine wpAnyH_take (i := 12) (v := ?_) rfl (by kernel_rfl) (by kernel_rfl) (by kernel_rfl) (fun _ _ _ h => h) (Or.inl ⟨by kernel_rfl, by (intro wz hSz; go_simp; try with_reducible rfl)⟩) hS8c ?_
  go_simp
  refine wpAnyH_take (i := 13) (v := ?_) rfl (by kernel_rfl) (by kernel_rfl) (by kernel_rfl) (fun _ _ _ h => h) (Or.inl ⟨by kernel_rfl, by (intro wz hSz; go_simp; try with_reducible rfl)⟩) hS8c ?_
  go_simp
  refine wpAnyH_take (i := 14) (v := ?_) rfl (by kernel_rfl) (by kernel_rfl) (by kernel_rfl) (fun _ _ _ h => h) (Or.inl ⟨by kernel_rfl, by (intro wz hSz; go_simp; try with_reducible rfl)⟩) hS8c ?_
  go_simp
  refine wpAnyH_take (i := 15) (v := undef) rfl (by kernel_rfl) (by kernel_rfl) (by kernel_rfl) (fun _ _ _ h => h) (Or.inr ⟨by kernel_rfl, rfl⟩) hS8c ?_
  go_simp
  refine wpAnyH_take (i := 16) (v := undef) rfl (by kernel_rfl) (by kernel_rfl) (by kernel_rfl) (fun _ _ _ h => h) (Or.inr ⟨by kernel_rfl, rfl⟩) hS8c ?_
  go_simp
  refine wpAnyH_take (i := 17) (v := ?_) rfl (by kernel_rfl) (by kernel_rfl) (by kernel_rfl) (fun _ _ _ h => h) (Or.inl ⟨by kernel_rfl, by (intro wz hSz; go_simp; try with_reducible rfl)⟩) hS8c ?_
  go_simp
  refine wpAnyH_take (i := 18) (v := ?_) rfl (by kernel_rfl) (by kernel_rfl) (by kernel_rfl) (fun _ _ _ h => h) (Or.inl ⟨by kernel_rfl, by (intro wz hSz; go_simp; try with_reducible rfl)⟩) hS8c ?_
  go_simp
  refine wpAnyH_take (i := 19) (v := ?_) rfl (by kernel_rfl) (by kernel_rfl) (by kernel_rfl) (fun _ _ _ h => h) (Or.inl ⟨by kernel_rfl, by (intro wz hSz; go_simp; try with_reducible rfl)⟩) hS8c ?_
  go_simp
  refine wpAnyH_done (by kernel_rfl) ?_ _
  go_wp2
  go_ret
  exact ⟨rfl, HU8.out⟩

set_option maxHeartbeats 4000000 in
set_option maxRecDepth 100000 in
theorem core_no_f (r g b u lx ly lz : Int) (h1 : ¬ 65536 ≤ r) (hA : ∀ W : World, Calls Try.prog 24 #[.agg #[.int .i64 r, .int .i64 g, .int .i64 b], .int .i64 u] W fun e' w' => e' = .returned (.tuple #[.agg #[.int .i64 lx, .int .i64 ly, .int .i64 lz], .bool false]) ∧ Below W.heap.size W w') (hB : ∀ W : World, Calls Try.prog 26 #[.agg #[.int .i64 r, .int .i64 g, .int .i64 b], .int .i64 u] W fun e' w' => e' = .returned (.tuple #[.agg #[.int .i64 lx, .int .i64 ly, .int .i64 lz], .bool false]) ∧ Below W.heap.size W w') (w : World)  : Calls Try.prog 6 #[.agg #[.int .i64 r, .int .i64 g, .int .i64 b], .int .i64 u] w fun e' w' => e' = .returned (.bool true) ∧ Below w.heap.size w w' := by
  have heq := eq_hue
  have d1 := decide_eq_false h1
  go_enter Try.func6, Try.ntmps6
  go_upto_region 1 with fail
  have hR := Au.rows1 w (.cells #[.int .i64 r, .int .i64 g, .int .i64 b] 57)
  have HUx := below_n1 w (.cells #[.int .i64 r, .int .i64 g, .int .i64 b] 57)
  obtain ⟨y0, hy0⟩ : ∃ y0, w.alloc (.cells #[.int .i64 r, .int .i64 g, .int .i64 b] 57) = y0 := ⟨_, rfl⟩
  rw [hy0] at hR HUx ⊢
  clear hy0
  have HU0 := Lib.hid HUx
  clear HUx
  have hr0_0 := hR
  clear hR
  have c0_0 := cell_of_row _ _ 0 _ _ _ hr0_0
  have c0_1 := cell_of_row _ _ 1 _ _ _ hr0_0
  have c0_2 := cell_of_row _ _ 2 _ _ _ hr0_0
  simp at c0_0 c0_1 c0_2
  go_wp2_with fail
  refine (hto_any _ _ _ _).mono ?_
  rintro e y1 ⟨rfl, hb1⟩
  clear c0_0 c0_1 c0_2
  have hr1_0 := (hb1.block _ (lt_heap hr0_0)).trans hr0_0
  have HU1 := Lib.hid (HU0.out.trans (hb1.mono HU0.out.size))
  clear hr0_0 HU0
  go_wp2_with fail
  refine (hA _).mono ?_
  rintro e y2 ⟨rfl, hb2⟩
  have hr2_0 := (hb2.block _ (lt_heap hr1_0)).trans hr1_0
  have HU2 := Lib.hid (HU1.out.trans (hb2.mono HU1.out.size))
  clear hr1_0 HU1
  have c0_0 := cell_of_row _ _ 0 _ _ _ hr2_0
  have c0_1 := cell_of_row _ _ 1 _ _ _ hr2_0
  have c0_2 := cell_of_row _ _ 2 _ _ _ hr2_0
  simp at c0_0 c0_1 c0_2
  have HA := Lib.hid (heap_alloc_last y2 (.cells #[.int .i64 0, .int .i64 0, .int .i64 0] 61))
  have hHi := Lib.hid (show (Try.prog.info? 61).map (·.size) = some (#[.int .i64 lx, .int .i64 ly, .int .i64 lz] : Array Value).size by kernel_rfl)
  have hHz := Lib.hid (show (#[.int .i64 0, .int .i64 0, .int .i64 0] : Array Value).size = (#[.int .i64 lx, .int .i64 ly, .int .i64 lz] : Array Value).size from rfl)
  have hHo := Lib.hid (show (#[.int .i64 lx, .int .i64 ly, .int .i64 lz] : Array Value).all (·.oneCell') = true by simp [Value.oneCell'])
  go_upto_region 2 with (refine Au.wpList_store_row rfl 61 (.tmp 5) (.tmp 15) rfl (y2.alloc (.cells #[.int .i64 0, .int .i64 0, .int .i64 0] 61)) #[.int .i64 0, .int .i64 0, .int .i64 0] #[.int .i64 lx, .int .i64 ly, .int .i64 lz] (y2.heap.size) 61 HA.out rfl rfl hHi.out hHz.out hHo.out ?_)
  clear c0_0 c0_1 c0_2
  clear hHi hHz hHo
  have hN := setRow_heap _ (y2.heap.size) _ #[.int .i64 lx, .int .i64 ly, .int .i64 lz] _ _ HA.out
  clear HA
  have hsz := HU2.out.size
  have hb := below_n1 y2 (.cells #[.int .i64 0, .int .i64 0, .int .i64 0] 61)
  have HUx := below_setRow (g := y2.heap.size) (HU2.out.trans (hb.mono HU2.out.size)) (by omega) #[.int .i64 lx, .int .i64 ly, .int .i64 lz]
  have hO : ∀ kk, kk < y2.heap.size → ((y2.alloc (.cells #[.int .i64 0, .int .i64 0, .int .i64 0] 61)).setRow (y2.heap.size) #[.int .i64 lx, .int .i64 ly, .int .i64 lz]).heap[kk]? = y2.heap[kk]? := fun kk hk => (setRow_other _ _ _ _ (by omega)).trans (hb.block _ hk)
  obtain ⟨y3, hy3⟩ : ∃ y, (y2.alloc (.cells #[.int .i64 0, .int .i64 0, .int .i64 0] 61)).setRow (y2.heap.size) #[.int .i64 lx, .int .i64 ly, .int .i64 lz] = y := ⟨_, rfl⟩
  have hs3 : y3.heap.size = y2.heap.size + 1 := by rw [← hy3]; simp [World.setRow]
  rw [hy3] at hN HUx hO ⊢
  clear hy3 hsz hb
  have HU3 := Lib.hid HUx
  clear HUx
  have hl3_0 := lt_heap hr2_0
  have hr3_0 := (hO _ hl3_0).trans hr2_0
  have hr3_1 := hN
  clear hN hO
  clear hr2_0 HU2
  have c0_0 := cell_of_row _ _ 0 _ _ _ hr3_0
  have c0_1 := cell_of_row _ _ 1 _ _ _ hr3_0
  have c0_2 := cell_of_row _ _ 2 _ _ _ hr3_0
  simp at c0_0 c0_1 c0_2
  go_wp2_with fail
  refine (hB _).mono ?_
  rintro e y4 ⟨rfl, hb4⟩
  clear c0_0 c0_1 c0_2
  have hr4_0 := (hb4.block _ (lt_heap hr3_0)).trans hr3_0
  have hr4_1 := (hb4.block _ (lt_heap hr3_1)).trans hr3_1
  have HU4 := Lib.hid (HU3.out.trans (hb4.mono HU3.out.size))
  clear hr3_0 hr3_1 HU3
  have c0_0 := cell_of_row _ _ 0 _ _ _ hr4_0
  have c0_1 := cell_of_row _ _ 1 _ _ _ hr4_0
  have c0_2 := cell_of_row _ _ 2 _ _ _ hr4_0
  have c1_0 := cell_of_row _ _ 0 _ _ _ hr4_1
  have c1_1 := cell_of_row _ _ 1 _ _ _ hr4_1
  have c1_2 := cell_of_row _ _ 2 _ _ _ hr4_1
  simp at c0_0 c0_1 c0_2 c1_0 c1_1 c1_2
  have HA := Lib.hid (heap_alloc_last y4 (.cells #[.int .i64 0, .int .i64 0, .int .i64 0] 57))
  have hHi := Lib.hid (show (Try.prog.info? 57).map (·.size) = some (#[.int .i64 lx, .int .i64 ly, .int .i64 lz] : Array Value).size by kernel_rfl)
  have hHz := Lib.hid (show (#[.int .i64 0, .int .i64 0, .int .i64 0] : Array Value).size = (#[.int .i64 lx, .int .i64 ly, .int .i64 lz] : Array Value).size from rfl)
  have hHo := Lib.hid (show (#[.int .i64 lx, .int .i64 ly, .int .i64 lz] : Array Value).all (·.oneCell') = true by simp [Value.oneCell'])
  go_upto_region 3 with (refine Au.wpList_store_row rfl 57 (.tmp 7) (.tmp 21) rfl (y4.alloc (.cells #[.int .i64 0, .int .i64 0, .int .i64 0] 57)) #[.int .i64 0, .int .i64 0, .int .i64 0] #[.int .i64 lx, .int .i64 ly, .int .i64 lz] (y4.heap.size) 57 HA.out rfl rfl hHi.out hHz.out hHo.out ?_)
  clear c0_0 c0_1 c0_2 c1_0 c1_1 c1_2
  clear hHi hHz hHo
  have hN := setRow_heap _ (y4.heap.size) _ #[.int .i64 lx, .int .i64 ly, .int .i64 lz] _ _ HA.out
  clear HA
  have hsz := HU4.out.size
  have hb := below_n1 y4 (.cells #[.int .i64 0, .int .i64 0, .int .i64 0] 57)
  have HUx := below_setRow (g := y4.heap.size) (HU4.out.trans (hb.mono HU4.out.size)) (by omega) #[.int .i64 lx, .int .i64 ly, .int .i64 lz]
  have hO : ∀ kk, kk < y4.heap.size → ((y4.alloc (.cells #[.int .i64 0, .int .i64 0, .int .i64 0] 57)).setRow (y4.heap.size) #[.int .i64 lx, .int .i64 ly, .int .i64 lz]).heap[kk]? = y4.heap[kk]? := fun kk hk => (setRow_other _ _ _ _ (by omega)).trans (hb.block _ hk)
  obtain ⟨y5, hy5⟩ : ∃ y, (y4.alloc (.cells #[.int .i64 0, .int .i64 0, .int .i64 0] 57)).setRow (y4.heap.size) #[.int .i64 lx, .int .i64 ly, .int .i64 lz] = y := ⟨_, rfl⟩
  have hs5 : y5.heap.size = y4.heap.size + 1 := by rw [← hy5]; simp [World.setRow]
  rw [hy5] at hN HUx hO ⊢
  clear hy5 hsz hb
  have HU5 := Lib.hid HUx
  clear HUx
  have hl5_0 := lt_heap hr4_0
  have hr5_0 := (hO _ hl5_0).trans hr4_0
  have hl5_1 := lt_heap hr4_1
  have hr5_1 := (hO _ hl5_1).trans hr4_1
  have hr5_2 := hN
  clear hN hO
  clear hr4_0 hr4_1 HU4
  have c0_0 := cell_of_row _ _ 0 _ _ _ hr5_0
  have c0_1 := cell_of_row _ _ 1 _ _ _ hr5_0
  have c0_2 := cell_of_row _ _ 2 _ _ _ hr5_0
  simp at c0_0 c0_1 c0_2
  go_upto_region 4 with fail
  clear c0_0 c0_1 c0_2
  refine wp_region_held_drew (S := fun y => y.heap[y2.heap.size]? = some (.cells #[.int .i64 lx, .int .i64 ly, .int .i64 lz] 61 (0, 0)) ∧ y.heap[y4.heap.size]? = some (.cells #[.int .i64 lx, .int .i64 ly, .int .i64 lz] 57 (0, 0))) (by kernel_rfl) (⟨hr5_1, hr5_2⟩) (fun hS0 => ?_)
  obtain ⟨y6, hy6⟩ : ∃ y, y5.drew = y := ⟨_, rfl⟩
  have HU6 := Lib.hid (show Below w.heap.size w y6 by rw [← hy6]; exact HU5.out.drew)
  have hr6_0 : y6.heap[w.heap.size]? = some (.cells #[.int .i64 r, .int .i64 g, .int .i64 b] 57 (0, 0)) := by rw [← hy6]; exact hr5_0
  have hr6_1 : y6.heap[y2.heap.size]? = some (.cells #[.int .i64 lx, .int .i64 ly, .int .i64 lz] 61 (0, 0)) := by rw [← hy6]; exact hr5_1
  have hr6_2 : y6.heap[y4.heap.size]? = some (.cells #[.int .i64 lx, .int .i64 ly, .int .i64 lz] 57 (0, 0)) := by rw [← hy6]; exact hr5_2
  rw [hy6] at hS0 ⊢
  clear hy6
  refine wpAnyH_ready (rs := [0]) (by kernel_rfl) (by simp) ?_
  refine AllReadyH.cons rfl (fun K hK => ?_) AllReadyH.nil
  go_simp
  go_wp2_with (go_at_call 20; refine (awake_any _).mono ?_; rintro e y7 ⟨rfl, hb7⟩)
  have hr7_0 := (hb7.block _ (lt_heap hr6_0)).trans hr6_0
  have hr7_1 := (hb7.block _ (lt_heap hr6_1)).trans hr6_1
  have hr7_2 := (hb7.block _ (lt_heap hr6_2)).trans hr6_2
  have HU7 := Lib.hid (HU6.out.trans (hb7.mono HU6.out.size))
  refine hK.out _ _ (⟨(hb7.block _ (lt_heap hS0.1)).trans hS0.1, (hb7.block _ (lt_heap hS0.2)).trans hS0.2⟩) (fun hS7c => ?_)
  clear hK K
  refine wpAnyH_take (i := 1) (v := ?_) rfl (by kernel_rfl) (by kernel_rfl) (by kernel_rfl) (fun _ _ _ h => h) (Or.inl ⟨by kernel_rfl, by (intro wz hSz; go_simp; try with_reducible rfl)⟩) hS7c ?_
  go_simp
  refine wpAnyH_take (i := 2) (v := ?_) rfl (by kernel_rfl) (by kernel_rfl) (by kernel_rfl) (fun _ _ _ h => h) (Or.inl ⟨by kernel_rfl, by (intro wz hSz; have c1_0 := cell_of_row _ _ 0 _ _ _ hSz.1; have c1_1 := cell_of_row _ _ 1 _ _ _ hSz.1; have c1_2 := cell_of_row _ _ 2 _ _ _ hSz.1; have c2_0 := cell_of_row _ _ 0 _ _ _ hSz.2; have c2_1 := cell_of_row _ _ 1 _ _ _ hSz.2; have c2_2 := cell_of_row _ _ 2 _ _ _ hSz.2; simp at c1_0 c1_1 c1_2 c2_0 c2_1 c2_2; go_simp; try with_reducible rfl)⟩) hS7c ?_
  go_simp
  refine wpAnyH_take (i := 4) (v := ?_) rfl (by kernel_rfl) (by kernel_rfl) (by kernel_rfl) (fun _ _ _ h => h) (Or.inl ⟨by kernel_rfl, by (intro wz hSz; have c1_0 := cell_of_row _ _ 0 _ _ _ hSz.1; have c1_1 := cell_of_row _ _ 1 _ _ _ hSz.1; have c1_2 := cell_of_row _ _ 2 _ _ _ hSz.1; have c2_0 := cell_of_row _ _ 0 _ _ _ hSz.2; have c2_1 := cell_of_row _ _ 1 _ _ _ hSz.2; have c2_2 := cell_of_row _ _ 2 _ _ _ hSz.2; simp at c1_0 c1_1 c1_2 c2_0 c2_1 c2_2; go_simp; try with_reducible rfl)⟩) hS7c ?_
  go_simp
  refine wpAnyH_ready (rs := [3]) (by kernel_rfl) (by simp) ?_
  refine AllReadyH.cons rfl (fun K hK => ?_) AllReadyH.nil
  go_simp
  go_wp2_with (go_at_call 22; refine (hfrom_any _ _ _ _).mono ?_; rintro e y8 ⟨rfl, hb8⟩)
  have hr8_0 := (hb8.block _ (lt_heap hr7_0)).trans hr7_0
  have hr8_1 := (hb8.block _ (lt_heap hr7_1)).trans hr7_1
  have hr8_2 := (hb8.block _ (lt_heap hr7_2)).trans hr7_2
  have HU8 := Lib.hid (HU7.out.trans (hb8.mono HU7.out.size))
  refine hK.out _ _ (⟨(hb8.block _ (lt_heap hS7c.1)).trans hS7c.1, (hb8.block _ (lt_heap hS7c.2)).trans hS7c.2⟩) (fun hS8c => ?_)
  clear hK K
  refine wpAnyH_take (i := 5) (v := ?_) rfl (by kernel_rfl) (by kernel_rfl) (by kernel_rfl) (fun _ _ _ h => h) (Or.inl ⟨by kernel_rfl, by (intro wz hSz; go_simp; try with_reducible rfl)⟩) hS8c ?_
  go_simp
  refine wpAnyH_take (i := 6) (v := ?_) rfl (by kernel_rfl) (by kernel_rfl) (by kernel_rfl) (fun _ _ _ h => h) (Or.inl ⟨by kernel_rfl, by (intro wz hSz; go_simp; try with_reducible rfl)⟩) hS8c ?_
  go_simp
  refine wpAnyH_take (i := 7) (v := ?_) rfl (by kernel_rfl) (by kernel_rfl) (by kernel_rfl) (fun _ _ _ h => h) (Or.inl ⟨by kernel_rfl, by (intro wz hSz; go_simp; try with_reducible rfl)⟩) hS8c ?_
  go_simp
  refine wpAnyH_take (i := 8) (v := ?_) rfl (by kernel_rfl) (by kernel_rfl) (by kernel_rfl) (fun _ _ _ h => h) (Or.inl ⟨by kernel_rfl, by (intro wz hSz; go_simp; try with_reducible rfl)⟩) hS8c ?_
  go_simp
  refine wpAnyH_take (i := 9) (v := ?_) rfl (by kernel_rfl) (by kernel_rfl) (by kernel_rfl) (fun _ _ _ h => h) (Or.inl ⟨by kernel_rfl, by (intro wz hSz; go_simp; try with_reducible rfl)⟩) hS8c ?_
  go_simp
  refine wpAnyH_take (i := 10) (v := ?_) rfl (by kernel_rfl) (by kernel_rfl) (by kernel_rfl) (fun _ _ _ h => h) (Or.inl ⟨by kernel_rfl, by (intro wz hSz; go_simp; try with_reducible rfl)⟩) hS8c ?_
  go_simp
  refine wpAnyH_take (i := 11) (v := ?_) rfl (by kernel_rfl) (by kernel_rfl) (by kernel_rfl) (fun _ _ _ h => h) (Or.inl ⟨by kernel_rfl, by (intro wz hSz; go_simp; try with_reducible rfl)⟩) hS8c ?_
  go_simp
  refine wpAnyH_take (i := 12) (v := ?_) rfl (by kernel_rfl) (by kernel_rfl) (by kernel_rfl) (fun _ _ _ h => h) (Or.inl ⟨by kernel_rfl, by (intro wz hSz; go_simp; try with_reducible rfl)⟩) hS8c ?_
  go_simp
  refine wpAnyH_take (i := 13) (v := ?_) rfl (by kernel_rfl) (by kernel_rfl) (by kernel_rfl) (fun _ _ _ h => h) (Or.inl ⟨by kernel_rfl, by (intro wz hSz; go_simp; try with_reducible rfl)⟩) hS8c ?_
  go_simp
  refine wpAnyH_take (i := 14) (v := ?_) rfl (by kernel_rfl) (by kernel_rfl) (by kernel_rfl) (fun _ _ _ h => h) (Or.inl ⟨by kernel_rfl, by (intro wz hSz; go_simp; try with_reducible rfl)⟩) hS8c ?_
  go_simp
  refine wpAnyH_take (i := 15) (v := ?_) rfl (by kernel_rfl) (by kernel_rfl) (by kernel_rfl) (fun _ _ _ h => h) (Or.inl ⟨by kernel_rfl, by (intro wz hSz; go_simp; try with_reducible rfl)⟩) hS8c ?_
  go_simp
  refine wpAnyH_take (i := 16) (v := ?_) rfl (by kernel_rfl) (by kernel_rfl) (by kernel_rfl) (fun _ _ _ h => h) (Or.inl ⟨by kernel_rfl, by (intro wz hSz; go_simp; try with_reducible rfl)⟩) hS8c ?_
  go_simp
  refine wpAnyH_take (i := 17) (v := ?_) rfl (by kernel_rfl) (by kernel_rfl) (by kernel_rfl) (fun _ _ _ h => h) (Or.inl ⟨by kernel_rfl, by (intro wz hSz; go_simp; try with_reducible rfl)⟩) hS8c ?_
  go_simp
  refine wpAnyH_take (i := 18) (v := ?_) rfl (by kernel_rfl) (by kernel_rfl) (by kernel_rfl) (fun _ _ _ h => h) (Or.inl ⟨by kernel_rfl, by (intro wz hSz; go_simp; try with_reducible rfl)⟩) hS8c ?_
  go_simp
  refine wpAnyH_take (i := 19) (v := ?_) rfl (by kernel_rfl) (by kernel_rfl) (by kernel_rfl) (fun _ _ _ h => h) (Or.inl ⟨by kernel_rfl, by (intro wz hSz; go_simp; try with_reducible rfl)⟩) hS8c ?_
  go_simp
  refine wpAnyH_done (by kernel_rfl) ?_ _
  go_wp2
  go_ret
  exact ⟨rfl, HU8.out⟩

set_option maxHeartbeats 4000000 in
set_option maxRecDepth 100000 in
theorem core_no_tf (r g b u lx ly lz : Int) (h1 : 65536 ≤ r) (h2 : ¬ u < 65536) (hA : ∀ W : World, Calls Try.prog 24 #[.agg #[.int .i64 r, .int .i64 g, .int .i64 b], .int .i64 u] W fun e' w' => e' = .returned (.tuple #[.agg #[.int .i64 lx, .int .i64 ly, .int .i64 lz], .bool false]) ∧ Below W.heap.size W w') (hB : ∀ W : World, Calls Try.prog 26 #[.agg #[.int .i64 r, .int .i64 g, .int .i64 b], .int .i64 u] W fun e' w' => e' = .returned (.tuple #[.agg #[.int .i64 lx, .int .i64 ly, .int .i64 lz], .bool false]) ∧ Below W.heap.size W w') (w : World)  : Calls Try.prog 6 #[.agg #[.int .i64 r, .int .i64 g, .int .i64 b], .int .i64 u] w fun e' w' => e' = .returned (.bool true) ∧ Below w.heap.size w w' := by
  have heq := eq_hue
  have d1 := decide_eq_true h1
  have d2 := decide_eq_false h2
  go_enter Try.func6, Try.ntmps6
  go_upto_region 1 with fail
  have hR := Au.rows1 w (.cells #[.int .i64 r, .int .i64 g, .int .i64 b] 57)
  have HUx := below_n1 w (.cells #[.int .i64 r, .int .i64 g, .int .i64 b] 57)
  obtain ⟨y0, hy0⟩ : ∃ y0, w.alloc (.cells #[.int .i64 r, .int .i64 g, .int .i64 b] 57) = y0 := ⟨_, rfl⟩
  rw [hy0] at hR HUx ⊢
  clear hy0
  have HU0 := Lib.hid HUx
  clear HUx
  have hr0_0 := hR
  clear hR
  have c0_0 := cell_of_row _ _ 0 _ _ _ hr0_0
  have c0_1 := cell_of_row _ _ 1 _ _ _ hr0_0
  have c0_2 := cell_of_row _ _ 2 _ _ _ hr0_0
  simp at c0_0 c0_1 c0_2
  go_wp2_with fail
  refine (hto_any _ _ _ _).mono ?_
  rintro e y1 ⟨rfl, hb1⟩
  clear c0_0 c0_1 c0_2
  have hr1_0 := (hb1.block _ (lt_heap hr0_0)).trans hr0_0
  have HU1 := Lib.hid (HU0.out.trans (hb1.mono HU0.out.size))
  clear hr0_0 HU0
  go_wp2_with fail
  refine (hA _).mono ?_
  rintro e y2 ⟨rfl, hb2⟩
  have hr2_0 := (hb2.block _ (lt_heap hr1_0)).trans hr1_0
  have HU2 := Lib.hid (HU1.out.trans (hb2.mono HU1.out.size))
  clear hr1_0 HU1
  have c0_0 := cell_of_row _ _ 0 _ _ _ hr2_0
  have c0_1 := cell_of_row _ _ 1 _ _ _ hr2_0
  have c0_2 := cell_of_row _ _ 2 _ _ _ hr2_0
  simp at c0_0 c0_1 c0_2
  have HA := Lib.hid (heap_alloc_last y2 (.cells #[.int .i64 0, .int .i64 0, .int .i64 0] 61))
  have hHi := Lib.hid (show (Try.prog.info? 61).map (·.size) = some (#[.int .i64 lx, .int .i64 ly, .int .i64 lz] : Array Value).size by kernel_rfl)
  have hHz := Lib.hid (show (#[.int .i64 0, .int .i64 0, .int .i64 0] : Array Value).size = (#[.int .i64 lx, .int .i64 ly, .int .i64 lz] : Array Value).size from rfl)
  have hHo := Lib.hid (show (#[.int .i64 lx, .int .i64 ly, .int .i64 lz] : Array Value).all (·.oneCell') = true by simp [Value.oneCell'])
  go_upto_region 2 with (refine Au.wpList_store_row rfl 61 (.tmp 5) (.tmp 15) rfl (y2.alloc (.cells #[.int .i64 0, .int .i64 0, .int .i64 0] 61)) #[.int .i64 0, .int .i64 0, .int .i64 0] #[.int .i64 lx, .int .i64 ly, .int .i64 lz] (y2.heap.size) 61 HA.out rfl rfl hHi.out hHz.out hHo.out ?_)
  clear c0_0 c0_1 c0_2
  clear hHi hHz hHo
  have hN := setRow_heap _ (y2.heap.size) _ #[.int .i64 lx, .int .i64 ly, .int .i64 lz] _ _ HA.out
  clear HA
  have hsz := HU2.out.size
  have hb := below_n1 y2 (.cells #[.int .i64 0, .int .i64 0, .int .i64 0] 61)
  have HUx := below_setRow (g := y2.heap.size) (HU2.out.trans (hb.mono HU2.out.size)) (by omega) #[.int .i64 lx, .int .i64 ly, .int .i64 lz]
  have hO : ∀ kk, kk < y2.heap.size → ((y2.alloc (.cells #[.int .i64 0, .int .i64 0, .int .i64 0] 61)).setRow (y2.heap.size) #[.int .i64 lx, .int .i64 ly, .int .i64 lz]).heap[kk]? = y2.heap[kk]? := fun kk hk => (setRow_other _ _ _ _ (by omega)).trans (hb.block _ hk)
  obtain ⟨y3, hy3⟩ : ∃ y, (y2.alloc (.cells #[.int .i64 0, .int .i64 0, .int .i64 0] 61)).setRow (y2.heap.size) #[.int .i64 lx, .int .i64 ly, .int .i64 lz] = y := ⟨_, rfl⟩
  have hs3 : y3.heap.size = y2.heap.size + 1 := by rw [← hy3]; simp [World.setRow]
  rw [hy3] at hN HUx hO ⊢
  clear hy3 hsz hb
  have HU3 := Lib.hid HUx
  clear HUx
  have hl3_0 := lt_heap hr2_0
  have hr3_0 := (hO _ hl3_0).trans hr2_0
  have hr3_1 := hN
  clear hN hO
  clear hr2_0 HU2
  have c0_0 := cell_of_row _ _ 0 _ _ _ hr3_0
  have c0_1 := cell_of_row _ _ 1 _ _ _ hr3_0
  have c0_2 := cell_of_row _ _ 2 _ _ _ hr3_0
  simp at c0_0 c0_1 c0_2
  go_wp2_with fail
  refine (hB _).mono ?_
  rintro e y4 ⟨rfl, hb4⟩
  clear c0_0 c0_1 c0_2
  have hr4_0 := (hb4.block _ (lt_heap hr3_0)).trans hr3_0
  have hr4_1 := (hb4.block _ (lt_heap hr3_1)).trans hr3_1
  have HU4 := Lib.hid (HU3.out.trans (hb4.mono HU3.out.size))
  clear hr3_0 hr3_1 HU3
  have c0_0 := cell_of_row _ _ 0 _ _ _ hr4_0
  have c0_1 := cell_of_row _ _ 1 _ _ _ hr4_0
  have c0_2 := cell_of_row _ _ 2 _ _ _ hr4_0
  have c1_0 := cell_of_row _ _ 0 _ _ _ hr4_1
  have c1_1 := cell_of_row _ _ 1 _ _ _ hr4_1
  have c1_2 := cell_of_row _ _ 2 _ _ _ hr4_1
  simp at c0_0 c0_1 c0_2 c1_0 c1_1 c1_2
  have HA := Lib.hid (heap_alloc_last y4 (.cells #[.int .i64 0, .int .i64 0, .int .i64 0] 57))
  have hHi := Lib.hid (show (Try.prog.info? 57).map (·.size) = some (#[.int .i64 lx, .int .i64 ly, .int .i64 lz] : Array Value).size by kernel_rfl)
  have hHz := Lib.hid (show (#[.int .i64 0, .int .i64 0, .int .i64 0] : Array Value).size = (#[.int .i64 lx, .int .i64 ly, .int .i64 lz] : Array Value).size from rfl)
  have hHo := Lib.hid (show (#[.int .i64 lx, .int .i64 ly, .int .i64 lz] : Array Value).all (·.oneCell') = true by simp [Value.oneCell'])
  go_upto_region 3 with (refine Au.wpList_store_row rfl 57 (.tmp 7) (.tmp 21) rfl (y4.alloc (.cells #[.int .i64 0, .int .i64 0, .int .i64 0] 57)) #[.int .i64 0, .int .i64 0, .int .i64 0] #[.int .i64 lx, .int .i64 ly, .int .i64 lz] (y4.heap.size) 57 HA.out rfl rfl hHi.out hHz.out hHo.out ?_)
  clear c0_0 c0_1 c0_2 c1_0 c1_1 c1_2
  clear hHi hHz hHo
  have hN := setRow_heap _ (y4.heap.size) _ #[.int .i64 lx, .int .i64 ly, .int .i64 lz] _ _ HA.out
  clear HA
  have hsz := HU4.out.size
  have hb := below_n1 y4 (.cells #[.int .i64 0, .int .i64 0, .int .i64 0] 57)
  have HUx := below_setRow (g := y4.heap.size) (HU4.out.trans (hb.mono HU4.out.size)) (by omega) #[.int .i64 lx, .int .i64 ly, .int .i64 lz]
  have hO : ∀ kk, kk < y4.heap.size → ((y4.alloc (.cells #[.int .i64 0, .int .i64 0, .int .i64 0] 57)).setRow (y4.heap.size) #[.int .i64 lx, .int .i64 ly, .int .i64 lz]).heap[kk]? = y4.heap[kk]? := fun kk hk => (setRow_other _ _ _ _ (by omega)).trans (hb.block _ hk)
  obtain ⟨y5, hy5⟩ : ∃ y, (y4.alloc (.cells #[.int .i64 0, .int .i64 0, .int .i64 0] 57)).setRow (y4.heap.size) #[.int .i64 lx, .int .i64 ly, .int .i64 lz] = y := ⟨_, rfl⟩
  have hs5 : y5.heap.size = y4.heap.size + 1 := by rw [← hy5]; simp [World.setRow]
  rw [hy5] at hN HUx hO ⊢
  clear hy5 hsz hb
  have HU5 := Lib.hid HUx
  clear HUx
  have hl5_0 := lt_heap hr4_0
  have hr5_0 := (hO _ hl5_0).trans hr4_0
  have hl5_1 := lt_heap hr4_1
  have hr5_1 := (hO _ hl5_1).trans hr4_1
  have hr5_2 := hN
  clear hN hO
  clear hr4_0 hr4_1 HU4
  have c0_0 := cell_of_row _ _ 0 _ _ _ hr5_0
  have c0_1 := cell_of_row _ _ 1 _ _ _ hr5_0
  have c0_2 := cell_of_row _ _ 2 _ _ _ hr5_0
  simp at c0_0 c0_1 c0_2
  go_upto_region 4 with fail
  clear c0_0 c0_1 c0_2
  refine wp_region_held_drew (S := fun y => y.heap[y2.heap.size]? = some (.cells #[.int .i64 lx, .int .i64 ly, .int .i64 lz] 61 (0, 0)) ∧ y.heap[y4.heap.size]? = some (.cells #[.int .i64 lx, .int .i64 ly, .int .i64 lz] 57 (0, 0))) (by kernel_rfl) (⟨hr5_1, hr5_2⟩) (fun hS0 => ?_)
  obtain ⟨y6, hy6⟩ : ∃ y, y5.drew = y := ⟨_, rfl⟩
  have HU6 := Lib.hid (show Below w.heap.size w y6 by rw [← hy6]; exact HU5.out.drew)
  have hr6_0 : y6.heap[w.heap.size]? = some (.cells #[.int .i64 r, .int .i64 g, .int .i64 b] 57 (0, 0)) := by rw [← hy6]; exact hr5_0
  have hr6_1 : y6.heap[y2.heap.size]? = some (.cells #[.int .i64 lx, .int .i64 ly, .int .i64 lz] 61 (0, 0)) := by rw [← hy6]; exact hr5_1
  have hr6_2 : y6.heap[y4.heap.size]? = some (.cells #[.int .i64 lx, .int .i64 ly, .int .i64 lz] 57 (0, 0)) := by rw [← hy6]; exact hr5_2
  rw [hy6] at hS0 ⊢
  clear hy6
  refine wpAnyH_ready (rs := [0]) (by kernel_rfl) (by simp) ?_
  refine AllReadyH.cons rfl (fun K hK => ?_) AllReadyH.nil
  go_simp
  go_wp2_with (go_at_call 20; refine (awake_any _).mono ?_; rintro e y7 ⟨rfl, hb7⟩)
  have hr7_0 := (hb7.block _ (lt_heap hr6_0)).trans hr6_0
  have hr7_1 := (hb7.block _ (lt_heap hr6_1)).trans hr6_1
  have hr7_2 := (hb7.block _ (lt_heap hr6_2)).trans hr6_2
  have HU7 := Lib.hid (HU6.out.trans (hb7.mono HU6.out.size))
  refine hK.out _ _ (⟨(hb7.block _ (lt_heap hS0.1)).trans hS0.1, (hb7.block _ (lt_heap hS0.2)).trans hS0.2⟩) (fun hS7c => ?_)
  clear hK K
  refine wpAnyH_take (i := 1) (v := ?_) rfl (by kernel_rfl) (by kernel_rfl) (by kernel_rfl) (fun _ _ _ h => h) (Or.inl ⟨by kernel_rfl, by (intro wz hSz; go_simp; try with_reducible rfl)⟩) hS7c ?_
  go_simp
  refine wpAnyH_take (i := 2) (v := ?_) rfl (by kernel_rfl) (by kernel_rfl) (by kernel_rfl) (fun _ _ _ h => h) (Or.inl ⟨by kernel_rfl, by (intro wz hSz; have c1_0 := cell_of_row _ _ 0 _ _ _ hSz.1; have c1_1 := cell_of_row _ _ 1 _ _ _ hSz.1; have c1_2 := cell_of_row _ _ 2 _ _ _ hSz.1; have c2_0 := cell_of_row _ _ 0 _ _ _ hSz.2; have c2_1 := cell_of_row _ _ 1 _ _ _ hSz.2; have c2_2 := cell_of_row _ _ 2 _ _ _ hSz.2; simp at c1_0 c1_1 c1_2 c2_0 c2_1 c2_2; go_simp; try with_reducible rfl)⟩) hS7c ?_
  go_simp
  refine wpAnyH_take (i := 4) (v := ?_) rfl (by kernel_rfl) (by kernel_rfl) (by kernel_rfl) (fun _ _ _ h => h) (Or.inl ⟨by kernel_rfl, by (intro wz hSz; have c1_0 := cell_of_row _ _ 0 _ _ _ hSz.1; have c1_1 := cell_of_row _ _ 1 _ _ _ hSz.1; have c1_2 := cell_of_row _ _ 2 _ _ _ hSz.1; have c2_0 := cell_of_row _ _ 0 _ _ _ hSz.2; have c2_1 := cell_of_row _ _ 1 _ _ _ hSz.2; have c2_2 := cell_of_row _ _ 2 _ _ _ hSz.2; simp at c1_0 c1_1 c1_2 c2_0 c2_1 c2_2; go_simp; try with_reducible rfl)⟩) hS7c ?_
  go_simp
  refine wpAnyH_ready (rs := [3]) (by kernel_rfl) (by simp) ?_
  refine AllReadyH.cons rfl (fun K hK => ?_) AllReadyH.nil
  go_simp
  go_wp2_with (go_at_call 22; refine (hfrom_any _ _ _ _).mono ?_; rintro e y8 ⟨rfl, hb8⟩)
  have hr8_0 := (hb8.block _ (lt_heap hr7_0)).trans hr7_0
  have hr8_1 := (hb8.block _ (lt_heap hr7_1)).trans hr7_1
  have hr8_2 := (hb8.block _ (lt_heap hr7_2)).trans hr7_2
  have HU8 := Lib.hid (HU7.out.trans (hb8.mono HU7.out.size))
  refine hK.out _ _ (⟨(hb8.block _ (lt_heap hS7c.1)).trans hS7c.1, (hb8.block _ (lt_heap hS7c.2)).trans hS7c.2⟩) (fun hS8c => ?_)
  clear hK K
  refine wpAnyH_take (i := 5) (v := ?_) rfl (by kernel_rfl) (by kernel_rfl) (by kernel_rfl) (fun _ _ _ h => h) (Or.inl ⟨by kernel_rfl, by (intro wz hSz; go_simp; try with_reducible rfl)⟩) hS8c ?_
  go_simp
  refine wpAnyH_take (i := 6) (v := ?_) rfl (by kernel_rfl) (by kernel_rfl) (by kernel_rfl) (fun _ _ _ h => h) (Or.inl ⟨by kernel_rfl, by (intro wz hSz; go_simp; try with_reducible rfl)⟩) hS8c ?_
  go_simp
  refine wpAnyH_take (i := 7) (v := ?_) rfl (by kernel_rfl) (by kernel_rfl) (by kernel_rfl) (fun _ _ _ h => h) (Or.inl ⟨by kernel_rfl, by (intro wz hSz; go_simp; try with_reducible rfl)⟩) hS8c ?_
  go_simp
  refine wpAnyH_take (i := 8) (v := ?_) rfl (by kernel_rfl) (by kernel_rfl) (by kernel_rfl) (fun _ _ _ h => h) (Or.inl ⟨by kernel_rfl, by (intro wz hSz; go_simp; try with_reducible rfl)⟩) hS8c ?_
  go_simp
  refine wpAnyH_take (i := 9) (v := ?_) rfl (by kernel_rfl) (by kernel_rfl) (by kernel_rfl) (fun _ _ _ h => h) (Or.inl ⟨by kernel_rfl, by (intro wz hSz; go_simp; try with_reducible rfl)⟩) hS8c ?_
  go_simp
  refine wpAnyH_take (i := 10) (v := ?_) rfl (by kernel_rfl) (by kernel_rfl) (by kernel_rfl) (fun _ _ _ h => h) (Or.inl ⟨by kernel_rfl, by (intro wz hSz; go_simp; try with_reducible rfl)⟩) hS8c ?_
  go_simp
  refine wpAnyH_take (i := 11) (v := ?_) rfl (by kernel_rfl) (by kernel_rfl) (by kernel_rfl) (fun _ _ _ h => h) (Or.inl ⟨by kernel_rfl, by (intro wz hSz; go_simp; try with_reducible rfl)⟩) hS8c ?_
  go_simp
  refine wpAnyH_take (i := 12) (v := ?_) rfl (by kernel_rfl) (by kernel_rfl) (by kernel_rfl) (fun _ _ _ h => h) (Or.inl ⟨by kernel_rfl, by (intro wz hSz; go_simp; try with_reducible rfl)⟩) hS8c ?_
  go_simp
  refine wpAnyH_take (i := 13) (v := ?_) rfl (by kernel_rfl) (by kernel_rfl) (by kernel_rfl) (fun _ _ _ h => h) (Or.inl ⟨by kernel_rfl, by (intro wz hSz; go_simp; try with_reducible rfl)⟩) hS8c ?_
  go_simp
  refine wpAnyH_take (i := 14) (v := ?_) rfl (by kernel_rfl) (by kernel_rfl) (by kernel_rfl) (fun _ _ _ h => h) (Or.inl ⟨by kernel_rfl, by (intro wz hSz; go_simp; try with_reducible rfl)⟩) hS8c ?_
  go_simp
  refine wpAnyH_take (i := 15) (v := ?_) rfl (by kernel_rfl) (by kernel_rfl) (by kernel_rfl) (fun _ _ _ h => h) (Or.inl ⟨by kernel_rfl, by (intro wz hSz; go_simp; try with_reducible rfl)⟩) hS8c ?_
  go_simp
  refine wpAnyH_take (i := 16) (v := ?_) rfl (by kernel_rfl) (by kernel_rfl) (by kernel_rfl) (fun _ _ _ h => h) (Or.inl ⟨by kernel_rfl, by (intro wz hSz; go_simp; try with_reducible rfl)⟩) hS8c ?_
  go_simp
  refine wpAnyH_take (i := 17) (v := ?_) rfl (by kernel_rfl) (by kernel_rfl) (by kernel_rfl) (fun _ _ _ h => h) (Or.inl ⟨by kernel_rfl, by (intro wz hSz; go_simp; try with_reducible rfl)⟩) hS8c ?_
  go_simp
  refine wpAnyH_take (i := 18) (v := ?_) rfl (by kernel_rfl) (by kernel_rfl) (by kernel_rfl) (fun _ _ _ h => h) (Or.inl ⟨by kernel_rfl, by (intro wz hSz; go_simp; try with_reducible rfl)⟩) hS8c ?_
  go_simp
  refine wpAnyH_take (i := 19) (v := ?_) rfl (by kernel_rfl) (by kernel_rfl) (by kernel_rfl) (fun _ _ _ h => h) (Or.inl ⟨by kernel_rfl, by (intro wz hSz; go_simp; try with_reducible rfl)⟩) hS8c ?_
  go_simp
  refine wpAnyH_done (by kernel_rfl) ?_ _
  go_wp2
  go_ret
  exact ⟨rfl, HU8.out⟩

theorem rlives_yes (r g b u : Int) (h : ¬ max 16384 (Pl.unit (max (max r g) b)) ≤ Pl.unit u) : (∀ W : World, Calls Try.prog 26 #[.agg #[.int .i64 r, .int .i64 g, .int .i64 b], .int .i64 u] W fun e' w' => e' = .returned (.tuple #[.agg #[.int .i64 (Pl.div r (max 16384 (Pl.unit (max (max r g) b)))), .int .i64 (Pl.div g (max 16384 (Pl.unit (max (max r g) b)))), .int .i64 (Pl.div b (max 16384 (Pl.unit (max (max r g) b))))], .bool true]) ∧ Below W.heap.size W w') := by
  intro W
  by_cases h1 : r < g
  · skip
    by_cases h2 : g < b
    · skip
      by_cases h3 : Pl.unit b < 16384
      · skip
        have hm : max (max r g) b = b := by omega
        have hc : max 16384 (Pl.unit (max (max r g) b)) = 16384 := by rw [hm]; omega
        rw [hc] at h ⊢
        exact rlives7 r g b u h1 h2 h3 h W
      · skip
        have hm : max (max r g) b = b := by omega
        have hc : max 16384 (Pl.unit (max (max r g) b)) = Pl.unit b := by rw [hm]; omega
        rw [hc] at h ⊢
        exact rlives3 r g b u h1 h2 h3 h W
    · skip
      by_cases h3 : Pl.unit g < 16384
      · skip
        have hm : max (max r g) b = g := by omega
        have hc : max 16384 (Pl.unit (max (max r g) b)) = 16384 := by rw [hm]; omega
        rw [hc] at h ⊢
        exact rlives5 r g b u h1 h2 h3 h W
      · skip
        have hm : max (max r g) b = g := by omega
        have hc : max 16384 (Pl.unit (max (max r g) b)) = Pl.unit g := by rw [hm]; omega
        rw [hc] at h ⊢
        exact rlives1 r g b u h1 h2 h3 h W
  · skip
    by_cases h2 : r < b
    · skip
      by_cases h3 : Pl.unit b < 16384
      · skip
        have hm : max (max r g) b = b := by omega
        have hc : max 16384 (Pl.unit (max (max r g) b)) = 16384 := by rw [hm]; omega
        rw [hc] at h ⊢
        exact rlives6 r g b u h1 h2 h3 h W
      · skip
        have hm : max (max r g) b = b := by omega
        have hc : max 16384 (Pl.unit (max (max r g) b)) = Pl.unit b := by rw [hm]; omega
        rw [hc] at h ⊢
        exact rlives2 r g b u h1 h2 h3 h W
    · skip
      by_cases h3 : Pl.unit r < 16384
      · skip
        have hm : max (max r g) b = r := by omega
        have hc : max 16384 (Pl.unit (max (max r g) b)) = 16384 := by rw [hm]; omega
        rw [hc] at h ⊢
        exact rlives4 r g b u h1 h2 h3 h W
      · skip
        have hm : max (max r g) b = r := by omega
        have hc : max 16384 (Pl.unit (max (max r g) b)) = Pl.unit r := by rw [hm]; omega
        rw [hc] at h ⊢
        exact rlives0 r g b u h1 h2 h3 h W

theorem rlives_no (r g b u : Int) (h : max 16384 (Pl.unit (max (max r g) b)) ≤ Pl.unit u) : (∀ W : World, Calls Try.prog 26 #[.agg #[.int .i64 r, .int .i64 g, .int .i64 b], .int .i64 u] W fun e' w' => e' = .returned (.tuple #[.agg #[.int .i64 0, .int .i64 0, .int .i64 0], .bool false]) ∧ Below W.heap.size W w') := by
  intro W
  by_cases h1 : r < g
  · skip
    by_cases h2 : g < b
    · skip
      by_cases h3 : Pl.unit b < 16384
      · skip
        have hm : max (max r g) b = b := by omega
        have hc : max 16384 (Pl.unit (max (max r g) b)) = 16384 := by rw [hm]; omega
        rw [hc] at h
        exact rlives15 r g b u h1 h2 h3 h W
      · skip
        have hm : max (max r g) b = b := by omega
        have hc : max 16384 (Pl.unit (max (max r g) b)) = Pl.unit b := by rw [hm]; omega
        rw [hc] at h
        exact rlives11 r g b u h1 h2 h3 h W
    · skip
      by_cases h3 : Pl.unit g < 16384
      · skip
        have hm : max (max r g) b = g := by omega
        have hc : max 16384 (Pl.unit (max (max r g) b)) = 16384 := by rw [hm]; omega
        rw [hc] at h
        exact rlives13 r g b u h1 h2 h3 h W
      · skip
        have hm : max (max r g) b = g := by omega
        have hc : max 16384 (Pl.unit (max (max r g) b)) = Pl.unit g := by rw [hm]; omega
        rw [hc] at h
        exact rlives9 r g b u h1 h2 h3 h W
  · skip
    by_cases h2 : r < b
    · skip
      by_cases h3 : Pl.unit b < 16384
      · skip
        have hm : max (max r g) b = b := by omega
        have hc : max 16384 (Pl.unit (max (max r g) b)) = 16384 := by rw [hm]; omega
        rw [hc] at h
        exact rlives14 r g b u h1 h2 h3 h W
      · skip
        have hm : max (max r g) b = b := by omega
        have hc : max 16384 (Pl.unit (max (max r g) b)) = Pl.unit b := by rw [hm]; omega
        rw [hc] at h
        exact rlives10 r g b u h1 h2 h3 h W
    · skip
      by_cases h3 : Pl.unit r < 16384
      · skip
        have hm : max (max r g) b = r := by omega
        have hc : max 16384 (Pl.unit (max (max r g) b)) = 16384 := by rw [hm]; omega
        rw [hc] at h
        exact rlives12 r g b u h1 h2 h3 h W
      · skip
        have hm : max (max r g) b = r := by omega
        have hc : max 16384 (Pl.unit (max (max r g) b)) = Pl.unit r := by rw [hm]; omega
        rw [hc] at h
        exact rlives8 r g b u h1 h2 h3 h W

theorem walk (r g b u : Int) (w : World) : Calls Try.prog 6 #[.agg #[.int .i64 r, .int .i64 g, .int .i64 b], .int .i64 u] w fun e' w' => e' = .returned (.bool true) ∧ Below w.heap.size w w' := by
  by_cases h : max 16384 (Pl.unit (max (max r g) b)) ≤ Pl.unit u
  · have hA := fun W => lives_no r g b u _ _ rfl (Lib.hid rfl) h W
    have hB := rlives_no r g b u h
    by_cases h1 : 65536 ≤ r
    · by_cases h2 : u < 65536
      · exfalso
        have hu : Pl.unit (max (max r g) b) = 65536 := by unfold Pl.unit; split <;> (try split) <;> omega
        rw [hu] at h
        have : Pl.unit u < 65536 := by unfold Pl.unit; split <;> (try split) <;> omega
        omega
      · exact core_no_tf r g b u 0 0 0 h1 h2 hA hB w
    · exact core_no_f r g b u 0 0 0 h1 hA hB w
  · have hA := fun W => lives_yes r g b u _ _ rfl (Lib.hid rfl) h W
    have hB := rlives_yes r g b u h
    by_cases h1 : 65536 ≤ r
    · by_cases h2 : u < 65536
      · exact core_ok_tt r g b u _ _ _ h1 h2 hA hB w
      · exact core_ok_tf r g b u _ _ _ h1 h2 hA hB w
    · exact core_ok_f r g b u _ _ _ h1 hA hB w

end Go.Proofs.Ytplcbdmiccpnnaa.coatLivesW
