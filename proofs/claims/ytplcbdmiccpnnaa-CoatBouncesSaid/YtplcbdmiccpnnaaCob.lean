/- Surfaces: how the document turns a ray, over letters. -/
import Derived.Test.YtplcbdmiccpnnaaAu
namespace Go.Proofs.Ytplcbdmiccpnnaa.Co
open Go.RowKit Go.Proofs.Ytplcbdmiccpnnaa Go.Proofs.Ytplcbdmiccpnnaa.Wa Go.Proofs.Ytplcbdmiccpnnaa.Ve Go.Proofs.Ytplcbdmiccpnnaa.Au
set_option linter.unusedVariables false
set_option linter.unusedSimpArgs false

set_option maxHeartbeats 4000000 in
set_option maxRecDepth 100000 in
theorem rbounce0_pos (c1 c2 c3 ro d1_ d2_ d3_ n1 n2 n3 u v x1 x2 x3 z : Int)
    (hD : ∀ W : World, Calls Try.prog 36 #[.agg #[.int .i64 n1, .int .i64 n2, .int .i64 n3], .int .i64 u, .int .i64 v] W fun e' w' => e' = .returned (.agg #[.int .i64 x1, .int .i64 x2, .int .i64 x3]) ∧ Below W.heap.size W w')
    (hT : ∀ W : World, Calls Try.prog 41 #[.agg #[.int .i64 x1, .int .i64 x2, .int .i64 x3], .agg #[.int .i64 n1, .int .i64 n2, .int .i64 n3]] W fun e' w' => e' = .returned (.int .i64 z) ∧ Below W.heap.size W w')
    (hz : ¬ z ≤ 0) (w : World)  : Calls Try.prog 19 #[.agg #[.int .i64 0, .int .i64 c1, .int .i64 c2, .int .i64 c3, .int .i64 ro], .agg #[.int .i64 d1_, .int .i64 d2_, .int .i64 d3_], .agg #[.int .i64 n1, .int .i64 n2, .int .i64 n3], .int .i64 u, .int .i64 v] w fun e' w' => e' = .returned (.agg #[.int .i64 x1, .int .i64 x2, .int .i64 x3, .int .i64 c1, .int .i64 c2, .int .i64 c3, .bool true, .bool false]) ∧ Below w.heap.size w w' := by
  have dz := decide_eq_false hz
  go_enter Try.func19, Try.ntmps19
  go_upto_region 1 with fail
  have hR := Au.rows4 w (.cells #[.int .i64 0, .int .i64 c1, .int .i64 c2, .int .i64 c3, .int .i64 ro] 59) (.cells #[.int .i64 d1_, .int .i64 d2_, .int .i64 d3_] 47) (.cells #[.int .i64 n1, .int .i64 n2, .int .i64 n3] 47) (.cells #[.int .i64 0, .int .i64 0, .int .i64 0, .int .i64 0, .int .i64 0, .int .i64 0, .bool false, .bool false] 70)
  have HUx := below_n4 w (.cells #[.int .i64 0, .int .i64 c1, .int .i64 c2, .int .i64 c3, .int .i64 ro] 59) (.cells #[.int .i64 d1_, .int .i64 d2_, .int .i64 d3_] 47) (.cells #[.int .i64 n1, .int .i64 n2, .int .i64 n3] 47) (.cells #[.int .i64 0, .int .i64 0, .int .i64 0, .int .i64 0, .int .i64 0, .int .i64 0, .bool false, .bool false] 70)
  obtain ⟨y0, hy0⟩ : ∃ y0, (((w.alloc (.cells #[.int .i64 0, .int .i64 c1, .int .i64 c2, .int .i64 c3, .int .i64 ro] 59)).alloc (.cells #[.int .i64 d1_, .int .i64 d2_, .int .i64 d3_] 47)).alloc (.cells #[.int .i64 n1, .int .i64 n2, .int .i64 n3] 47)).alloc (.cells #[.int .i64 0, .int .i64 0, .int .i64 0, .int .i64 0, .int .i64 0, .int .i64 0, .bool false, .bool false] 70) = y0 := ⟨_, rfl⟩
  rw [hy0] at hR HUx ⊢
  clear hy0
  have HU0 := Lib.hid HUx
  clear HUx
  obtain ⟨hr0_0, hr0_1, hr0_2, hr0_3⟩ := hR
  go_upto_region 2 with fail
  have hb1 := below_n1 y0 (.cells #[.int .i64 0, .int .i64 0, .int .i64 0] 47)
  have hN := heap_alloc_last y0 (.cells #[.int .i64 0, .int .i64 0, .int .i64 0] 47)
  obtain ⟨y1, hy1⟩ : ∃ y, y0.alloc (.cells #[.int .i64 0, .int .i64 0, .int .i64 0] 47) = y := ⟨_, rfl⟩
  have hs1 : y1.heap.size = y0.heap.size + 1 := by rw [← hy1]; simp
  rw [hy1] at hb1 hN ⊢
  clear hy1
  have hl1_0 := lt_heap hr0_0
  have hl1_1 := lt_heap hr0_1
  have hl1_2 := lt_heap hr0_2
  have hl1_3 := lt_heap hr0_3
  have hr1_0 := (hb1.block _ (lt_heap hr0_0)).trans hr0_0
  have hr1_1 := (hb1.block _ (lt_heap hr0_1)).trans hr0_1
  have hr1_2 := (hb1.block _ (lt_heap hr0_2)).trans hr0_2
  have hr1_3 := (hb1.block _ (lt_heap hr0_3)).trans hr0_3
  have HU1 := Lib.hid (HU0.out.trans (hb1.mono HU0.out.size))
  clear hr0_0 hr0_1 hr0_2 hr0_3 HU0
  have hr1_4 := hN
  clear hN
  have c0_0 := cell_of_row _ _ 0 _ _ _ hr1_0
  have c0_1 := cell_of_row _ _ 1 _ _ _ hr1_0
  have c0_2 := cell_of_row _ _ 2 _ _ _ hr1_0
  have c0_3 := cell_of_row _ _ 3 _ _ _ hr1_0
  have c0_4 := cell_of_row _ _ 4 _ _ _ hr1_0
  have c2_0 := cell_of_row _ _ 0 _ _ _ hr1_2
  have c2_1 := cell_of_row _ _ 1 _ _ _ hr1_2
  have c2_2 := cell_of_row _ _ 2 _ _ _ hr1_2
  simp at c0_0 c0_1 c0_2 c0_3 c0_4 c2_0 c2_1 c2_2
  go_upto_region 3 with fail
  clear c0_0 c0_1 c0_2 c0_3 c0_4 c2_0 c2_1 c2_2
  have c2_0 := cell_of_row _ _ 0 _ _ _ hr1_2
  have c2_1 := cell_of_row _ _ 1 _ _ _ hr1_2
  have c2_2 := cell_of_row _ _ 2 _ _ _ hr1_2
  simp at c2_0 c2_1 c2_2
  go_wp2_with fail
  refine (hD _).mono ?_
  rintro e y2 ⟨rfl, hb2⟩
  clear c2_0 c2_1 c2_2
  have hr2_0 := (hb2.block _ (lt_heap hr1_0)).trans hr1_0
  have hr2_1 := (hb2.block _ (lt_heap hr1_1)).trans hr1_1
  have hr2_2 := (hb2.block _ (lt_heap hr1_2)).trans hr1_2
  have hr2_3 := (hb2.block _ (lt_heap hr1_3)).trans hr1_3
  have hr2_4 := (hb2.block _ (lt_heap hr1_4)).trans hr1_4
  have HU2 := Lib.hid (HU1.out.trans (hb2.mono HU1.out.size))
  clear hr1_0 hr1_1 hr1_2 hr1_3 hr1_4 HU1
  have hHr := Lib.hid hr2_4
  have hHi := Lib.hid (show (Try.prog.info? 47).map (·.size) = some (#[.int .i64 x1, .int .i64 x2, .int .i64 x3] : Array Value).size by kernel_rfl)
  have hHz := Lib.hid (show (#[.int .i64 0, .int .i64 0, .int .i64 0] : Array Value).size = (#[.int .i64 x1, .int .i64 x2, .int .i64 x3] : Array Value).size from rfl)
  have hHo := Lib.hid (show (#[.int .i64 x1, .int .i64 x2, .int .i64 x3] : Array Value).all (·.oneCell') = true by simp [Value.oneCell'])
  go_upto_region 9 with (first | (refine Au.wpList_store_row rfl 47 (.tmp 11) (.tmp 18) rfl y2 #[.int .i64 0, .int .i64 0, .int .i64 0] #[.int .i64 x1, .int .i64 x2, .int .i64 x3] (y0.heap.size) 47 hHr.out rfl rfl hHi.out hHz.out hHo.out ?_))
  clear hHr hHi hHz hHo
  have hN := setRow_heap _ (y0.heap.size) _ #[.int .i64 x1, .int .i64 x2, .int .i64 x3] _ _ hr2_4
  have hsz := HU2.out.size
  have HUx := below_setRow (g := y0.heap.size) HU2.out (by first | omega | (simp at *; omega)) #[.int .i64 x1, .int .i64 x2, .int .i64 x3]
  have hO : ∀ kk, kk ≠ y0.heap.size → (y2.setRow (y0.heap.size) #[.int .i64 x1, .int .i64 x2, .int .i64 x3]).heap[kk]? = y2.heap[kk]? := fun kk hk => setRow_other _ _ _ _ hk
  obtain ⟨y3, hy3⟩ : ∃ y, y2.setRow (y0.heap.size) #[.int .i64 x1, .int .i64 x2, .int .i64 x3] = y := ⟨_, rfl⟩
  rw [hy3] at hN HUx hO ⊢
  clear hy3 hsz
  have HU3 := Lib.hid HUx
  clear HUx
  have hr3_0 := (hO _ (by omega)).trans hr2_0
  have hr3_1 := (hO _ (by omega)).trans hr2_1
  have hr3_2 := (hO _ (by omega)).trans hr2_2
  have hr3_3 := (hO _ (by omega)).trans hr2_3
  have hr3_4 := hN
  clear hN hO
  clear hr2_0 hr2_1 hr2_2 hr2_3 hr2_4 HU2
  have c2_0 := cell_of_row _ _ 0 _ _ _ hr3_2
  have c2_1 := cell_of_row _ _ 1 _ _ _ hr3_2
  have c2_2 := cell_of_row _ _ 2 _ _ _ hr3_2
  have c4_0 := cell_of_row _ _ 0 _ _ _ hr3_4
  have c4_1 := cell_of_row _ _ 1 _ _ _ hr3_4
  have c4_2 := cell_of_row _ _ 2 _ _ _ hr3_4
  simp at c2_0 c2_1 c2_2 c4_0 c4_1 c4_2
  go_wp2_with fail
  refine (hT _).mono ?_
  rintro e y4 ⟨rfl, hb4⟩
  clear c2_0 c2_1 c2_2 c4_0 c4_1 c4_2
  have hr4_0 := (hb4.block _ (lt_heap hr3_0)).trans hr3_0
  have hr4_1 := (hb4.block _ (lt_heap hr3_1)).trans hr3_1
  have hr4_2 := (hb4.block _ (lt_heap hr3_2)).trans hr3_2
  have hr4_3 := (hb4.block _ (lt_heap hr3_3)).trans hr3_3
  have hr4_4 := (hb4.block _ (lt_heap hr3_4)).trans hr3_4
  have HU4 := Lib.hid (HU3.out.trans (hb4.mono HU3.out.size))
  clear hr3_0 hr3_1 hr3_2 hr3_3 hr3_4 HU3
  go_upto_region 11 with fail
  have c0_0 := cell_of_row _ _ 0 _ _ _ hr4_0
  have c0_1 := cell_of_row _ _ 1 _ _ _ hr4_0
  have c0_2 := cell_of_row _ _ 2 _ _ _ hr4_0
  have c0_3 := cell_of_row _ _ 3 _ _ _ hr4_0
  have c0_4 := cell_of_row _ _ 4 _ _ _ hr4_0
  have c4_0 := cell_of_row _ _ 0 _ _ _ hr4_4
  have c4_1 := cell_of_row _ _ 1 _ _ _ hr4_4
  have c4_2 := cell_of_row _ _ 2 _ _ _ hr4_4
  simp at c0_0 c0_1 c0_2 c0_3 c0_4 c4_0 c4_1 c4_2
  have hHr := Lib.hid hr4_3
  have hHi := Lib.hid (show (Try.prog.info? 70).map (·.size) = some (#[.int .i64 x1, .int .i64 x2, .int .i64 x3, .int .i64 c1, .int .i64 c2, .int .i64 c3, .bool true, .bool false] : Array Value).size by kernel_rfl)
  have hHz := Lib.hid (show (#[.int .i64 0, .int .i64 0, .int .i64 0, .int .i64 0, .int .i64 0, .int .i64 0, .bool false, .bool false] : Array Value).size = (#[.int .i64 x1, .int .i64 x2, .int .i64 x3, .int .i64 c1, .int .i64 c2, .int .i64 c3, .bool true, .bool false] : Array Value).size from rfl)
  have hHo := Lib.hid (show (#[.int .i64 x1, .int .i64 x2, .int .i64 x3, .int .i64 c1, .int .i64 c2, .int .i64 c3, .bool true, .bool false] : Array Value).all (·.oneCell') = true by simp [Value.oneCell'])
  go_wp2_with (first | (refine Au.wpList_store_row rfl 70 (.tmp 10) (.tmp 53) rfl y4 #[.int .i64 0, .int .i64 0, .int .i64 0, .int .i64 0, .int .i64 0, .int .i64 0, .bool false, .bool false] #[.int .i64 x1, .int .i64 x2, .int .i64 x3, .int .i64 c1, .int .i64 c2, .int .i64 c3, .bool true, .bool false] (w.heap.size + 1 + 1 + 1) 70 hHr.out rfl rfl hHi.out hHz.out hHo.out ?_))
  clear c0_0 c0_1 c0_2 c0_3 c0_4 c4_0 c4_1 c4_2
  clear hHr hHi hHz hHo
  have hN := setRow_heap _ (w.heap.size + 1 + 1 + 1) _ #[.int .i64 x1, .int .i64 x2, .int .i64 x3, .int .i64 c1, .int .i64 c2, .int .i64 c3, .bool true, .bool false] _ _ hr4_3
  have hsz := HU4.out.size
  have HUx := below_setRow (g := w.heap.size + 1 + 1 + 1) HU4.out (by first | omega | (simp at *; omega)) #[.int .i64 x1, .int .i64 x2, .int .i64 x3, .int .i64 c1, .int .i64 c2, .int .i64 c3, .bool true, .bool false]
  have hO : ∀ kk, kk ≠ w.heap.size + 1 + 1 + 1 → (y4.setRow (w.heap.size + 1 + 1 + 1) #[.int .i64 x1, .int .i64 x2, .int .i64 x3, .int .i64 c1, .int .i64 c2, .int .i64 c3, .bool true, .bool false]).heap[kk]? = y4.heap[kk]? := fun kk hk => setRow_other _ _ _ _ hk
  obtain ⟨y5, hy5⟩ : ∃ y, y4.setRow (w.heap.size + 1 + 1 + 1) #[.int .i64 x1, .int .i64 x2, .int .i64 x3, .int .i64 c1, .int .i64 c2, .int .i64 c3, .bool true, .bool false] = y := ⟨_, rfl⟩
  rw [hy5] at hN HUx hO ⊢
  clear hy5 hsz
  have HU5 := Lib.hid HUx
  clear HUx
  have hr5_0 := (hO _ (by omega)).trans hr4_0
  have hr5_1 := (hO _ (by omega)).trans hr4_1
  have hr5_2 := (hO _ (by omega)).trans hr4_2
  have hr5_3 := hN
  have hr5_4 := (hO _ (by omega)).trans hr4_4
  clear hN hO
  clear hr4_0 hr4_1 hr4_2 hr4_3 hr4_4 HU4
  have c3_0 := cell_of_row _ _ 0 _ _ _ hr5_3
  have c3_1 := cell_of_row _ _ 1 _ _ _ hr5_3
  have c3_2 := cell_of_row _ _ 2 _ _ _ hr5_3
  have c3_3 := cell_of_row _ _ 3 _ _ _ hr5_3
  have c3_4 := cell_of_row _ _ 4 _ _ _ hr5_3
  have c3_5 := cell_of_row _ _ 5 _ _ _ hr5_3
  have c3_6 := cell_of_row _ _ 6 _ _ _ hr5_3
  have c3_7 := cell_of_row _ _ 7 _ _ _ hr5_3
  simp at c3_0 c3_1 c3_2 c3_3 c3_4 c3_5 c3_6 c3_7
  go_wp2
  exact bodyPost_ret (v := .agg #[.int .i64 x1, .int .i64 x2, .int .i64 x3, .int .i64 c1, .int .i64 c2, .int .i64 c3, .bool true, .bool false]) (by simp [results, Try.results19, go_sem, c3_0, c3_1, c3_2, c3_3, c3_4, c3_5, c3_6, c3_7]) rfl ⟨rfl, HU5.out⟩

set_option maxHeartbeats 4000000 in
set_option maxRecDepth 100000 in
theorem rbounce0_neg (c1 c2 c3 ro d1_ d2_ d3_ n1 n2 n3 u v x1 x2 x3 z : Int)
    (hD : ∀ W : World, Calls Try.prog 36 #[.agg #[.int .i64 n1, .int .i64 n2, .int .i64 n3], .int .i64 u, .int .i64 v] W fun e' w' => e' = .returned (.agg #[.int .i64 x1, .int .i64 x2, .int .i64 x3]) ∧ Below W.heap.size W w')
    (hT : ∀ W : World, Calls Try.prog 41 #[.agg #[.int .i64 x1, .int .i64 x2, .int .i64 x3], .agg #[.int .i64 n1, .int .i64 n2, .int .i64 n3]] W fun e' w' => e' = .returned (.int .i64 z) ∧ Below W.heap.size W w')
    (hz : z ≤ 0) (w : World)  : Calls Try.prog 19 #[.agg #[.int .i64 0, .int .i64 c1, .int .i64 c2, .int .i64 c3, .int .i64 ro], .agg #[.int .i64 d1_, .int .i64 d2_, .int .i64 d3_], .agg #[.int .i64 n1, .int .i64 n2, .int .i64 n3], .int .i64 u, .int .i64 v] w fun e' w' => e' = .returned (.agg #[.int .i64 0, .int .i64 0, .int .i64 0, .int .i64 0, .int .i64 0, .int .i64 0, .bool false, .bool false]) ∧ Below w.heap.size w w' := by
  have dz := decide_eq_true hz
  go_enter Try.func19, Try.ntmps19
  go_upto_region 1 with fail
  have hR := Au.rows4 w (.cells #[.int .i64 0, .int .i64 c1, .int .i64 c2, .int .i64 c3, .int .i64 ro] 59) (.cells #[.int .i64 d1_, .int .i64 d2_, .int .i64 d3_] 47) (.cells #[.int .i64 n1, .int .i64 n2, .int .i64 n3] 47) (.cells #[.int .i64 0, .int .i64 0, .int .i64 0, .int .i64 0, .int .i64 0, .int .i64 0, .bool false, .bool false] 70)
  have HUx := below_n4 w (.cells #[.int .i64 0, .int .i64 c1, .int .i64 c2, .int .i64 c3, .int .i64 ro] 59) (.cells #[.int .i64 d1_, .int .i64 d2_, .int .i64 d3_] 47) (.cells #[.int .i64 n1, .int .i64 n2, .int .i64 n3] 47) (.cells #[.int .i64 0, .int .i64 0, .int .i64 0, .int .i64 0, .int .i64 0, .int .i64 0, .bool false, .bool false] 70)
  obtain ⟨y0, hy0⟩ : ∃ y0, (((w.alloc (.cells #[.int .i64 0, .int .i64 c1, .int .i64 c2, .int .i64 c3, .int .i64 ro] 59)).alloc (.cells #[.int .i64 d1_, .int .i64 d2_, .int .i64 d3_] 47)).alloc (.cells #[.int .i64 n1, .int .i64 n2, .int .i64 n3] 47)).alloc (.cells #[.int .i64 0, .int .i64 0, .int .i64 0, .int .i64 0, .int .i64 0, .int .i64 0, .bool false, .bool false] 70) = y0 := ⟨_, rfl⟩
  rw [hy0] at hR HUx ⊢
  clear hy0
  have HU0 := Lib.hid HUx
  clear HUx
  obtain ⟨hr0_0, hr0_1, hr0_2, hr0_3⟩ := hR
  go_upto_region 2 with fail
  have hb1 := below_n1 y0 (.cells #[.int .i64 0, .int .i64 0, .int .i64 0] 47)
  have hN := heap_alloc_last y0 (.cells #[.int .i64 0, .int .i64 0, .int .i64 0] 47)
  obtain ⟨y1, hy1⟩ : ∃ y, y0.alloc (.cells #[.int .i64 0, .int .i64 0, .int .i64 0] 47) = y := ⟨_, rfl⟩
  have hs1 : y1.heap.size = y0.heap.size + 1 := by rw [← hy1]; simp
  rw [hy1] at hb1 hN ⊢
  clear hy1
  have hl1_0 := lt_heap hr0_0
  have hl1_1 := lt_heap hr0_1
  have hl1_2 := lt_heap hr0_2
  have hl1_3 := lt_heap hr0_3
  have hr1_0 := (hb1.block _ (lt_heap hr0_0)).trans hr0_0
  have hr1_1 := (hb1.block _ (lt_heap hr0_1)).trans hr0_1
  have hr1_2 := (hb1.block _ (lt_heap hr0_2)).trans hr0_2
  have hr1_3 := (hb1.block _ (lt_heap hr0_3)).trans hr0_3
  have HU1 := Lib.hid (HU0.out.trans (hb1.mono HU0.out.size))
  clear hr0_0 hr0_1 hr0_2 hr0_3 HU0
  have hr1_4 := hN
  clear hN
  have c0_0 := cell_of_row _ _ 0 _ _ _ hr1_0
  have c0_1 := cell_of_row _ _ 1 _ _ _ hr1_0
  have c0_2 := cell_of_row _ _ 2 _ _ _ hr1_0
  have c0_3 := cell_of_row _ _ 3 _ _ _ hr1_0
  have c0_4 := cell_of_row _ _ 4 _ _ _ hr1_0
  have c2_0 := cell_of_row _ _ 0 _ _ _ hr1_2
  have c2_1 := cell_of_row _ _ 1 _ _ _ hr1_2
  have c2_2 := cell_of_row _ _ 2 _ _ _ hr1_2
  simp at c0_0 c0_1 c0_2 c0_3 c0_4 c2_0 c2_1 c2_2
  go_upto_region 3 with fail
  clear c0_0 c0_1 c0_2 c0_3 c0_4 c2_0 c2_1 c2_2
  have c2_0 := cell_of_row _ _ 0 _ _ _ hr1_2
  have c2_1 := cell_of_row _ _ 1 _ _ _ hr1_2
  have c2_2 := cell_of_row _ _ 2 _ _ _ hr1_2
  simp at c2_0 c2_1 c2_2
  go_wp2_with fail
  refine (hD _).mono ?_
  rintro e y2 ⟨rfl, hb2⟩
  clear c2_0 c2_1 c2_2
  have hr2_0 := (hb2.block _ (lt_heap hr1_0)).trans hr1_0
  have hr2_1 := (hb2.block _ (lt_heap hr1_1)).trans hr1_1
  have hr2_2 := (hb2.block _ (lt_heap hr1_2)).trans hr1_2
  have hr2_3 := (hb2.block _ (lt_heap hr1_3)).trans hr1_3
  have hr2_4 := (hb2.block _ (lt_heap hr1_4)).trans hr1_4
  have HU2 := Lib.hid (HU1.out.trans (hb2.mono HU1.out.size))
  clear hr1_0 hr1_1 hr1_2 hr1_3 hr1_4 HU1
  have hHr := Lib.hid hr2_4
  have hHi := Lib.hid (show (Try.prog.info? 47).map (·.size) = some (#[.int .i64 x1, .int .i64 x2, .int .i64 x3] : Array Value).size by kernel_rfl)
  have hHz := Lib.hid (show (#[.int .i64 0, .int .i64 0, .int .i64 0] : Array Value).size = (#[.int .i64 x1, .int .i64 x2, .int .i64 x3] : Array Value).size from rfl)
  have hHo := Lib.hid (show (#[.int .i64 x1, .int .i64 x2, .int .i64 x3] : Array Value).all (·.oneCell') = true by simp [Value.oneCell'])
  go_upto_region 9 with (first | (refine Au.wpList_store_row rfl 47 (.tmp 11) (.tmp 18) rfl y2 #[.int .i64 0, .int .i64 0, .int .i64 0] #[.int .i64 x1, .int .i64 x2, .int .i64 x3] (y0.heap.size) 47 hHr.out rfl rfl hHi.out hHz.out hHo.out ?_))
  clear hHr hHi hHz hHo
  have hN := setRow_heap _ (y0.heap.size) _ #[.int .i64 x1, .int .i64 x2, .int .i64 x3] _ _ hr2_4
  have hsz := HU2.out.size
  have HUx := below_setRow (g := y0.heap.size) HU2.out (by first | omega | (simp at *; omega)) #[.int .i64 x1, .int .i64 x2, .int .i64 x3]
  have hO : ∀ kk, kk ≠ y0.heap.size → (y2.setRow (y0.heap.size) #[.int .i64 x1, .int .i64 x2, .int .i64 x3]).heap[kk]? = y2.heap[kk]? := fun kk hk => setRow_other _ _ _ _ hk
  obtain ⟨y3, hy3⟩ : ∃ y, y2.setRow (y0.heap.size) #[.int .i64 x1, .int .i64 x2, .int .i64 x3] = y := ⟨_, rfl⟩
  rw [hy3] at hN HUx hO ⊢
  clear hy3 hsz
  have HU3 := Lib.hid HUx
  clear HUx
  have hr3_0 := (hO _ (by omega)).trans hr2_0
  have hr3_1 := (hO _ (by omega)).trans hr2_1
  have hr3_2 := (hO _ (by omega)).trans hr2_2
  have hr3_3 := (hO _ (by omega)).trans hr2_3
  have hr3_4 := hN
  clear hN hO
  clear hr2_0 hr2_1 hr2_2 hr2_3 hr2_4 HU2
  have c2_0 := cell_of_row _ _ 0 _ _ _ hr3_2
  have c2_1 := cell_of_row _ _ 1 _ _ _ hr3_2
  have c2_2 := cell_of_row _ _ 2 _ _ _ hr3_2
  have c4_0 := cell_of_row _ _ 0 _ _ _ hr3_4
  have c4_1 := cell_of_row _ _ 1 _ _ _ hr3_4
  have c4_2 := cell_of_row _ _ 2 _ _ _ hr3_4
  simp at c2_0 c2_1 c2_2 c4_0 c4_1 c4_2
  go_wp2_with fail
  refine (hT _).mono ?_
  rintro e y4 ⟨rfl, hb4⟩
  clear c2_0 c2_1 c2_2 c4_0 c4_1 c4_2
  have hr4_0 := (hb4.block _ (lt_heap hr3_0)).trans hr3_0
  have hr4_1 := (hb4.block _ (lt_heap hr3_1)).trans hr3_1
  have hr4_2 := (hb4.block _ (lt_heap hr3_2)).trans hr3_2
  have hr4_3 := (hb4.block _ (lt_heap hr3_3)).trans hr3_3
  have hr4_4 := (hb4.block _ (lt_heap hr3_4)).trans hr3_4
  have HU4 := Lib.hid (HU3.out.trans (hb4.mono HU3.out.size))
  clear hr3_0 hr3_1 hr3_2 hr3_3 hr3_4 HU3
  go_upto_region 10 with fail
  have hHr := Lib.hid hr4_3
  have hHi := Lib.hid (show (Try.prog.info? 70).map (·.size) = some (#[.int .i64 0, .int .i64 0, .int .i64 0, .int .i64 0, .int .i64 0, .int .i64 0, .bool false, .bool false] : Array Value).size by kernel_rfl)
  have hHz := Lib.hid (show (#[.int .i64 0, .int .i64 0, .int .i64 0, .int .i64 0, .int .i64 0, .int .i64 0, .bool false, .bool false] : Array Value).size = (#[.int .i64 0, .int .i64 0, .int .i64 0, .int .i64 0, .int .i64 0, .int .i64 0, .bool false, .bool false] : Array Value).size from rfl)
  have hHo := Lib.hid (show (#[.int .i64 0, .int .i64 0, .int .i64 0, .int .i64 0, .int .i64 0, .int .i64 0, .bool false, .bool false] : Array Value).all (·.oneCell') = true by simp [Value.oneCell'])
  go_wp2_with (first | (refine Au.wpList_store_row rfl 70 (.tmp 10) (.tmp 46) rfl y4 #[.int .i64 0, .int .i64 0, .int .i64 0, .int .i64 0, .int .i64 0, .int .i64 0, .bool false, .bool false] #[.int .i64 0, .int .i64 0, .int .i64 0, .int .i64 0, .int .i64 0, .int .i64 0, .bool false, .bool false] (w.heap.size + 1 + 1 + 1) 70 hHr.out rfl rfl hHi.out hHz.out hHo.out ?_))
  clear hHr hHi hHz hHo
  have hN := setRow_heap _ (w.heap.size + 1 + 1 + 1) _ #[.int .i64 0, .int .i64 0, .int .i64 0, .int .i64 0, .int .i64 0, .int .i64 0, .bool false, .bool false] _ _ hr4_3
  have hsz := HU4.out.size
  have HUx := below_setRow (g := w.heap.size + 1 + 1 + 1) HU4.out (by first | omega | (simp at *; omega)) #[.int .i64 0, .int .i64 0, .int .i64 0, .int .i64 0, .int .i64 0, .int .i64 0, .bool false, .bool false]
  have hO : ∀ kk, kk ≠ w.heap.size + 1 + 1 + 1 → (y4.setRow (w.heap.size + 1 + 1 + 1) #[.int .i64 0, .int .i64 0, .int .i64 0, .int .i64 0, .int .i64 0, .int .i64 0, .bool false, .bool false]).heap[kk]? = y4.heap[kk]? := fun kk hk => setRow_other _ _ _ _ hk
  obtain ⟨y5, hy5⟩ : ∃ y, y4.setRow (w.heap.size + 1 + 1 + 1) #[.int .i64 0, .int .i64 0, .int .i64 0, .int .i64 0, .int .i64 0, .int .i64 0, .bool false, .bool false] = y := ⟨_, rfl⟩
  rw [hy5] at hN HUx hO ⊢
  clear hy5 hsz
  have HU5 := Lib.hid HUx
  clear HUx
  have hr5_0 := (hO _ (by omega)).trans hr4_0
  have hr5_1 := (hO _ (by omega)).trans hr4_1
  have hr5_2 := (hO _ (by omega)).trans hr4_2
  have hr5_3 := hN
  have hr5_4 := (hO _ (by omega)).trans hr4_4
  clear hN hO
  clear hr4_0 hr4_1 hr4_2 hr4_3 hr4_4 HU4
  have c3_0 := cell_of_row _ _ 0 _ _ _ hr5_3
  have c3_1 := cell_of_row _ _ 1 _ _ _ hr5_3
  have c3_2 := cell_of_row _ _ 2 _ _ _ hr5_3
  have c3_3 := cell_of_row _ _ 3 _ _ _ hr5_3
  have c3_4 := cell_of_row _ _ 4 _ _ _ hr5_3
  have c3_5 := cell_of_row _ _ 5 _ _ _ hr5_3
  have c3_6 := cell_of_row _ _ 6 _ _ _ hr5_3
  have c3_7 := cell_of_row _ _ 7 _ _ _ hr5_3
  simp at c3_0 c3_1 c3_2 c3_3 c3_4 c3_5 c3_6 c3_7
  go_wp2
  exact bodyPost_ret (v := .agg #[.int .i64 0, .int .i64 0, .int .i64 0, .int .i64 0, .int .i64 0, .int .i64 0, .bool false, .bool false]) (by simp [results, Try.results19, go_sem, c3_0, c3_1, c3_2, c3_3, c3_4, c3_5, c3_6, c3_7]) rfl ⟨rfl, HU5.out⟩

set_option maxHeartbeats 4000000 in
set_option maxRecDepth 100000 in
theorem rbounce1_pos (c1 c2 c3 ro d1_ d2_ d3_ n1 n2 n3 u v x1 x2 x3 m1 m2 m3 z : Int)
    (hM : ∀ W : World, Calls Try.prog 38 #[.agg #[.int .i64 d1_, .int .i64 d2_, .int .i64 d3_], .agg #[.int .i64 n1, .int .i64 n2, .int .i64 n3]] W fun e' w' => e' = .returned (.agg #[.int .i64 m1, .int .i64 m2, .int .i64 m3]) ∧ Below W.heap.size W w')
    (hV : ∀ W : World, Calls Try.prog 37 #[.agg #[.int .i64 m1, .int .i64 m2, .int .i64 m3]] W fun e' w' => e' = .returned (.agg #[.int .i64 x1, .int .i64 x2, .int .i64 x3]) ∧ Below W.heap.size W w')
    (hT : ∀ W : World, Calls Try.prog 41 #[.agg #[.int .i64 x1, .int .i64 x2, .int .i64 x3], .agg #[.int .i64 n1, .int .i64 n2, .int .i64 n3]] W fun e' w' => e' = .returned (.int .i64 z) ∧ Below W.heap.size W w')
    (hz : ¬ z ≤ 0) (w : World)  : Calls Try.prog 19 #[.agg #[.int .i64 1, .int .i64 c1, .int .i64 c2, .int .i64 c3, .int .i64 ro], .agg #[.int .i64 d1_, .int .i64 d2_, .int .i64 d3_], .agg #[.int .i64 n1, .int .i64 n2, .int .i64 n3], .int .i64 u, .int .i64 v] w fun e' w' => e' = .returned (.agg #[.int .i64 x1, .int .i64 x2, .int .i64 x3, .int .i64 c1, .int .i64 c2, .int .i64 c3, .bool true, .bool true]) ∧ Below w.heap.size w w' := by
  have dz := decide_eq_false hz
  go_enter Try.func19, Try.ntmps19
  go_upto_region 1 with fail
  have hR := Au.rows4 w (.cells #[.int .i64 1, .int .i64 c1, .int .i64 c2, .int .i64 c3, .int .i64 ro] 59) (.cells #[.int .i64 d1_, .int .i64 d2_, .int .i64 d3_] 47) (.cells #[.int .i64 n1, .int .i64 n2, .int .i64 n3] 47) (.cells #[.int .i64 0, .int .i64 0, .int .i64 0, .int .i64 0, .int .i64 0, .int .i64 0, .bool false, .bool false] 70)
  have HUx := below_n4 w (.cells #[.int .i64 1, .int .i64 c1, .int .i64 c2, .int .i64 c3, .int .i64 ro] 59) (.cells #[.int .i64 d1_, .int .i64 d2_, .int .i64 d3_] 47) (.cells #[.int .i64 n1, .int .i64 n2, .int .i64 n3] 47) (.cells #[.int .i64 0, .int .i64 0, .int .i64 0, .int .i64 0, .int .i64 0, .int .i64 0, .bool false, .bool false] 70)
  obtain ⟨y0, hy0⟩ : ∃ y0, (((w.alloc (.cells #[.int .i64 1, .int .i64 c1, .int .i64 c2, .int .i64 c3, .int .i64 ro] 59)).alloc (.cells #[.int .i64 d1_, .int .i64 d2_, .int .i64 d3_] 47)).alloc (.cells #[.int .i64 n1, .int .i64 n2, .int .i64 n3] 47)).alloc (.cells #[.int .i64 0, .int .i64 0, .int .i64 0, .int .i64 0, .int .i64 0, .int .i64 0, .bool false, .bool false] 70) = y0 := ⟨_, rfl⟩
  rw [hy0] at hR HUx ⊢
  clear hy0
  have HU0 := Lib.hid HUx
  clear HUx
  obtain ⟨hr0_0, hr0_1, hr0_2, hr0_3⟩ := hR
  go_upto_region 2 with fail
  have hb1 := below_n1 y0 (.cells #[.int .i64 0, .int .i64 0, .int .i64 0] 47)
  have hN := heap_alloc_last y0 (.cells #[.int .i64 0, .int .i64 0, .int .i64 0] 47)
  obtain ⟨y1, hy1⟩ : ∃ y, y0.alloc (.cells #[.int .i64 0, .int .i64 0, .int .i64 0] 47) = y := ⟨_, rfl⟩
  have hs1 : y1.heap.size = y0.heap.size + 1 := by rw [← hy1]; simp
  rw [hy1] at hb1 hN ⊢
  clear hy1
  have hl1_0 := lt_heap hr0_0
  have hl1_1 := lt_heap hr0_1
  have hl1_2 := lt_heap hr0_2
  have hl1_3 := lt_heap hr0_3
  have hr1_0 := (hb1.block _ (lt_heap hr0_0)).trans hr0_0
  have hr1_1 := (hb1.block _ (lt_heap hr0_1)).trans hr0_1
  have hr1_2 := (hb1.block _ (lt_heap hr0_2)).trans hr0_2
  have hr1_3 := (hb1.block _ (lt_heap hr0_3)).trans hr0_3
  have HU1 := Lib.hid (HU0.out.trans (hb1.mono HU0.out.size))
  clear hr0_0 hr0_1 hr0_2 hr0_3 HU0
  have hr1_4 := hN
  clear hN
  have c0_0 := cell_of_row _ _ 0 _ _ _ hr1_0
  have c0_1 := cell_of_row _ _ 1 _ _ _ hr1_0
  have c0_2 := cell_of_row _ _ 2 _ _ _ hr1_0
  have c0_3 := cell_of_row _ _ 3 _ _ _ hr1_0
  have c0_4 := cell_of_row _ _ 4 _ _ _ hr1_0
  have c1_0 := cell_of_row _ _ 0 _ _ _ hr1_1
  have c1_1 := cell_of_row _ _ 1 _ _ _ hr1_1
  have c1_2 := cell_of_row _ _ 2 _ _ _ hr1_1
  have c2_0 := cell_of_row _ _ 0 _ _ _ hr1_2
  have c2_1 := cell_of_row _ _ 1 _ _ _ hr1_2
  have c2_2 := cell_of_row _ _ 2 _ _ _ hr1_2
  simp at c0_0 c0_1 c0_2 c0_3 c0_4 c1_0 c1_1 c1_2 c2_0 c2_1 c2_2
  go_upto_region 5 with fail
  clear c0_0 c0_1 c0_2 c0_3 c0_4 c1_0 c1_1 c1_2 c2_0 c2_1 c2_2
  have c1_0 := cell_of_row _ _ 0 _ _ _ hr1_1
  have c1_1 := cell_of_row _ _ 1 _ _ _ hr1_1
  have c1_2 := cell_of_row _ _ 2 _ _ _ hr1_1
  have c2_0 := cell_of_row _ _ 0 _ _ _ hr1_2
  have c2_1 := cell_of_row _ _ 1 _ _ _ hr1_2
  have c2_2 := cell_of_row _ _ 2 _ _ _ hr1_2
  simp at c1_0 c1_1 c1_2 c2_0 c2_1 c2_2
  go_wp2_with fail
  refine (hM _).mono ?_
  rintro e y2 ⟨rfl, hb2⟩
  clear c1_0 c1_1 c1_2 c2_0 c2_1 c2_2
  have hr2_0 := (hb2.block _ (lt_heap hr1_0)).trans hr1_0
  have hr2_1 := (hb2.block _ (lt_heap hr1_1)).trans hr1_1
  have hr2_2 := (hb2.block _ (lt_heap hr1_2)).trans hr1_2
  have hr2_3 := (hb2.block _ (lt_heap hr1_3)).trans hr1_3
  have hr2_4 := (hb2.block _ (lt_heap hr1_4)).trans hr1_4
  have HU2 := Lib.hid (HU1.out.trans (hb2.mono HU1.out.size))
  clear hr1_0 hr1_1 hr1_2 hr1_3 hr1_4 HU1
  go_wp2_with fail
  refine (hV _).mono ?_
  rintro e y3 ⟨rfl, hb3⟩
  have hr3_0 := (hb3.block _ (lt_heap hr2_0)).trans hr2_0
  have hr3_1 := (hb3.block _ (lt_heap hr2_1)).trans hr2_1
  have hr3_2 := (hb3.block _ (lt_heap hr2_2)).trans hr2_2
  have hr3_3 := (hb3.block _ (lt_heap hr2_3)).trans hr2_3
  have hr3_4 := (hb3.block _ (lt_heap hr2_4)).trans hr2_4
  have HU3 := Lib.hid (HU2.out.trans (hb3.mono HU2.out.size))
  clear hr2_0 hr2_1 hr2_2 hr2_3 hr2_4 HU2
  have hHr := Lib.hid hr3_4
  have hHi := Lib.hid (show (Try.prog.info? 47).map (·.size) = some (#[.int .i64 x1, .int .i64 x2, .int .i64 x3] : Array Value).size by kernel_rfl)
  have hHz := Lib.hid (show (#[.int .i64 0, .int .i64 0, .int .i64 0] : Array Value).size = (#[.int .i64 x1, .int .i64 x2, .int .i64 x3] : Array Value).size from rfl)
  have hHo := Lib.hid (show (#[.int .i64 x1, .int .i64 x2, .int .i64 x3] : Array Value).all (·.oneCell') = true by simp [Value.oneCell'])
  go_upto_region 9 with (first | (refine Au.wpList_store_row rfl 47 (.tmp 11) (.tmp 25) rfl y3 #[.int .i64 0, .int .i64 0, .int .i64 0] #[.int .i64 x1, .int .i64 x2, .int .i64 x3] (y0.heap.size) 47 hHr.out rfl rfl hHi.out hHz.out hHo.out ?_))
  clear hHr hHi hHz hHo
  have hN := setRow_heap _ (y0.heap.size) _ #[.int .i64 x1, .int .i64 x2, .int .i64 x3] _ _ hr3_4
  have hsz := HU3.out.size
  have HUx := below_setRow (g := y0.heap.size) HU3.out (by first | omega | (simp at *; omega)) #[.int .i64 x1, .int .i64 x2, .int .i64 x3]
  have hO : ∀ kk, kk ≠ y0.heap.size → (y3.setRow (y0.heap.size) #[.int .i64 x1, .int .i64 x2, .int .i64 x3]).heap[kk]? = y3.heap[kk]? := fun kk hk => setRow_other _ _ _ _ hk
  obtain ⟨y4, hy4⟩ : ∃ y, y3.setRow (y0.heap.size) #[.int .i64 x1, .int .i64 x2, .int .i64 x3] = y := ⟨_, rfl⟩
  rw [hy4] at hN HUx hO ⊢
  clear hy4 hsz
  have HU4 := Lib.hid HUx
  clear HUx
  have hr4_0 := (hO _ (by omega)).trans hr3_0
  have hr4_1 := (hO _ (by omega)).trans hr3_1
  have hr4_2 := (hO _ (by omega)).trans hr3_2
  have hr4_3 := (hO _ (by omega)).trans hr3_3
  have hr4_4 := hN
  clear hN hO
  clear hr3_0 hr3_1 hr3_2 hr3_3 hr3_4 HU3
  have c2_0 := cell_of_row _ _ 0 _ _ _ hr4_2
  have c2_1 := cell_of_row _ _ 1 _ _ _ hr4_2
  have c2_2 := cell_of_row _ _ 2 _ _ _ hr4_2
  have c4_0 := cell_of_row _ _ 0 _ _ _ hr4_4
  have c4_1 := cell_of_row _ _ 1 _ _ _ hr4_4
  have c4_2 := cell_of_row _ _ 2 _ _ _ hr4_4
  simp at c2_0 c2_1 c2_2 c4_0 c4_1 c4_2
  go_wp2_with fail
  refine (hT _).mono ?_
  rintro e y5 ⟨rfl, hb5⟩
  clear c2_0 c2_1 c2_2 c4_0 c4_1 c4_2
  have hr5_0 := (hb5.block _ (lt_heap hr4_0)).trans hr4_0
  have hr5_1 := (hb5.block _ (lt_heap hr4_1)).trans hr4_1
  have hr5_2 := (hb5.block _ (lt_heap hr4_2)).trans hr4_2
  have hr5_3 := (hb5.block _ (lt_heap hr4_3)).trans hr4_3
  have hr5_4 := (hb5.block _ (lt_heap hr4_4)).trans hr4_4
  have HU5 := Lib.hid (HU4.out.trans (hb5.mono HU4.out.size))
  clear hr4_0 hr4_1 hr4_2 hr4_3 hr4_4 HU4
  go_upto_region 11 with fail
  have c0_0 := cell_of_row _ _ 0 _ _ _ hr5_0
  have c0_1 := cell_of_row _ _ 1 _ _ _ hr5_0
  have c0_2 := cell_of_row _ _ 2 _ _ _ hr5_0
  have c0_3 := cell_of_row _ _ 3 _ _ _ hr5_0
  have c0_4 := cell_of_row _ _ 4 _ _ _ hr5_0
  have c4_0 := cell_of_row _ _ 0 _ _ _ hr5_4
  have c4_1 := cell_of_row _ _ 1 _ _ _ hr5_4
  have c4_2 := cell_of_row _ _ 2 _ _ _ hr5_4
  simp at c0_0 c0_1 c0_2 c0_3 c0_4 c4_0 c4_1 c4_2
  have hHr := Lib.hid hr5_3
  have hHi := Lib.hid (show (Try.prog.info? 70).map (·.size) = some (#[.int .i64 x1, .int .i64 x2, .int .i64 x3, .int .i64 c1, .int .i64 c2, .int .i64 c3, .bool true, .bool true] : Array Value).size by kernel_rfl)
  have hHz := Lib.hid (show (#[.int .i64 0, .int .i64 0, .int .i64 0, .int .i64 0, .int .i64 0, .int .i64 0, .bool false, .bool false] : Array Value).size = (#[.int .i64 x1, .int .i64 x2, .int .i64 x3, .int .i64 c1, .int .i64 c2, .int .i64 c3, .bool true, .bool true] : Array Value).size from rfl)
  have hHo := Lib.hid (show (#[.int .i64 x1, .int .i64 x2, .int .i64 x3, .int .i64 c1, .int .i64 c2, .int .i64 c3, .bool true, .bool true] : Array Value).all (·.oneCell') = true by simp [Value.oneCell'])
  go_wp2_with (first | (refine Au.wpList_store_row rfl 70 (.tmp 10) (.tmp 53) rfl y5 #[.int .i64 0, .int .i64 0, .int .i64 0, .int .i64 0, .int .i64 0, .int .i64 0, .bool false, .bool false] #[.int .i64 x1, .int .i64 x2, .int .i64 x3, .int .i64 c1, .int .i64 c2, .int .i64 c3, .bool true, .bool true] (w.heap.size + 1 + 1 + 1) 70 hHr.out rfl rfl hHi.out hHz.out hHo.out ?_))
  clear c0_0 c0_1 c0_2 c0_3 c0_4 c4_0 c4_1 c4_2
  clear hHr hHi hHz hHo
  have hN := setRow_heap _ (w.heap.size + 1 + 1 + 1) _ #[.int .i64 x1, .int .i64 x2, .int .i64 x3, .int .i64 c1, .int .i64 c2, .int .i64 c3, .bool true, .bool true] _ _ hr5_3
  have hsz := HU5.out.size
  have HUx := below_setRow (g := w.heap.size + 1 + 1 + 1) HU5.out (by first | omega | (simp at *; omega)) #[.int .i64 x1, .int .i64 x2, .int .i64 x3, .int .i64 c1, .int .i64 c2, .int .i64 c3, .bool true, .bool true]
  have hO : ∀ kk, kk ≠ w.heap.size + 1 + 1 + 1 → (y5.setRow (w.heap.size + 1 + 1 + 1) #[.int .i64 x1, .int .i64 x2, .int .i64 x3, .int .i64 c1, .int .i64 c2, .int .i64 c3, .bool true, .bool true]).heap[kk]? = y5.heap[kk]? := fun kk hk => setRow_other _ _ _ _ hk
  obtain ⟨y6, hy6⟩ : ∃ y, y5.setRow (w.heap.size + 1 + 1 + 1) #[.int .i64 x1, .int .i64 x2, .int .i64 x3, .int .i64 c1, .int .i64 c2, .int .i64 c3, .bool true, .bool true] = y := ⟨_, rfl⟩
  rw [hy6] at hN HUx hO ⊢
  clear hy6 hsz
  have HU6 := Lib.hid HUx
  clear HUx
  have hr6_0 := (hO _ (by omega)).trans hr5_0
  have hr6_1 := (hO _ (by omega)).trans hr5_1
  have hr6_2 := (hO _ (by omega)).trans hr5_2
  have hr6_3 := hN
  have hr6_4 := (hO _ (by omega)).trans hr5_4
  clear hN hO
  clear hr5_0 hr5_1 hr5_2 hr5_3 hr5_4 HU5
  have c3_0 := cell_of_row _ _ 0 _ _ _ hr6_3
  have c3_1 := cell_of_row _ _ 1 _ _ _ hr6_3
  have c3_2 := cell_of_row _ _ 2 _ _ _ hr6_3
  have c3_3 := cell_of_row _ _ 3 _ _ _ hr6_3
  have c3_4 := cell_of_row _ _ 4 _ _ _ hr6_3
  have c3_5 := cell_of_row _ _ 5 _ _ _ hr6_3
  have c3_6 := cell_of_row _ _ 6 _ _ _ hr6_3
  have c3_7 := cell_of_row _ _ 7 _ _ _ hr6_3
  simp at c3_0 c3_1 c3_2 c3_3 c3_4 c3_5 c3_6 c3_7
  go_wp2
  exact bodyPost_ret (v := .agg #[.int .i64 x1, .int .i64 x2, .int .i64 x3, .int .i64 c1, .int .i64 c2, .int .i64 c3, .bool true, .bool true]) (by simp [results, Try.results19, go_sem, c3_0, c3_1, c3_2, c3_3, c3_4, c3_5, c3_6, c3_7]) rfl ⟨rfl, HU6.out⟩

set_option maxHeartbeats 4000000 in
set_option maxRecDepth 100000 in
theorem rbounce1_neg (c1 c2 c3 ro d1_ d2_ d3_ n1 n2 n3 u v x1 x2 x3 m1 m2 m3 z : Int)
    (hM : ∀ W : World, Calls Try.prog 38 #[.agg #[.int .i64 d1_, .int .i64 d2_, .int .i64 d3_], .agg #[.int .i64 n1, .int .i64 n2, .int .i64 n3]] W fun e' w' => e' = .returned (.agg #[.int .i64 m1, .int .i64 m2, .int .i64 m3]) ∧ Below W.heap.size W w')
    (hV : ∀ W : World, Calls Try.prog 37 #[.agg #[.int .i64 m1, .int .i64 m2, .int .i64 m3]] W fun e' w' => e' = .returned (.agg #[.int .i64 x1, .int .i64 x2, .int .i64 x3]) ∧ Below W.heap.size W w')
    (hT : ∀ W : World, Calls Try.prog 41 #[.agg #[.int .i64 x1, .int .i64 x2, .int .i64 x3], .agg #[.int .i64 n1, .int .i64 n2, .int .i64 n3]] W fun e' w' => e' = .returned (.int .i64 z) ∧ Below W.heap.size W w')
    (hz : z ≤ 0) (w : World)  : Calls Try.prog 19 #[.agg #[.int .i64 1, .int .i64 c1, .int .i64 c2, .int .i64 c3, .int .i64 ro], .agg #[.int .i64 d1_, .int .i64 d2_, .int .i64 d3_], .agg #[.int .i64 n1, .int .i64 n2, .int .i64 n3], .int .i64 u, .int .i64 v] w fun e' w' => e' = .returned (.agg #[.int .i64 0, .int .i64 0, .int .i64 0, .int .i64 0, .int .i64 0, .int .i64 0, .bool false, .bool false]) ∧ Below w.heap.size w w' := by
  have dz := decide_eq_true hz
  go_enter Try.func19, Try.ntmps19
  go_upto_region 1 with fail
  have hR := Au.rows4 w (.cells #[.int .i64 1, .int .i64 c1, .int .i64 c2, .int .i64 c3, .int .i64 ro] 59) (.cells #[.int .i64 d1_, .int .i64 d2_, .int .i64 d3_] 47) (.cells #[.int .i64 n1, .int .i64 n2, .int .i64 n3] 47) (.cells #[.int .i64 0, .int .i64 0, .int .i64 0, .int .i64 0, .int .i64 0, .int .i64 0, .bool false, .bool false] 70)
  have HUx := below_n4 w (.cells #[.int .i64 1, .int .i64 c1, .int .i64 c2, .int .i64 c3, .int .i64 ro] 59) (.cells #[.int .i64 d1_, .int .i64 d2_, .int .i64 d3_] 47) (.cells #[.int .i64 n1, .int .i64 n2, .int .i64 n3] 47) (.cells #[.int .i64 0, .int .i64 0, .int .i64 0, .int .i64 0, .int .i64 0, .int .i64 0, .bool false, .bool false] 70)
  obtain ⟨y0, hy0⟩ : ∃ y0, (((w.alloc (.cells #[.int .i64 1, .int .i64 c1, .int .i64 c2, .int .i64 c3, .int .i64 ro] 59)).alloc (.cells #[.int .i64 d1_, .int .i64 d2_, .int .i64 d3_] 47)).alloc (.cells #[.int .i64 n1, .int .i64 n2, .int .i64 n3] 47)).alloc (.cells #[.int .i64 0, .int .i64 0, .int .i64 0, .int .i64 0, .int .i64 0, .int .i64 0, .bool false, .bool false] 70) = y0 := ⟨_, rfl⟩
  rw [hy0] at hR HUx ⊢
  clear hy0
  have HU0 := Lib.hid HUx
  clear HUx
  obtain ⟨hr0_0, hr0_1, hr0_2, hr0_3⟩ := hR
  go_upto_region 2 with fail
  have hb1 := below_n1 y0 (.cells #[.int .i64 0, .int .i64 0, .int .i64 0] 47)
  have hN := heap_alloc_last y0 (.cells #[.int .i64 0, .int .i64 0, .int .i64 0] 47)
  obtain ⟨y1, hy1⟩ : ∃ y, y0.alloc (.cells #[.int .i64 0, .int .i64 0, .int .i64 0] 47) = y := ⟨_, rfl⟩
  have hs1 : y1.heap.size = y0.heap.size + 1 := by rw [← hy1]; simp
  rw [hy1] at hb1 hN ⊢
  clear hy1
  have hl1_0 := lt_heap hr0_0
  have hl1_1 := lt_heap hr0_1
  have hl1_2 := lt_heap hr0_2
  have hl1_3 := lt_heap hr0_3
  have hr1_0 := (hb1.block _ (lt_heap hr0_0)).trans hr0_0
  have hr1_1 := (hb1.block _ (lt_heap hr0_1)).trans hr0_1
  have hr1_2 := (hb1.block _ (lt_heap hr0_2)).trans hr0_2
  have hr1_3 := (hb1.block _ (lt_heap hr0_3)).trans hr0_3
  have HU1 := Lib.hid (HU0.out.trans (hb1.mono HU0.out.size))
  clear hr0_0 hr0_1 hr0_2 hr0_3 HU0
  have hr1_4 := hN
  clear hN
  have c0_0 := cell_of_row _ _ 0 _ _ _ hr1_0
  have c0_1 := cell_of_row _ _ 1 _ _ _ hr1_0
  have c0_2 := cell_of_row _ _ 2 _ _ _ hr1_0
  have c0_3 := cell_of_row _ _ 3 _ _ _ hr1_0
  have c0_4 := cell_of_row _ _ 4 _ _ _ hr1_0
  have c1_0 := cell_of_row _ _ 0 _ _ _ hr1_1
  have c1_1 := cell_of_row _ _ 1 _ _ _ hr1_1
  have c1_2 := cell_of_row _ _ 2 _ _ _ hr1_1
  have c2_0 := cell_of_row _ _ 0 _ _ _ hr1_2
  have c2_1 := cell_of_row _ _ 1 _ _ _ hr1_2
  have c2_2 := cell_of_row _ _ 2 _ _ _ hr1_2
  simp at c0_0 c0_1 c0_2 c0_3 c0_4 c1_0 c1_1 c1_2 c2_0 c2_1 c2_2
  go_upto_region 5 with fail
  clear c0_0 c0_1 c0_2 c0_3 c0_4 c1_0 c1_1 c1_2 c2_0 c2_1 c2_2
  have c1_0 := cell_of_row _ _ 0 _ _ _ hr1_1
  have c1_1 := cell_of_row _ _ 1 _ _ _ hr1_1
  have c1_2 := cell_of_row _ _ 2 _ _ _ hr1_1
  have c2_0 := cell_of_row _ _ 0 _ _ _ hr1_2
  have c2_1 := cell_of_row _ _ 1 _ _ _ hr1_2
  have c2_2 := cell_of_row _ _ 2 _ _ _ hr1_2
  simp at c1_0 c1_1 c1_2 c2_0 c2_1 c2_2
  go_wp2_with fail
  refine (hM _).mono ?_
  rintro e y2 ⟨rfl, hb2⟩
  clear c1_0 c1_1 c1_2 c2_0 c2_1 c2_2
  have hr2_0 := (hb2.block _ (lt_heap hr1_0)).trans hr1_0
  have hr2_1 := (hb2.block _ (lt_heap hr1_1)).trans hr1_1
  have hr2_2 := (hb2.block _ (lt_heap hr1_2)).trans hr1_2
  have hr2_3 := (hb2.block _ (lt_heap hr1_3)).trans hr1_3
  have hr2_4 := (hb2.block _ (lt_heap hr1_4)).trans hr1_4
  have HU2 := Lib.hid (HU1.out.trans (hb2.mono HU1.out.size))
  clear hr1_0 hr1_1 hr1_2 hr1_3 hr1_4 HU1
  go_wp2_with fail
  refine (hV _).mono ?_
  rintro e y3 ⟨rfl, hb3⟩
  have hr3_0 := (hb3.block _ (lt_heap hr2_0)).trans hr2_0
  have hr3_1 := (hb3.block _ (lt_heap hr2_1)).trans hr2_1
  have hr3_2 := (hb3.block _ (lt_heap hr2_2)).trans hr2_2
  have hr3_3 := (hb3.block _ (lt_heap hr2_3)).trans hr2_3
  have hr3_4 := (hb3.block _ (lt_heap hr2_4)).trans hr2_4
  have HU3 := Lib.hid (HU2.out.trans (hb3.mono HU2.out.size))
  clear hr2_0 hr2_1 hr2_2 hr2_3 hr2_4 HU2
  have hHr := Lib.hid hr3_4
  have hHi := Lib.hid (show (Try.prog.info? 47).map (·.size) = some (#[.int .i64 x1, .int .i64 x2, .int .i64 x3] : Array Value).size by kernel_rfl)
  have hHz := Lib.hid (show (#[.int .i64 0, .int .i64 0, .int .i64 0] : Array Value).size = (#[.int .i64 x1, .int .i64 x2, .int .i64 x3] : Array Value).size from rfl)
  have hHo := Lib.hid (show (#[.int .i64 x1, .int .i64 x2, .int .i64 x3] : Array Value).all (·.oneCell') = true by simp [Value.oneCell'])
  go_upto_region 9 with (first | (refine Au.wpList_store_row rfl 47 (.tmp 11) (.tmp 25) rfl y3 #[.int .i64 0, .int .i64 0, .int .i64 0] #[.int .i64 x1, .int .i64 x2, .int .i64 x3] (y0.heap.size) 47 hHr.out rfl rfl hHi.out hHz.out hHo.out ?_))
  clear hHr hHi hHz hHo
  have hN := setRow_heap _ (y0.heap.size) _ #[.int .i64 x1, .int .i64 x2, .int .i64 x3] _ _ hr3_4
  have hsz := HU3.out.size
  have HUx := below_setRow (g := y0.heap.size) HU3.out (by first | omega | (simp at *; omega)) #[.int .i64 x1, .int .i64 x2, .int .i64 x3]
  have hO : ∀ kk, kk ≠ y0.heap.size → (y3.setRow (y0.heap.size) #[.int .i64 x1, .int .i64 x2, .int .i64 x3]).heap[kk]? = y3.heap[kk]? := fun kk hk => setRow_other _ _ _ _ hk
  obtain ⟨y4, hy4⟩ : ∃ y, y3.setRow (y0.heap.size) #[.int .i64 x1, .int .i64 x2, .int .i64 x3] = y := ⟨_, rfl⟩
  rw [hy4] at hN HUx hO ⊢
  clear hy4 hsz
  have HU4 := Lib.hid HUx
  clear HUx
  have hr4_0 := (hO _ (by omega)).trans hr3_0
  have hr4_1 := (hO _ (by omega)).trans hr3_1
  have hr4_2 := (hO _ (by omega)).trans hr3_2
  have hr4_3 := (hO _ (by omega)).trans hr3_3
  have hr4_4 := hN
  clear hN hO
  clear hr3_0 hr3_1 hr3_2 hr3_3 hr3_4 HU3
  have c2_0 := cell_of_row _ _ 0 _ _ _ hr4_2
  have c2_1 := cell_of_row _ _ 1 _ _ _ hr4_2
  have c2_2 := cell_of_row _ _ 2 _ _ _ hr4_2
  have c4_0 := cell_of_row _ _ 0 _ _ _ hr4_4
  have c4_1 := cell_of_row _ _ 1 _ _ _ hr4_4
  have c4_2 := cell_of_row _ _ 2 _ _ _ hr4_4
  simp at c2_0 c2_1 c2_2 c4_0 c4_1 c4_2
  go_wp2_with fail
  refine (hT _).mono ?_
  rintro e y5 ⟨rfl, hb5⟩
  clear c2_0 c2_1 c2_2 c4_0 c4_1 c4_2
  have hr5_0 := (hb5.block _ (lt_heap hr4_0)).trans hr4_0
  have hr5_1 := (hb5.block _ (lt_heap hr4_1)).trans hr4_1
  have hr5_2 := (hb5.block _ (lt_heap hr4_2)).trans hr4_2
  have hr5_3 := (hb5.block _ (lt_heap hr4_3)).trans hr4_3
  have hr5_4 := (hb5.block _ (lt_heap hr4_4)).trans hr4_4
  have HU5 := Lib.hid (HU4.out.trans (hb5.mono HU4.out.size))
  clear hr4_0 hr4_1 hr4_2 hr4_3 hr4_4 HU4
  go_upto_region 10 with fail
  have hHr := Lib.hid hr5_3
  have hHi := Lib.hid (show (Try.prog.info? 70).map (·.size) = some (#[.int .i64 0, .int .i64 0, .int .i64 0, .int .i64 0, .int .i64 0, .int .i64 0, .bool false, .bool false] : Array Value).size by kernel_rfl)
  have hHz := Lib.hid (show (#[.int .i64 0, .int .i64 0, .int .i64 0, .int .i64 0, .int .i64 0, .int .i64 0, .bool false, .bool false] : Array Value).size = (#[.int .i64 0, .int .i64 0, .int .i64 0, .int .i64 0, .int .i64 0, .int .i64 0, .bool false, .bool false] : Array Value).size from rfl)
  have hHo := Lib.hid (show (#[.int .i64 0, .int .i64 0, .int .i64 0, .int .i64 0, .int .i64 0, .int .i64 0, .bool false, .bool false] : Array Value).all (·.oneCell') = true by simp [Value.oneCell'])
  go_wp2_with (first | (refine Au.wpList_store_row rfl 70 (.tmp 10) (.tmp 46) rfl y5 #[.int .i64 0, .int .i64 0, .int .i64 0, .int .i64 0, .int .i64 0, .int .i64 0, .bool false, .bool false] #[.int .i64 0, .int .i64 0, .int .i64 0, .int .i64 0, .int .i64 0, .int .i64 0, .bool false, .bool false] (w.heap.size + 1 + 1 + 1) 70 hHr.out rfl rfl hHi.out hHz.out hHo.out ?_))
  clear hHr hHi hHz hHo
  have hN := setRow_heap _ (w.heap.size + 1 + 1 + 1) _ #[.int .i64 0, .int .i64 0, .int .i64 0, .int .i64 0, .int .i64 0, .int .i64 0, .bool false, .bool false] _ _ hr5_3
  have hsz := HU5.out.size
  have HUx := below_setRow (g := w.heap.size + 1 + 1 + 1) HU5.out (by first | omega | (simp at *; omega)) #[.int .i64 0, .int .i64 0, .int .i64 0, .int .i64 0, .int .i64 0, .int .i64 0, .bool false, .bool false]
  have hO : ∀ kk, kk ≠ w.heap.size + 1 + 1 + 1 → (y5.setRow (w.heap.size + 1 + 1 + 1) #[.int .i64 0, .int .i64 0, .int .i64 0, .int .i64 0, .int .i64 0, .int .i64 0, .bool false, .bool false]).heap[kk]? = y5.heap[kk]? := fun kk hk => setRow_other _ _ _ _ hk
  obtain ⟨y6, hy6⟩ : ∃ y, y5.setRow (w.heap.size + 1 + 1 + 1) #[.int .i64 0, .int .i64 0, .int .i64 0, .int .i64 0, .int .i64 0, .int .i64 0, .bool false, .bool false] = y := ⟨_, rfl⟩
  rw [hy6] at hN HUx hO ⊢
  clear hy6 hsz
  have HU6 := Lib.hid HUx
  clear HUx
  have hr6_0 := (hO _ (by omega)).trans hr5_0
  have hr6_1 := (hO _ (by omega)).trans hr5_1
  have hr6_2 := (hO _ (by omega)).trans hr5_2
  have hr6_3 := hN
  have hr6_4 := (hO _ (by omega)).trans hr5_4
  clear hN hO
  clear hr5_0 hr5_1 hr5_2 hr5_3 hr5_4 HU5
  have c3_0 := cell_of_row _ _ 0 _ _ _ hr6_3
  have c3_1 := cell_of_row _ _ 1 _ _ _ hr6_3
  have c3_2 := cell_of_row _ _ 2 _ _ _ hr6_3
  have c3_3 := cell_of_row _ _ 3 _ _ _ hr6_3
  have c3_4 := cell_of_row _ _ 4 _ _ _ hr6_3
  have c3_5 := cell_of_row _ _ 5 _ _ _ hr6_3
  have c3_6 := cell_of_row _ _ 6 _ _ _ hr6_3
  have c3_7 := cell_of_row _ _ 7 _ _ _ hr6_3
  simp at c3_0 c3_1 c3_2 c3_3 c3_4 c3_5 c3_6 c3_7
  go_wp2
  exact bodyPost_ret (v := .agg #[.int .i64 0, .int .i64 0, .int .i64 0, .int .i64 0, .int .i64 0, .int .i64 0, .bool false, .bool false]) (by simp [results, Try.results19, go_sem, c3_0, c3_1, c3_2, c3_3, c3_4, c3_5, c3_6, c3_7]) rfl ⟨rfl, HU6.out⟩

set_option maxHeartbeats 4000000 in
set_option maxRecDepth 100000 in
theorem rbounce2_pos (c1 c2 c3 ro d1_ d2_ d3_ n1 n2 n3 u v x1 x2 x3 m1 m2 m3 s1 s2 s3 e1 e2 e3 p1 p2 p3 z : Int)
    (hD : ∀ W : World, Calls Try.prog 36 #[.agg #[.int .i64 n1, .int .i64 n2, .int .i64 n3], .int .i64 u, .int .i64 v] W fun e' w' => e' = .returned (.agg #[.int .i64 e1, .int .i64 e2, .int .i64 e3]) ∧ Below W.heap.size W w')
    (hM : ∀ W : World, Calls Try.prog 38 #[.agg #[.int .i64 d1_, .int .i64 d2_, .int .i64 d3_], .agg #[.int .i64 n1, .int .i64 n2, .int .i64 n3]] W fun e' w' => e' = .returned (.agg #[.int .i64 m1, .int .i64 m2, .int .i64 m3]) ∧ Below W.heap.size W w')
    (hC : ∀ W : World, Calls Try.prog 40 #[.agg #[.int .i64 e1, .int .i64 e2, .int .i64 e3], .int .i64 ro] W fun e' w' => e' = .returned (.agg #[.int .i64 p1, .int .i64 p2, .int .i64 p3]) ∧ Below W.heap.size W w')
    (hA : ∀ W : World, Calls Try.prog 39 #[.agg #[.int .i64 m1, .int .i64 m2, .int .i64 m3], .agg #[.int .i64 p1, .int .i64 p2, .int .i64 p3]] W fun e' w' => e' = .returned (.agg #[.int .i64 s1, .int .i64 s2, .int .i64 s3]) ∧ Below W.heap.size W w')
    (hV : ∀ W : World, Calls Try.prog 37 #[.agg #[.int .i64 s1, .int .i64 s2, .int .i64 s3]] W fun e' w' => e' = .returned (.agg #[.int .i64 x1, .int .i64 x2, .int .i64 x3]) ∧ Below W.heap.size W w')
    (hT : ∀ W : World, Calls Try.prog 41 #[.agg #[.int .i64 x1, .int .i64 x2, .int .i64 x3], .agg #[.int .i64 n1, .int .i64 n2, .int .i64 n3]] W fun e' w' => e' = .returned (.int .i64 z) ∧ Below W.heap.size W w')
    (hz : ¬ z ≤ 0) (w : World)  : Calls Try.prog 19 #[.agg #[.int .i64 2, .int .i64 c1, .int .i64 c2, .int .i64 c3, .int .i64 ro], .agg #[.int .i64 d1_, .int .i64 d2_, .int .i64 d3_], .agg #[.int .i64 n1, .int .i64 n2, .int .i64 n3], .int .i64 u, .int .i64 v] w fun e' w' => e' = .returned (.agg #[.int .i64 x1, .int .i64 x2, .int .i64 x3, .int .i64 c1, .int .i64 c2, .int .i64 c3, .bool true, .bool true]) ∧ Below w.heap.size w w' := by
  have dz := decide_eq_false hz
  go_enter Try.func19, Try.ntmps19
  go_upto_region 1 with fail
  have hR := Au.rows4 w (.cells #[.int .i64 2, .int .i64 c1, .int .i64 c2, .int .i64 c3, .int .i64 ro] 59) (.cells #[.int .i64 d1_, .int .i64 d2_, .int .i64 d3_] 47) (.cells #[.int .i64 n1, .int .i64 n2, .int .i64 n3] 47) (.cells #[.int .i64 0, .int .i64 0, .int .i64 0, .int .i64 0, .int .i64 0, .int .i64 0, .bool false, .bool false] 70)
  have HUx := below_n4 w (.cells #[.int .i64 2, .int .i64 c1, .int .i64 c2, .int .i64 c3, .int .i64 ro] 59) (.cells #[.int .i64 d1_, .int .i64 d2_, .int .i64 d3_] 47) (.cells #[.int .i64 n1, .int .i64 n2, .int .i64 n3] 47) (.cells #[.int .i64 0, .int .i64 0, .int .i64 0, .int .i64 0, .int .i64 0, .int .i64 0, .bool false, .bool false] 70)
  obtain ⟨y0, hy0⟩ : ∃ y0, (((w.alloc (.cells #[.int .i64 2, .int .i64 c1, .int .i64 c2, .int .i64 c3, .int .i64 ro] 59)).alloc (.cells #[.int .i64 d1_, .int .i64 d2_, .int .i64 d3_] 47)).alloc (.cells #[.int .i64 n1, .int .i64 n2, .int .i64 n3] 47)).alloc (.cells #[.int .i64 0, .int .i64 0, .int .i64 0, .int .i64 0, .int .i64 0, .int .i64 0, .bool false, .bool false] 70) = y0 := ⟨_, rfl⟩
  rw [hy0] at hR HUx ⊢
  clear hy0
  have HU0 := Lib.hid HUx
  clear HUx
  obtain ⟨hr0_0, hr0_1, hr0_2, hr0_3⟩ := hR
  go_upto_region 2 with fail
  have hb1 := below_n1 y0 (.cells #[.int .i64 0, .int .i64 0, .int .i64 0] 47)
  have hN := heap_alloc_last y0 (.cells #[.int .i64 0, .int .i64 0, .int .i64 0] 47)
  obtain ⟨y1, hy1⟩ : ∃ y, y0.alloc (.cells #[.int .i64 0, .int .i64 0, .int .i64 0] 47) = y := ⟨_, rfl⟩
  have hs1 : y1.heap.size = y0.heap.size + 1 := by rw [← hy1]; simp
  rw [hy1] at hb1 hN ⊢
  clear hy1
  have hl1_0 := lt_heap hr0_0
  have hl1_1 := lt_heap hr0_1
  have hl1_2 := lt_heap hr0_2
  have hl1_3 := lt_heap hr0_3
  have hr1_0 := (hb1.block _ (lt_heap hr0_0)).trans hr0_0
  have hr1_1 := (hb1.block _ (lt_heap hr0_1)).trans hr0_1
  have hr1_2 := (hb1.block _ (lt_heap hr0_2)).trans hr0_2
  have hr1_3 := (hb1.block _ (lt_heap hr0_3)).trans hr0_3
  have HU1 := Lib.hid (HU0.out.trans (hb1.mono HU0.out.size))
  clear hr0_0 hr0_1 hr0_2 hr0_3 HU0
  have hr1_4 := hN
  clear hN
  have c0_0 := cell_of_row _ _ 0 _ _ _ hr1_0
  have c0_1 := cell_of_row _ _ 1 _ _ _ hr1_0
  have c0_2 := cell_of_row _ _ 2 _ _ _ hr1_0
  have c0_3 := cell_of_row _ _ 3 _ _ _ hr1_0
  have c0_4 := cell_of_row _ _ 4 _ _ _ hr1_0
  simp at c0_0 c0_1 c0_2 c0_3 c0_4
  go_upto_region 7 with fail
  clear c0_0 c0_1 c0_2 c0_3 c0_4
  refine wp_region_held_drew (S := fun y => y.heap[w.heap.size]? = some (.cells #[.int .i64 2, .int .i64 c1, .int .i64 c2, .int .i64 c3, .int .i64 ro] 59 (0, 0)) ∧ y.heap[w.heap.size + 1]? = some (.cells #[.int .i64 d1_, .int .i64 d2_, .int .i64 d3_] 47 (0, 0)) ∧ y.heap[w.heap.size + 1 + 1]? = some (.cells #[.int .i64 n1, .int .i64 n2, .int .i64 n3] 47 (0, 0))) (by kernel_rfl) (⟨hr1_0, hr1_1, hr1_2⟩) (fun hS0 => ?_)
  obtain ⟨y2, hy2⟩ : ∃ y, y1.drew = y := ⟨_, rfl⟩
  have HU2 := Lib.hid (show Below w.heap.size w y2 by rw [← hy2]; exact HU1.out.drew)
  have hr2_0 : y2.heap[w.heap.size]? = some (.cells #[.int .i64 2, .int .i64 c1, .int .i64 c2, .int .i64 c3, .int .i64 ro] 59 (0, 0)) := by rw [← hy2]; exact hr1_0
  have hr2_1 : y2.heap[w.heap.size + 1]? = some (.cells #[.int .i64 d1_, .int .i64 d2_, .int .i64 d3_] 47 (0, 0)) := by rw [← hy2]; exact hr1_1
  have hr2_2 : y2.heap[w.heap.size + 1 + 1]? = some (.cells #[.int .i64 n1, .int .i64 n2, .int .i64 n3] 47 (0, 0)) := by rw [← hy2]; exact hr1_2
  have hr2_3 : y2.heap[w.heap.size + 1 + 1 + 1]? = some (.cells #[.int .i64 0, .int .i64 0, .int .i64 0, .int .i64 0, .int .i64 0, .int .i64 0, .bool false, .bool false] 70 (0, 0)) := by rw [← hy2]; exact hr1_3
  have hr2_4 : y2.heap[y0.heap.size]? = some (.cells #[.int .i64 0, .int .i64 0, .int .i64 0] 47 (0, 0)) := by rw [← hy2]; exact hr1_4
  rw [hy2] at hS0 ⊢
  clear hy2
  refine wpAnyH_take (i := 0) (v := ?_) rfl (by kernel_rfl) (by kernel_rfl) (by kernel_rfl) (fun _ _ _ h => h) (Or.inl ⟨by kernel_rfl, by (intro wz hSz; have c0_0 := cell_of_row _ _ 0 _ _ _ hSz.1; have c0_1 := cell_of_row _ _ 1 _ _ _ hSz.1; have c0_2 := cell_of_row _ _ 2 _ _ _ hSz.1; have c0_3 := cell_of_row _ _ 3 _ _ _ hSz.1; have c0_4 := cell_of_row _ _ 4 _ _ _ hSz.1; have c1_0 := cell_of_row _ _ 0 _ _ _ hSz.2.1; have c1_1 := cell_of_row _ _ 1 _ _ _ hSz.2.1; have c1_2 := cell_of_row _ _ 2 _ _ _ hSz.2.1; have c2_0 := cell_of_row _ _ 0 _ _ _ hSz.2.2; have c2_1 := cell_of_row _ _ 1 _ _ _ hSz.2.2; have c2_2 := cell_of_row _ _ 2 _ _ _ hSz.2.2; simp at c0_0 c0_1 c0_2 c0_3 c0_4 c1_0 c1_1 c1_2 c2_0 c2_1 c2_2; go_simp; try with_reducible rfl)⟩) hS0 ?_
  go_simp
  refine wpAnyH_take (i := 1) (v := ?_) rfl (by kernel_rfl) (by kernel_rfl) (by kernel_rfl) (fun _ _ _ h => h) (Or.inl ⟨by kernel_rfl, by (intro wz hSz; have c0_0 := cell_of_row _ _ 0 _ _ _ hSz.1; have c0_1 := cell_of_row _ _ 1 _ _ _ hSz.1; have c0_2 := cell_of_row _ _ 2 _ _ _ hSz.1; have c0_3 := cell_of_row _ _ 3 _ _ _ hSz.1; have c0_4 := cell_of_row _ _ 4 _ _ _ hSz.1; have c1_0 := cell_of_row _ _ 0 _ _ _ hSz.2.1; have c1_1 := cell_of_row _ _ 1 _ _ _ hSz.2.1; have c1_2 := cell_of_row _ _ 2 _ _ _ hSz.2.1; have c2_0 := cell_of_row _ _ 0 _ _ _ hSz.2.2; have c2_1 := cell_of_row _ _ 1 _ _ _ hSz.2.2; have c2_2 := cell_of_row _ _ 2 _ _ _ hSz.2.2; simp at c0_0 c0_1 c0_2 c0_3 c0_4 c1_0 c1_1 c1_2 c2_0 c2_1 c2_2; go_simp; try with_reducible rfl)⟩) hS0 ?_
  go_simp
  refine wpAnyH_take (i := 3) (v := ?_) rfl (by kernel_rfl) (by kernel_rfl) (by kernel_rfl) (fun _ _ _ h => h) (Or.inl ⟨by kernel_rfl, by (intro wz hSz; have c0_0 := cell_of_row _ _ 0 _ _ _ hSz.1; have c0_1 := cell_of_row _ _ 1 _ _ _ hSz.1; have c0_2 := cell_of_row _ _ 2 _ _ _ hSz.1; have c0_3 := cell_of_row _ _ 3 _ _ _ hSz.1; have c0_4 := cell_of_row _ _ 4 _ _ _ hSz.1; have c1_0 := cell_of_row _ _ 0 _ _ _ hSz.2.1; have c1_1 := cell_of_row _ _ 1 _ _ _ hSz.2.1; have c1_2 := cell_of_row _ _ 2 _ _ _ hSz.2.1; have c2_0 := cell_of_row _ _ 0 _ _ _ hSz.2.2; have c2_1 := cell_of_row _ _ 1 _ _ _ hSz.2.2; have c2_2 := cell_of_row _ _ 2 _ _ _ hSz.2.2; simp at c0_0 c0_1 c0_2 c0_3 c0_4 c1_0 c1_1 c1_2 c2_0 c2_1 c2_2; go_simp; try with_reducible rfl)⟩) hS0 ?_
  go_simp
  refine wpAnyH_take (i := 4) (v := ?_) rfl (by kernel_rfl) (by kernel_rfl) (by kernel_rfl) (fun _ _ _ h => h) (Or.inl ⟨by kernel_rfl, by (intro wz hSz; go_simp; try with_reducible rfl)⟩) hS0 ?_
  go_simp
  refine wpAnyH_take (i := 5) (v := ?_) rfl (by kernel_rfl) (by kernel_rfl) (by kernel_rfl) (fun _ _ _ h => h) (Or.inl ⟨by kernel_rfl, by (intro wz hSz; go_simp; try with_reducible rfl)⟩) hS0 ?_
  go_simp
  refine wpAnyH_take (i := 7) (v := ?_) rfl (by kernel_rfl) (by kernel_rfl) (by kernel_rfl) (fun _ _ _ h => h) (Or.inl ⟨by kernel_rfl, by (intro wz hSz; go_simp; try with_reducible rfl)⟩) hS0 ?_
  go_simp
  refine wpAnyH_take (i := 8) (v := ?_) rfl (by kernel_rfl) (by kernel_rfl) (by kernel_rfl) (fun _ _ _ h => h) (Or.inl ⟨by kernel_rfl, by (intro wz hSz; have c0_0 := cell_of_row _ _ 0 _ _ _ hSz.1; have c0_1 := cell_of_row _ _ 1 _ _ _ hSz.1; have c0_2 := cell_of_row _ _ 2 _ _ _ hSz.1; have c0_3 := cell_of_row _ _ 3 _ _ _ hSz.1; have c0_4 := cell_of_row _ _ 4 _ _ _ hSz.1; have c1_0 := cell_of_row _ _ 0 _ _ _ hSz.2.1; have c1_1 := cell_of_row _ _ 1 _ _ _ hSz.2.1; have c1_2 := cell_of_row _ _ 2 _ _ _ hSz.2.1; have c2_0 := cell_of_row _ _ 0 _ _ _ hSz.2.2; have c2_1 := cell_of_row _ _ 1 _ _ _ hSz.2.2; have c2_2 := cell_of_row _ _ 2 _ _ _ hSz.2.2; simp at c0_0 c0_1 c0_2 c0_3 c0_4 c1_0 c1_1 c1_2 c2_0 c2_1 c2_2; go_simp; try with_reducible rfl)⟩) hS0 ?_
  go_simp
  refine wpAnyH_ready (rs := [2]) (by kernel_rfl) (by simp) ?_
  refine AllReadyH.cons rfl (fun K hK => ?_) AllReadyH.nil
  go_simp
  go_wp2_with (go_at_call 38; refine (hM _).mono ?_; rintro e y3 ⟨rfl, hb3⟩)
  have hr3_0 := (hb3.block _ (lt_heap hr2_0)).trans hr2_0
  have hr3_1 := (hb3.block _ (lt_heap hr2_1)).trans hr2_1
  have hr3_2 := (hb3.block _ (lt_heap hr2_2)).trans hr2_2
  have hr3_3 := (hb3.block _ (lt_heap hr2_3)).trans hr2_3
  have hr3_4 := (hb3.block _ (lt_heap hr2_4)).trans hr2_4
  have HU3 := Lib.hid (HU2.out.trans (hb3.mono HU2.out.size))
  refine hK.out _ _ (⟨(hb3.block _ (lt_heap hS0.1)).trans hS0.1, (hb3.block _ (lt_heap hS0.2.1)).trans hS0.2.1, (hb3.block _ (lt_heap hS0.2.2)).trans hS0.2.2⟩) (fun hS3c => ?_)
  clear hK K
  refine wpAnyH_ready (rs := [6]) (by kernel_rfl) (by simp) ?_
  refine AllReadyH.cons rfl (fun K hK => ?_) AllReadyH.nil
  go_simp
  go_wp2_with (go_at_call 36; refine (hD _).mono ?_; rintro e y4 ⟨rfl, hb4⟩)
  have hr4_0 := (hb4.block _ (lt_heap hr3_0)).trans hr3_0
  have hr4_1 := (hb4.block _ (lt_heap hr3_1)).trans hr3_1
  have hr4_2 := (hb4.block _ (lt_heap hr3_2)).trans hr3_2
  have hr4_3 := (hb4.block _ (lt_heap hr3_3)).trans hr3_3
  have hr4_4 := (hb4.block _ (lt_heap hr3_4)).trans hr3_4
  have HU4 := Lib.hid (HU3.out.trans (hb4.mono HU3.out.size))
  refine hK.out _ _ (⟨(hb4.block _ (lt_heap hS3c.1)).trans hS3c.1, (hb4.block _ (lt_heap hS3c.2.1)).trans hS3c.2.1, (hb4.block _ (lt_heap hS3c.2.2)).trans hS3c.2.2⟩) (fun hS4c => ?_)
  clear hK K
  refine wpAnyH_ready (rs := [9]) (by kernel_rfl) (by simp) ?_
  refine AllReadyH.cons rfl (fun K hK => ?_) AllReadyH.nil
  go_simp
  go_wp2_with (go_at_call 40; refine (hC _).mono ?_; rintro e y5 ⟨rfl, hb5⟩)
  have hr5_0 := (hb5.block _ (lt_heap hr4_0)).trans hr4_0
  have hr5_1 := (hb5.block _ (lt_heap hr4_1)).trans hr4_1
  have hr5_2 := (hb5.block _ (lt_heap hr4_2)).trans hr4_2
  have hr5_3 := (hb5.block _ (lt_heap hr4_3)).trans hr4_3
  have hr5_4 := (hb5.block _ (lt_heap hr4_4)).trans hr4_4
  have HU5 := Lib.hid (HU4.out.trans (hb5.mono HU4.out.size))
  refine hK.out _ _ (⟨(hb5.block _ (lt_heap hS4c.1)).trans hS4c.1, (hb5.block _ (lt_heap hS4c.2.1)).trans hS4c.2.1, (hb5.block _ (lt_heap hS4c.2.2)).trans hS4c.2.2⟩) (fun hS5c => ?_)
  clear hK K
  refine wpAnyH_ready (rs := [10]) (by kernel_rfl) (by simp) ?_
  refine AllReadyH.cons rfl (fun K hK => ?_) AllReadyH.nil
  go_simp
  go_wp2_with (go_at_call 39; refine (hA _).mono ?_; rintro e y6 ⟨rfl, hb6⟩)
  have hr6_0 := (hb6.block _ (lt_heap hr5_0)).trans hr5_0
  have hr6_1 := (hb6.block _ (lt_heap hr5_1)).trans hr5_1
  have hr6_2 := (hb6.block _ (lt_heap hr5_2)).trans hr5_2
  have hr6_3 := (hb6.block _ (lt_heap hr5_3)).trans hr5_3
  have hr6_4 := (hb6.block _ (lt_heap hr5_4)).trans hr5_4
  have HU6 := Lib.hid (HU5.out.trans (hb6.mono HU5.out.size))
  refine hK.out _ _ (⟨(hb6.block _ (lt_heap hS5c.1)).trans hS5c.1, (hb6.block _ (lt_heap hS5c.2.1)).trans hS5c.2.1, (hb6.block _ (lt_heap hS5c.2.2)).trans hS5c.2.2⟩) (fun hS6c => ?_)
  clear hK K
  refine wpAnyH_ready (rs := [11]) (by kernel_rfl) (by simp) ?_
  refine AllReadyH.cons rfl (fun K hK => ?_) AllReadyH.nil
  go_simp
  go_wp2_with (go_at_call 37; refine (hV _).mono ?_; rintro e y7 ⟨rfl, hb7⟩)
  have hr7_0 := (hb7.block _ (lt_heap hr6_0)).trans hr6_0
  have hr7_1 := (hb7.block _ (lt_heap hr6_1)).trans hr6_1
  have hr7_2 := (hb7.block _ (lt_heap hr6_2)).trans hr6_2
  have hr7_3 := (hb7.block _ (lt_heap hr6_3)).trans hr6_3
  have hr7_4 := (hb7.block _ (lt_heap hr6_4)).trans hr6_4
  have HU7 := Lib.hid (HU6.out.trans (hb7.mono HU6.out.size))
  refine hK.out _ _ (⟨(hb7.block _ (lt_heap hS6c.1)).trans hS6c.1, (hb7.block _ (lt_heap hS6c.2.1)).trans hS6c.2.1, (hb7.block _ (lt_heap hS6c.2.2)).trans hS6c.2.2⟩) (fun hS7c => ?_)
  clear hK K
  refine wpAnyH_ready (rs := [12]) (by kernel_rfl) (by simp) ?_
  refine AllReadyH.cons rfl (fun K hK => ?_) AllReadyH.nil
  refine step_store_row rfl 47 (.tmp 11) (.tmp 40) rfl #[.int .i64 0, .int .i64 0, .int .i64 0] #[.int .i64 x1, .int .i64 x2, .int .i64 x3] _ 47 hr7_4 rfl (by first | rfl | (go_simp; done) | (go_simp; rfl)) (by kernel_rfl) rfl (by simp [Value.oneCell']) ?_
  have hN := setRow_heap _ (y0.heap.size) _ #[.int .i64 x1, .int .i64 x2, .int .i64 x3] _ _ hr7_4
  have hsz := HU7.out.size
  have HUx := below_setRow (g := y0.heap.size) HU7.out (by first | omega | (simp at *; omega)) #[.int .i64 x1, .int .i64 x2, .int .i64 x3]
  obtain ⟨y8, hy8⟩ : ∃ y, y7.setRow (y0.heap.size) #[.int .i64 x1, .int .i64 x2, .int .i64 x3] = y := ⟨_, rfl⟩
  have hO : ∀ k, k ≠ y0.heap.size → y8.heap[k]? = y7.heap[k]? := fun k hk => by rw [← hy8]; exact setRow_other _ _ _ _ hk
  rw [hy8] at hN HUx ⊢
  clear hy8
  have HU8 := Lib.hid HUx
  clear HUx
  have hr8_0 := (hO _ (by omega)).trans hr7_0
  have hr8_1 := (hO _ (by omega)).trans hr7_1
  have hr8_2 := (hO _ (by omega)).trans hr7_2
  have hr8_3 := (hO _ (by omega)).trans hr7_3
  have hr8_4 := hN
  clear hN
  refine hK.out _ _ (⟨(hO _ (by omega)).trans hS7c.1, (hO _ (by omega)).trans hS7c.2.1, (hO _ (by omega)).trans hS7c.2.2⟩) (fun hS8s => ?_)
  clear hK K
  refine wpAnyH_done (by kernel_rfl) ?_ _
  go_upto_region 9 with fail
  have c2_0 := cell_of_row _ _ 0 _ _ _ hr8_2
  have c2_1 := cell_of_row _ _ 1 _ _ _ hr8_2
  have c2_2 := cell_of_row _ _ 2 _ _ _ hr8_2
  have c4_0 := cell_of_row _ _ 0 _ _ _ hr8_4
  have c4_1 := cell_of_row _ _ 1 _ _ _ hr8_4
  have c4_2 := cell_of_row _ _ 2 _ _ _ hr8_4
  simp at c2_0 c2_1 c2_2 c4_0 c4_1 c4_2
  go_wp2_with fail
  refine (hT _).mono ?_
  rintro e y9 ⟨rfl, hb9⟩
  clear c2_0 c2_1 c2_2 c4_0 c4_1 c4_2
  have hr9_0 := (hb9.block _ (lt_heap hr8_0)).trans hr8_0
  have hr9_1 := (hb9.block _ (lt_heap hr8_1)).trans hr8_1
  have hr9_2 := (hb9.block _ (lt_heap hr8_2)).trans hr8_2
  have hr9_3 := (hb9.block _ (lt_heap hr8_3)).trans hr8_3
  have hr9_4 := (hb9.block _ (lt_heap hr8_4)).trans hr8_4
  have HU9 := Lib.hid (HU8.out.trans (hb9.mono HU8.out.size))
  clear hr8_0 hr8_1 hr8_2 hr8_3 hr8_4 HU8
  go_upto_region 11 with fail
  have c0_0 := cell_of_row _ _ 0 _ _ _ hr9_0
  have c0_1 := cell_of_row _ _ 1 _ _ _ hr9_0
  have c0_2 := cell_of_row _ _ 2 _ _ _ hr9_0
  have c0_3 := cell_of_row _ _ 3 _ _ _ hr9_0
  have c0_4 := cell_of_row _ _ 4 _ _ _ hr9_0
  have c4_0 := cell_of_row _ _ 0 _ _ _ hr9_4
  have c4_1 := cell_of_row _ _ 1 _ _ _ hr9_4
  have c4_2 := cell_of_row _ _ 2 _ _ _ hr9_4
  simp at c0_0 c0_1 c0_2 c0_3 c0_4 c4_0 c4_1 c4_2
  have hHr := Lib.hid hr9_3
  have hHi := Lib.hid (show (Try.prog.info? 70).map (·.size) = some (#[.int .i64 x1, .int .i64 x2, .int .i64 x3, .int .i64 c1, .int .i64 c2, .int .i64 c3, .bool true, .bool true] : Array Value).size by kernel_rfl)
  have hHz := Lib.hid (show (#[.int .i64 0, .int .i64 0, .int .i64 0, .int .i64 0, .int .i64 0, .int .i64 0, .bool false, .bool false] : Array Value).size = (#[.int .i64 x1, .int .i64 x2, .int .i64 x3, .int .i64 c1, .int .i64 c2, .int .i64 c3, .bool true, .bool true] : Array Value).size from rfl)
  have hHo := Lib.hid (show (#[.int .i64 x1, .int .i64 x2, .int .i64 x3, .int .i64 c1, .int .i64 c2, .int .i64 c3, .bool true, .bool true] : Array Value).all (·.oneCell') = true by simp [Value.oneCell'])
  go_wp2_with (first | (refine Au.wpList_store_row rfl 70 (.tmp 10) (.tmp 53) rfl y9 #[.int .i64 0, .int .i64 0, .int .i64 0, .int .i64 0, .int .i64 0, .int .i64 0, .bool false, .bool false] #[.int .i64 x1, .int .i64 x2, .int .i64 x3, .int .i64 c1, .int .i64 c2, .int .i64 c3, .bool true, .bool true] (w.heap.size + 1 + 1 + 1) 70 hHr.out rfl rfl hHi.out hHz.out hHo.out ?_))
  clear c0_0 c0_1 c0_2 c0_3 c0_4 c4_0 c4_1 c4_2
  clear hHr hHi hHz hHo
  have hN := setRow_heap _ (w.heap.size + 1 + 1 + 1) _ #[.int .i64 x1, .int .i64 x2, .int .i64 x3, .int .i64 c1, .int .i64 c2, .int .i64 c3, .bool true, .bool true] _ _ hr9_3
  have hsz := HU9.out.size
  have HUx := below_setRow (g := w.heap.size + 1 + 1 + 1) HU9.out (by first | omega | (simp at *; omega)) #[.int .i64 x1, .int .i64 x2, .int .i64 x3, .int .i64 c1, .int .i64 c2, .int .i64 c3, .bool true, .bool true]
  have hO : ∀ kk, kk ≠ w.heap.size + 1 + 1 + 1 → (y9.setRow (w.heap.size + 1 + 1 + 1) #[.int .i64 x1, .int .i64 x2, .int .i64 x3, .int .i64 c1, .int .i64 c2, .int .i64 c3, .bool true, .bool true]).heap[kk]? = y9.heap[kk]? := fun kk hk => setRow_other _ _ _ _ hk
  obtain ⟨y10, hy10⟩ : ∃ y, y9.setRow (w.heap.size + 1 + 1 + 1) #[.int .i64 x1, .int .i64 x2, .int .i64 x3, .int .i64 c1, .int .i64 c2, .int .i64 c3, .bool true, .bool true] = y := ⟨_, rfl⟩
  rw [hy10] at hN HUx hO ⊢
  clear hy10 hsz
  have HU10 := Lib.hid HUx
  clear HUx
  have hr10_0 := (hO _ (by omega)).trans hr9_0
  have hr10_1 := (hO _ (by omega)).trans hr9_1
  have hr10_2 := (hO _ (by omega)).trans hr9_2
  have hr10_3 := hN
  have hr10_4 := (hO _ (by omega)).trans hr9_4
  clear hN hO
  clear hr9_0 hr9_1 hr9_2 hr9_3 hr9_4 HU9
  have c3_0 := cell_of_row _ _ 0 _ _ _ hr10_3
  have c3_1 := cell_of_row _ _ 1 _ _ _ hr10_3
  have c3_2 := cell_of_row _ _ 2 _ _ _ hr10_3
  have c3_3 := cell_of_row _ _ 3 _ _ _ hr10_3
  have c3_4 := cell_of_row _ _ 4 _ _ _ hr10_3
  have c3_5 := cell_of_row _ _ 5 _ _ _ hr10_3
  have c3_6 := cell_of_row _ _ 6 _ _ _ hr10_3
  have c3_7 := cell_of_row _ _ 7 _ _ _ hr10_3
  simp at c3_0 c3_1 c3_2 c3_3 c3_4 c3_5 c3_6 c3_7
  go_wp2
  exact bodyPost_ret (v := .agg #[.int .i64 x1, .int .i64 x2, .int .i64 x3, .int .i64 c1, .int .i64 c2, .int .i64 c3, .bool true, .bool true]) (by simp [results, Try.results19, go_sem, c3_0, c3_1, c3_2, c3_3, c3_4, c3_5, c3_6, c3_7]) rfl ⟨rfl, HU10.out⟩

set_option maxHeartbeats 4000000 in
set_option maxRecDepth 100000 in
theorem rbounce2_neg (c1 c2 c3 ro d1_ d2_ d3_ n1 n2 n3 u v x1 x2 x3 m1 m2 m3 s1 s2 s3 e1 e2 e3 p1 p2 p3 z : Int)
    (hD : ∀ W : World, Calls Try.prog 36 #[.agg #[.int .i64 n1, .int .i64 n2, .int .i64 n3], .int .i64 u, .int .i64 v] W fun e' w' => e' = .returned (.agg #[.int .i64 e1, .int .i64 e2, .int .i64 e3]) ∧ Below W.heap.size W w')
    (hM : ∀ W : World, Calls Try.prog 38 #[.agg #[.int .i64 d1_, .int .i64 d2_, .int .i64 d3_], .agg #[.int .i64 n1, .int .i64 n2, .int .i64 n3]] W fun e' w' => e' = .returned (.agg #[.int .i64 m1, .int .i64 m2, .int .i64 m3]) ∧ Below W.heap.size W w')
    (hC : ∀ W : World, Calls Try.prog 40 #[.agg #[.int .i64 e1, .int .i64 e2, .int .i64 e3], .int .i64 ro] W fun e' w' => e' = .returned (.agg #[.int .i64 p1, .int .i64 p2, .int .i64 p3]) ∧ Below W.heap.size W w')
    (hA : ∀ W : World, Calls Try.prog 39 #[.agg #[.int .i64 m1, .int .i64 m2, .int .i64 m3], .agg #[.int .i64 p1, .int .i64 p2, .int .i64 p3]] W fun e' w' => e' = .returned (.agg #[.int .i64 s1, .int .i64 s2, .int .i64 s3]) ∧ Below W.heap.size W w')
    (hV : ∀ W : World, Calls Try.prog 37 #[.agg #[.int .i64 s1, .int .i64 s2, .int .i64 s3]] W fun e' w' => e' = .returned (.agg #[.int .i64 x1, .int .i64 x2, .int .i64 x3]) ∧ Below W.heap.size W w')
    (hT : ∀ W : World, Calls Try.prog 41 #[.agg #[.int .i64 x1, .int .i64 x2, .int .i64 x3], .agg #[.int .i64 n1, .int .i64 n2, .int .i64 n3]] W fun e' w' => e' = .returned (.int .i64 z) ∧ Below W.heap.size W w')
    (hz : z ≤ 0) (w : World)  : Calls Try.prog 19 #[.agg #[.int .i64 2, .int .i64 c1, .int .i64 c2, .int .i64 c3, .int .i64 ro], .agg #[.int .i64 d1_, .int .i64 d2_, .int .i64 d3_], .agg #[.int .i64 n1, .int .i64 n2, .int .i64 n3], .int .i64 u, .int .i64 v] w fun e' w' => e' = .returned (.agg #[.int .i64 0, .int .i64 0, .int .i64 0, .int .i64 0, .int .i64 0, .int .i64 0, .bool false, .bool false]) ∧ Below w.heap.size w w' := by
  have dz := decide_eq_true hz
  go_enter Try.func19, Try.ntmps19
  go_upto_region 1 with fail
  have hR := Au.rows4 w (.cells #[.int .i64 2, .int .i64 c1, .int .i64 c2, .int .i64 c3, .int .i64 ro] 59) (.cells #[.int .i64 d1_, .int .i64 d2_, .int .i64 d3_] 47) (.cells #[.int .i64 n1, .int .i64 n2, .int .i64 n3] 47) (.cells #[.int .i64 0, .int .i64 0, .int .i64 0, .int .i64 0, .int .i64 0, .int .i64 0, .bool false, .bool false] 70)
  have HUx := below_n4 w (.cells #[.int .i64 2, .int .i64 c1, .int .i64 c2, .int .i64 c3, .int .i64 ro] 59) (.cells #[.int .i64 d1_, .int .i64 d2_, .int .i64 d3_] 47) (.cells #[.int .i64 n1, .int .i64 n2, .int .i64 n3] 47) (.cells #[.int .i64 0, .int .i64 0, .int .i64 0, .int .i64 0, .int .i64 0, .int .i64 0, .bool false, .bool false] 70)
  obtain ⟨y0, hy0⟩ : ∃ y0, (((w.alloc (.cells #[.int .i64 2, .int .i64 c1, .int .i64 c2, .int .i64 c3, .int .i64 ro] 59)).alloc (.cells #[.int .i64 d1_, .int .i64 d2_, .int .i64 d3_] 47)).alloc (.cells #[.int .i64 n1, .int .i64 n2, .int .i64 n3] 47)).alloc (.cells #[.int .i64 0, .int .i64 0, .int .i64 0, .int .i64 0, .int .i64 0, .int .i64 0, .bool false, .bool false] 70) = y0 := ⟨_, rfl⟩
  rw [hy0] at hR HUx ⊢
  clear hy0
  have HU0 := Lib.hid HUx
  clear HUx
  obtain ⟨hr0_0, hr0_1, hr0_2, hr0_3⟩ := hR
  go_upto_region 2 with fail
  have hb1 := below_n1 y0 (.cells #[.int .i64 0, .int .i64 0, .int .i64 0] 47)
  have hN := heap_alloc_last y0 (.cells #[.int .i64 0, .int .i64 0, .int .i64 0] 47)
  obtain ⟨y1, hy1⟩ : ∃ y, y0.alloc (.cells #[.int .i64 0, .int .i64 0, .int .i64 0] 47) = y := ⟨_, rfl⟩
  have hs1 : y1.heap.size = y0.heap.size + 1 := by rw [← hy1]; simp
  rw [hy1] at hb1 hN ⊢
  clear hy1
  have hl1_0 := lt_heap hr0_0
  have hl1_1 := lt_heap hr0_1
  have hl1_2 := lt_heap hr0_2
  have hl1_3 := lt_heap hr0_3
  have hr1_0 := (hb1.block _ (lt_heap hr0_0)).trans hr0_0
  have hr1_1 := (hb1.block _ (lt_heap hr0_1)).trans hr0_1
  have hr1_2 := (hb1.block _ (lt_heap hr0_2)).trans hr0_2
  have hr1_3 := (hb1.block _ (lt_heap hr0_3)).trans hr0_3
  have HU1 := Lib.hid (HU0.out.trans (hb1.mono HU0.out.size))
  clear hr0_0 hr0_1 hr0_2 hr0_3 HU0
  have hr1_4 := hN
  clear hN
  have c0_0 := cell_of_row _ _ 0 _ _ _ hr1_0
  have c0_1 := cell_of_row _ _ 1 _ _ _ hr1_0
  have c0_2 := cell_of_row _ _ 2 _ _ _ hr1_0
  have c0_3 := cell_of_row _ _ 3 _ _ _ hr1_0
  have c0_4 := cell_of_row _ _ 4 _ _ _ hr1_0
  simp at c0_0 c0_1 c0_2 c0_3 c0_4
  go_upto_region 7 with fail
  clear c0_0 c0_1 c0_2 c0_3 c0_4
  refine wp_region_held_drew (S := fun y => y.heap[w.heap.size]? = some (.cells #[.int .i64 2, .int .i64 c1, .int .i64 c2, .int .i64 c3, .int .i64 ro] 59 (0, 0)) ∧ y.heap[w.heap.size + 1]? = some (.cells #[.int .i64 d1_, .int .i64 d2_, .int .i64 d3_] 47 (0, 0)) ∧ y.heap[w.heap.size + 1 + 1]? = some (.cells #[.int .i64 n1, .int .i64 n2, .int .i64 n3] 47 (0, 0))) (by kernel_rfl) (⟨hr1_0, hr1_1, hr1_2⟩) (fun hS0 => ?_)
  obtain ⟨y2, hy2⟩ : ∃ y, y1.drew = y := ⟨_, rfl⟩
  have HU2 := Lib.hid (show Below w.heap.size w y2 by rw [← hy2]; exact HU1.out.drew)
  have hr2_0 : y2.heap[w.heap.size]? = some (.cells #[.int .i64 2, .int .i64 c1, .int .i64 c2, .int .i64 c3, .int .i64 ro] 59 (0, 0)) := by rw [← hy2]; exact hr1_0
  have hr2_1 : y2.heap[w.heap.size + 1]? = some (.cells #[.int .i64 d1_, .int .i64 d2_, .int .i64 d3_] 47 (0, 0)) := by rw [← hy2]; exact hr1_1
  have hr2_2 : y2.heap[w.heap.size + 1 + 1]? = some (.cells #[.int .i64 n1, .int .i64 n2, .int .i64 n3] 47 (0, 0)) := by rw [← hy2]; exact hr1_2
  have hr2_3 : y2.heap[w.heap.size + 1 + 1 + 1]? = some (.cells #[.int .i64 0, .int .i64 0, .int .i64 0, .int .i64 0, .int .i64 0, .int .i64 0, .bool false, .bool false] 70 (0, 0)) := by rw [← hy2]; exact hr1_3
  have hr2_4 : y2.heap[y0.heap.size]? = some (.cells #[.int .i64 0, .int .i64 0, .int .i64 0] 47 (0, 0)) := by rw [← hy2]; exact hr1_4
  rw [hy2] at hS0 ⊢
  clear hy2
  refine wpAnyH_take (i := 0) (v := ?_) rfl (by kernel_rfl) (by kernel_rfl) (by kernel_rfl) (fun _ _ _ h => h) (Or.inl ⟨by kernel_rfl, by (intro wz hSz; have c0_0 := cell_of_row _ _ 0 _ _ _ hSz.1; have c0_1 := cell_of_row _ _ 1 _ _ _ hSz.1; have c0_2 := cell_of_row _ _ 2 _ _ _ hSz.1; have c0_3 := cell_of_row _ _ 3 _ _ _ hSz.1; have c0_4 := cell_of_row _ _ 4 _ _ _ hSz.1; have c1_0 := cell_of_row _ _ 0 _ _ _ hSz.2.1; have c1_1 := cell_of_row _ _ 1 _ _ _ hSz.2.1; have c1_2 := cell_of_row _ _ 2 _ _ _ hSz.2.1; have c2_0 := cell_of_row _ _ 0 _ _ _ hSz.2.2; have c2_1 := cell_of_row _ _ 1 _ _ _ hSz.2.2; have c2_2 := cell_of_row _ _ 2 _ _ _ hSz.2.2; simp at c0_0 c0_1 c0_2 c0_3 c0_4 c1_0 c1_1 c1_2 c2_0 c2_1 c2_2; go_simp; try with_reducible rfl)⟩) hS0 ?_
  go_simp
  refine wpAnyH_take (i := 1) (v := ?_) rfl (by kernel_rfl) (by kernel_rfl) (by kernel_rfl) (fun _ _ _ h => h) (Or.inl ⟨by kernel_rfl, by (intro wz hSz; have c0_0 := cell_of_row _ _ 0 _ _ _ hSz.1; have c0_1 := cell_of_row _ _ 1 _ _ _ hSz.1; have c0_2 := cell_of_row _ _ 2 _ _ _ hSz.1; have c0_3 := cell_of_row _ _ 3 _ _ _ hSz.1; have c0_4 := cell_of_row _ _ 4 _ _ _ hSz.1; have c1_0 := cell_of_row _ _ 0 _ _ _ hSz.2.1; have c1_1 := cell_of_row _ _ 1 _ _ _ hSz.2.1; have c1_2 := cell_of_row _ _ 2 _ _ _ hSz.2.1; have c2_0 := cell_of_row _ _ 0 _ _ _ hSz.2.2; have c2_1 := cell_of_row _ _ 1 _ _ _ hSz.2.2; have c2_2 := cell_of_row _ _ 2 _ _ _ hSz.2.2; simp at c0_0 c0_1 c0_2 c0_3 c0_4 c1_0 c1_1 c1_2 c2_0 c2_1 c2_2; go_simp; try with_reducible rfl)⟩) hS0 ?_
  go_simp
  refine wpAnyH_take (i := 3) (v := ?_) rfl (by kernel_rfl) (by kernel_rfl) (by kernel_rfl) (fun _ _ _ h => h) (Or.inl ⟨by kernel_rfl, by (intro wz hSz; have c0_0 := cell_of_row _ _ 0 _ _ _ hSz.1; have c0_1 := cell_of_row _ _ 1 _ _ _ hSz.1; have c0_2 := cell_of_row _ _ 2 _ _ _ hSz.1; have c0_3 := cell_of_row _ _ 3 _ _ _ hSz.1; have c0_4 := cell_of_row _ _ 4 _ _ _ hSz.1; have c1_0 := cell_of_row _ _ 0 _ _ _ hSz.2.1; have c1_1 := cell_of_row _ _ 1 _ _ _ hSz.2.1; have c1_2 := cell_of_row _ _ 2 _ _ _ hSz.2.1; have c2_0 := cell_of_row _ _ 0 _ _ _ hSz.2.2; have c2_1 := cell_of_row _ _ 1 _ _ _ hSz.2.2; have c2_2 := cell_of_row _ _ 2 _ _ _ hSz.2.2; simp at c0_0 c0_1 c0_2 c0_3 c0_4 c1_0 c1_1 c1_2 c2_0 c2_1 c2_2; go_simp; try with_reducible rfl)⟩) hS0 ?_
  go_simp
  refine wpAnyH_take (i := 4) (v := ?_) rfl (by kernel_rfl) (by kernel_rfl) (by kernel_rfl) (fun _ _ _ h => h) (Or.inl ⟨by kernel_rfl, by (intro wz hSz; go_simp; try with_reducible rfl)⟩) hS0 ?_
  go_simp
  refine wpAnyH_take (i := 5) (v := ?_) rfl (by kernel_rfl) (by kernel_rfl) (by kernel_rfl) (fun _ _ _ h => h) (Or.inl ⟨by kernel_rfl, by (intro wz hSz; go_simp; try with_reducible rfl)⟩) hS0 ?_
  go_simp
  refine wpAnyH_take (i := 7) (v := ?_) rfl (by kernel_rfl) (by kernel_rfl) (by kernel_rfl) (fun _ _ _ h => h) (Or.inl ⟨by kernel_rfl, by (intro wz hSz; go_simp; try with_reducible rfl)⟩) hS0 ?_
  go_simp
  refine wpAnyH_take (i := 8) (v := ?_) rfl (by kernel_rfl) (by kernel_rfl) (by kernel_rfl) (fun _ _ _ h => h) (Or.inl ⟨by kernel_rfl, by (intro wz hSz; have c0_0 := cell_of_row _ _ 0 _ _ _ hSz.1; have c0_1 := cell_of_row _ _ 1 _ _ _ hSz.1; have c0_2 := cell_of_row _ _ 2 _ _ _ hSz.1; have c0_3 := cell_of_row _ _ 3 _ _ _ hSz.1; have c0_4 := cell_of_row _ _ 4 _ _ _ hSz.1; have c1_0 := cell_of_row _ _ 0 _ _ _ hSz.2.1; have c1_1 := cell_of_row _ _ 1 _ _ _ hSz.2.1; have c1_2 := cell_of_row _ _ 2 _ _ _ hSz.2.1; have c2_0 := cell_of_row _ _ 0 _ _ _ hSz.2.2; have c2_1 := cell_of_row _ _ 1 _ _ _ hSz.2.2; have c2_2 := cell_of_row _ _ 2 _ _ _ hSz.2.2; simp at c0_0 c0_1 c0_2 c0_3 c0_4 c1_0 c1_1 c1_2 c2_0 c2_1 c2_2; go_simp; try with_reducible rfl)⟩) hS0 ?_
  go_simp
  refine wpAnyH_ready (rs := [2]) (by kernel_rfl) (by simp) ?_
  refine AllReadyH.cons rfl (fun K hK => ?_) AllReadyH.nil
  go_simp
  go_wp2_with (go_at_call 38; refine (hM _).mono ?_; rintro e y3 ⟨rfl, hb3⟩)
  have hr3_0 := (hb3.block _ (lt_heap hr2_0)).trans hr2_0
  have hr3_1 := (hb3.block _ (lt_heap hr2_1)).trans hr2_1
  have hr3_2 := (hb3.block _ (lt_heap hr2_2)).trans hr2_2
  have hr3_3 := (hb3.block _ (lt_heap hr2_3)).trans hr2_3
  have hr3_4 := (hb3.block _ (lt_heap hr2_4)).trans hr2_4
  have HU3 := Lib.hid (HU2.out.trans (hb3.mono HU2.out.size))
  refine hK.out _ _ (⟨(hb3.block _ (lt_heap hS0.1)).trans hS0.1, (hb3.block _ (lt_heap hS0.2.1)).trans hS0.2.1, (hb3.block _ (lt_heap hS0.2.2)).trans hS0.2.2⟩) (fun hS3c => ?_)
  clear hK K
  refine wpAnyH_ready (rs := [6]) (by kernel_rfl) (by simp) ?_
  refine AllReadyH.cons rfl (fun K hK => ?_) AllReadyH.nil
  go_simp
  go_wp2_with (go_at_call 36; refine (hD _).mono ?_; rintro e y4 ⟨rfl, hb4⟩)
  have hr4_0 := (hb4.block _ (lt_heap hr3_0)).trans hr3_0
  have hr4_1 := (hb4.block _ (lt_heap hr3_1)).trans hr3_1
  have hr4_2 := (hb4.block _ (lt_heap hr3_2)).trans hr3_2
  have hr4_3 := (hb4.block _ (lt_heap hr3_3)).trans hr3_3
  have hr4_4 := (hb4.block _ (lt_heap hr3_4)).trans hr3_4
  have HU4 := Lib.hid (HU3.out.trans (hb4.mono HU3.out.size))
  refine hK.out _ _ (⟨(hb4.block _ (lt_heap hS3c.1)).trans hS3c.1, (hb4.block _ (lt_heap hS3c.2.1)).trans hS3c.2.1, (hb4.block _ (lt_heap hS3c.2.2)).trans hS3c.2.2⟩) (fun hS4c => ?_)
  clear hK K
  refine wpAnyH_ready (rs := [9]) (by kernel_rfl) (by simp) ?_
  refine AllReadyH.cons rfl (fun K hK => ?_) AllReadyH.nil
  go_simp
  go_wp2_with (go_at_call 40; refine (hC _).mono ?_; rintro e y5 ⟨rfl, hb5⟩)
  have hr5_0 := (hb5.block _ (lt_heap hr4_0)).trans hr4_0
  have hr5_1 := (hb5.block _ (lt_heap hr4_1)).trans hr4_1
  have hr5_2 := (hb5.block _ (lt_heap hr4_2)).trans hr4_2
  have hr5_3 := (hb5.block _ (lt_heap hr4_3)).trans hr4_3
  have hr5_4 := (hb5.block _ (lt_heap hr4_4)).trans hr4_4
  have HU5 := Lib.hid (HU4.out.trans (hb5.mono HU4.out.size))
  refine hK.out _ _ (⟨(hb5.block _ (lt_heap hS4c.1)).trans hS4c.1, (hb5.block _ (lt_heap hS4c.2.1)).trans hS4c.2.1, (hb5.block _ (lt_heap hS4c.2.2)).trans hS4c.2.2⟩) (fun hS5c => ?_)
  clear hK K
  refine wpAnyH_ready (rs := [10]) (by kernel_rfl) (by simp) ?_
  refine AllReadyH.cons rfl (fun K hK => ?_) AllReadyH.nil
  go_simp
  go_wp2_with (go_at_call 39; refine (hA _).mono ?_; rintro e y6 ⟨rfl, hb6⟩)
  have hr6_0 := (hb6.block _ (lt_heap hr5_0)).trans hr5_0
  have hr6_1 := (hb6.block _ (lt_heap hr5_1)).trans hr5_1
  have hr6_2 := (hb6.block _ (lt_heap hr5_2)).trans hr5_2
  have hr6_3 := (hb6.block _ (lt_heap hr5_3)).trans hr5_3
  have hr6_4 := (hb6.block _ (lt_heap hr5_4)).trans hr5_4
  have HU6 := Lib.hid (HU5.out.trans (hb6.mono HU5.out.size))
  refine hK.out _ _ (⟨(hb6.block _ (lt_heap hS5c.1)).trans hS5c.1, (hb6.block _ (lt_heap hS5c.2.1)).trans hS5c.2.1, (hb6.block _ (lt_heap hS5c.2.2)).trans hS5c.2.2⟩) (fun hS6c => ?_)
  clear hK K
  refine wpAnyH_ready (rs := [11]) (by kernel_rfl) (by simp) ?_
  refine AllReadyH.cons rfl (fun K hK => ?_) AllReadyH.nil
  go_simp
  go_wp2_with (go_at_call 37; refine (hV _).mono ?_; rintro e y7 ⟨rfl, hb7⟩)
  have hr7_0 := (hb7.block _ (lt_heap hr6_0)).trans hr6_0
  have hr7_1 := (hb7.block _ (lt_heap hr6_1)).trans hr6_1
  have hr7_2 := (hb7.block _ (lt_heap hr6_2)).trans hr6_2
  have hr7_3 := (hb7.block _ (lt_heap hr6_3)).trans hr6_3
  have hr7_4 := (hb7.block _ (lt_heap hr6_4)).trans hr6_4
  have HU7 := Lib.hid (HU6.out.trans (hb7.mono HU6.out.size))
  refine hK.out _ _ (⟨(hb7.block _ (lt_heap hS6c.1)).trans hS6c.1, (hb7.block _ (lt_heap hS6c.2.1)).trans hS6c.2.1, (hb7.block _ (lt_heap hS6c.2.2)).trans hS6c.2.2⟩) (fun hS7c => ?_)
  clear hK K
  refine wpAnyH_ready (rs := [12]) (by kernel_rfl) (by simp) ?_
  refine AllReadyH.cons rfl (fun K hK => ?_) AllReadyH.nil
  refine step_store_row rfl 47 (.tmp 11) (.tmp 40) rfl #[.int .i64 0, .int .i64 0, .int .i64 0] #[.int .i64 x1, .int .i64 x2, .int .i64 x3] _ 47 hr7_4 rfl (by first | rfl | (go_simp; done) | (go_simp; rfl)) (by kernel_rfl) rfl (by simp [Value.oneCell']) ?_
  have hN := setRow_heap _ (y0.heap.size) _ #[.int .i64 x1, .int .i64 x2, .int .i64 x3] _ _ hr7_4
  have hsz := HU7.out.size
  have HUx := below_setRow (g := y0.heap.size) HU7.out (by first | omega | (simp at *; omega)) #[.int .i64 x1, .int .i64 x2, .int .i64 x3]
  obtain ⟨y8, hy8⟩ : ∃ y, y7.setRow (y0.heap.size) #[.int .i64 x1, .int .i64 x2, .int .i64 x3] = y := ⟨_, rfl⟩
  have hO : ∀ k, k ≠ y0.heap.size → y8.heap[k]? = y7.heap[k]? := fun k hk => by rw [← hy8]; exact setRow_other _ _ _ _ hk
  rw [hy8] at hN HUx ⊢
  clear hy8
  have HU8 := Lib.hid HUx
  clear HUx
  have hr8_0 := (hO _ (by omega)).trans hr7_0
  have hr8_1 := (hO _ (by omega)).trans hr7_1
  have hr8_2 := (hO _ (by omega)).trans hr7_2
  have hr8_3 := (hO _ (by omega)).trans hr7_3
  have hr8_4 := hN
  clear hN
  refine hK.out _ _ (⟨(hO _ (by omega)).trans hS7c.1, (hO _ (by omega)).trans hS7c.2.1, (hO _ (by omega)).trans hS7c.2.2⟩) (fun hS8s => ?_)
  clear hK K
  refine wpAnyH_done (by kernel_rfl) ?_ _
  go_upto_region 9 with fail
  have c2_0 := cell_of_row _ _ 0 _ _ _ hr8_2
  have c2_1 := cell_of_row _ _ 1 _ _ _ hr8_2
  have c2_2 := cell_of_row _ _ 2 _ _ _ hr8_2
  have c4_0 := cell_of_row _ _ 0 _ _ _ hr8_4
  have c4_1 := cell_of_row _ _ 1 _ _ _ hr8_4
  have c4_2 := cell_of_row _ _ 2 _ _ _ hr8_4
  simp at c2_0 c2_1 c2_2 c4_0 c4_1 c4_2
  go_wp2_with fail
  refine (hT _).mono ?_
  rintro e y9 ⟨rfl, hb9⟩
  clear c2_0 c2_1 c2_2 c4_0 c4_1 c4_2
  have hr9_0 := (hb9.block _ (lt_heap hr8_0)).trans hr8_0
  have hr9_1 := (hb9.block _ (lt_heap hr8_1)).trans hr8_1
  have hr9_2 := (hb9.block _ (lt_heap hr8_2)).trans hr8_2
  have hr9_3 := (hb9.block _ (lt_heap hr8_3)).trans hr8_3
  have hr9_4 := (hb9.block _ (lt_heap hr8_4)).trans hr8_4
  have HU9 := Lib.hid (HU8.out.trans (hb9.mono HU8.out.size))
  clear hr8_0 hr8_1 hr8_2 hr8_3 hr8_4 HU8
  go_upto_region 10 with fail
  have hHr := Lib.hid hr9_3
  have hHi := Lib.hid (show (Try.prog.info? 70).map (·.size) = some (#[.int .i64 0, .int .i64 0, .int .i64 0, .int .i64 0, .int .i64 0, .int .i64 0, .bool false, .bool false] : Array Value).size by kernel_rfl)
  have hHz := Lib.hid (show (#[.int .i64 0, .int .i64 0, .int .i64 0, .int .i64 0, .int .i64 0, .int .i64 0, .bool false, .bool false] : Array Value).size = (#[.int .i64 0, .int .i64 0, .int .i64 0, .int .i64 0, .int .i64 0, .int .i64 0, .bool false, .bool false] : Array Value).size from rfl)
  have hHo := Lib.hid (show (#[.int .i64 0, .int .i64 0, .int .i64 0, .int .i64 0, .int .i64 0, .int .i64 0, .bool false, .bool false] : Array Value).all (·.oneCell') = true by simp [Value.oneCell'])
  go_wp2_with (first | (refine Au.wpList_store_row rfl 70 (.tmp 10) (.tmp 46) rfl y9 #[.int .i64 0, .int .i64 0, .int .i64 0, .int .i64 0, .int .i64 0, .int .i64 0, .bool false, .bool false] #[.int .i64 0, .int .i64 0, .int .i64 0, .int .i64 0, .int .i64 0, .int .i64 0, .bool false, .bool false] (w.heap.size + 1 + 1 + 1) 70 hHr.out rfl rfl hHi.out hHz.out hHo.out ?_))
  clear hHr hHi hHz hHo
  have hN := setRow_heap _ (w.heap.size + 1 + 1 + 1) _ #[.int .i64 0, .int .i64 0, .int .i64 0, .int .i64 0, .int .i64 0, .int .i64 0, .bool false, .bool false] _ _ hr9_3
  have hsz := HU9.out.size
  have HUx := below_setRow (g := w.heap.size + 1 + 1 + 1) HU9.out (by first | omega | (simp at *; omega)) #[.int .i64 0, .int .i64 0, .int .i64 0, .int .i64 0, .int .i64 0, .int .i64 0, .bool false, .bool false]
  have hO : ∀ kk, kk ≠ w.heap.size + 1 + 1 + 1 → (y9.setRow (w.heap.size + 1 + 1 + 1) #[.int .i64 0, .int .i64 0, .int .i64 0, .int .i64 0, .int .i64 0, .int .i64 0, .bool false, .bool false]).heap[kk]? = y9.heap[kk]? := fun kk hk => setRow_other _ _ _ _ hk
  obtain ⟨y10, hy10⟩ : ∃ y, y9.setRow (w.heap.size + 1 + 1 + 1) #[.int .i64 0, .int .i64 0, .int .i64 0, .int .i64 0, .int .i64 0, .int .i64 0, .bool false, .bool false] = y := ⟨_, rfl⟩
  rw [hy10] at hN HUx hO ⊢
  clear hy10 hsz
  have HU10 := Lib.hid HUx
  clear HUx
  have hr10_0 := (hO _ (by omega)).trans hr9_0
  have hr10_1 := (hO _ (by omega)).trans hr9_1
  have hr10_2 := (hO _ (by omega)).trans hr9_2
  have hr10_3 := hN
  have hr10_4 := (hO _ (by omega)).trans hr9_4
  clear hN hO
  clear hr9_0 hr9_1 hr9_2 hr9_3 hr9_4 HU9
  have c3_0 := cell_of_row _ _ 0 _ _ _ hr10_3
  have c3_1 := cell_of_row _ _ 1 _ _ _ hr10_3
  have c3_2 := cell_of_row _ _ 2 _ _ _ hr10_3
  have c3_3 := cell_of_row _ _ 3 _ _ _ hr10_3
  have c3_4 := cell_of_row _ _ 4 _ _ _ hr10_3
  have c3_5 := cell_of_row _ _ 5 _ _ _ hr10_3
  have c3_6 := cell_of_row _ _ 6 _ _ _ hr10_3
  have c3_7 := cell_of_row _ _ 7 _ _ _ hr10_3
  simp at c3_0 c3_1 c3_2 c3_3 c3_4 c3_5 c3_6 c3_7
  go_wp2
  exact bodyPost_ret (v := .agg #[.int .i64 0, .int .i64 0, .int .i64 0, .int .i64 0, .int .i64 0, .int .i64 0, .bool false, .bool false]) (by simp [results, Try.results19, go_sem, c3_0, c3_1, c3_2, c3_3, c3_4, c3_5, c3_6, c3_7]) rfl ⟨rfl, HU10.out⟩

set_option maxHeartbeats 4000000 in
set_option maxRecDepth 100000 in
theorem rbounce_other (c1 c2 c3 ro d1_ d2_ d3_ n1 n2 n3 u v k : Int) (h0 : ¬ k = 0) (h1 : ¬ k = 1) (h2 : ¬ k = 2) (w : World)  : Calls Try.prog 19 #[.agg #[.int .i64 k, .int .i64 c1, .int .i64 c2, .int .i64 c3, .int .i64 ro], .agg #[.int .i64 d1_, .int .i64 d2_, .int .i64 d3_], .agg #[.int .i64 n1, .int .i64 n2, .int .i64 n3], .int .i64 u, .int .i64 v] w fun e' w' => e' = .returned (.agg #[.int .i64 0, .int .i64 0, .int .i64 0, .int .i64 0, .int .i64 0, .int .i64 0, .bool false, .bool false]) ∧ Below w.heap.size w w' := by
  have d0 : (k == 0) = false := by simpa using h0
  have d1 : (k == 1) = false := by simpa using h1
  have d2 : (k == 2) = false := by simpa using h2
  go_enter Try.func19, Try.ntmps19
  go_upto_region 1 with fail
  have hR := Au.rows4 w (.cells #[.int .i64 k, .int .i64 c1, .int .i64 c2, .int .i64 c3, .int .i64 ro] 59) (.cells #[.int .i64 d1_, .int .i64 d2_, .int .i64 d3_] 47) (.cells #[.int .i64 n1, .int .i64 n2, .int .i64 n3] 47) (.cells #[.int .i64 0, .int .i64 0, .int .i64 0, .int .i64 0, .int .i64 0, .int .i64 0, .bool false, .bool false] 70)
  have HUx := below_n4 w (.cells #[.int .i64 k, .int .i64 c1, .int .i64 c2, .int .i64 c3, .int .i64 ro] 59) (.cells #[.int .i64 d1_, .int .i64 d2_, .int .i64 d3_] 47) (.cells #[.int .i64 n1, .int .i64 n2, .int .i64 n3] 47) (.cells #[.int .i64 0, .int .i64 0, .int .i64 0, .int .i64 0, .int .i64 0, .int .i64 0, .bool false, .bool false] 70)
  obtain ⟨y0, hy0⟩ : ∃ y0, (((w.alloc (.cells #[.int .i64 k, .int .i64 c1, .int .i64 c2, .int .i64 c3, .int .i64 ro] 59)).alloc (.cells #[.int .i64 d1_, .int .i64 d2_, .int .i64 d3_] 47)).alloc (.cells #[.int .i64 n1, .int .i64 n2, .int .i64 n3] 47)).alloc (.cells #[.int .i64 0, .int .i64 0, .int .i64 0, .int .i64 0, .int .i64 0, .int .i64 0, .bool false, .bool false] 70) = y0 := ⟨_, rfl⟩
  rw [hy0] at hR HUx ⊢
  clear hy0
  have HU0 := Lib.hid HUx
  clear HUx
  obtain ⟨hr0_0, hr0_1, hr0_2, hr0_3⟩ := hR
  go_upto_region 2 with fail
  have hb1 := below_n1 y0 (.cells #[.int .i64 0, .int .i64 0, .int .i64 0] 47)
  have hN := heap_alloc_last y0 (.cells #[.int .i64 0, .int .i64 0, .int .i64 0] 47)
  obtain ⟨y1, hy1⟩ : ∃ y, y0.alloc (.cells #[.int .i64 0, .int .i64 0, .int .i64 0] 47) = y := ⟨_, rfl⟩
  have hs1 : y1.heap.size = y0.heap.size + 1 := by rw [← hy1]; simp
  rw [hy1] at hb1 hN ⊢
  clear hy1
  have hl1_0 := lt_heap hr0_0
  have hl1_1 := lt_heap hr0_1
  have hl1_2 := lt_heap hr0_2
  have hl1_3 := lt_heap hr0_3
  have hr1_0 := (hb1.block _ (lt_heap hr0_0)).trans hr0_0
  have hr1_1 := (hb1.block _ (lt_heap hr0_1)).trans hr0_1
  have hr1_2 := (hb1.block _ (lt_heap hr0_2)).trans hr0_2
  have hr1_3 := (hb1.block _ (lt_heap hr0_3)).trans hr0_3
  have HU1 := Lib.hid (HU0.out.trans (hb1.mono HU0.out.size))
  clear hr0_0 hr0_1 hr0_2 hr0_3 HU0
  have hr1_4 := hN
  clear hN
  have c0_0 := cell_of_row _ _ 0 _ _ _ hr1_0
  have c0_1 := cell_of_row _ _ 1 _ _ _ hr1_0
  have c0_2 := cell_of_row _ _ 2 _ _ _ hr1_0
  have c0_3 := cell_of_row _ _ 3 _ _ _ hr1_0
  have c0_4 := cell_of_row _ _ 4 _ _ _ hr1_0
  simp at c0_0 c0_1 c0_2 c0_3 c0_4
  go_upto_region 8 with fail
  clear c0_0 c0_1 c0_2 c0_3 c0_4
  have hHr := Lib.hid hr1_3
  have hHi := Lib.hid (show (Try.prog.info? 70).map (·.size) = some (#[.int .i64 0, .int .i64 0, .int .i64 0, .int .i64 0, .int .i64 0, .int .i64 0, .bool false, .bool false] : Array Value).size by kernel_rfl)
  have hHz := Lib.hid (show (#[.int .i64 0, .int .i64 0, .int .i64 0, .int .i64 0, .int .i64 0, .int .i64 0, .bool false, .bool false] : Array Value).size = (#[.int .i64 0, .int .i64 0, .int .i64 0, .int .i64 0, .int .i64 0, .int .i64 0, .bool false, .bool false] : Array Value).size from rfl)
  have hHo := Lib.hid (show (#[.int .i64 0, .int .i64 0, .int .i64 0, .int .i64 0, .int .i64 0, .int .i64 0, .bool false, .bool false] : Array Value).all (·.oneCell') = true by simp [Value.oneCell'])
  go_wp2_with (first | (refine Au.wpList_store_row rfl 70 (.tmp 10) (.tmp 41) rfl y1 #[.int .i64 0, .int .i64 0, .int .i64 0, .int .i64 0, .int .i64 0, .int .i64 0, .bool false, .bool false] #[.int .i64 0, .int .i64 0, .int .i64 0, .int .i64 0, .int .i64 0, .int .i64 0, .bool false, .bool false] (w.heap.size + 1 + 1 + 1) 70 hHr.out rfl rfl hHi.out hHz.out hHo.out ?_))
  clear hHr hHi hHz hHo
  have hN := setRow_heap _ (w.heap.size + 1 + 1 + 1) _ #[.int .i64 0, .int .i64 0, .int .i64 0, .int .i64 0, .int .i64 0, .int .i64 0, .bool false, .bool false] _ _ hr1_3
  have hsz := HU1.out.size
  have HUx := below_setRow (g := w.heap.size + 1 + 1 + 1) HU1.out (by first | omega | (simp at *; omega)) #[.int .i64 0, .int .i64 0, .int .i64 0, .int .i64 0, .int .i64 0, .int .i64 0, .bool false, .bool false]
  have hO : ∀ kk, kk ≠ w.heap.size + 1 + 1 + 1 → (y1.setRow (w.heap.size + 1 + 1 + 1) #[.int .i64 0, .int .i64 0, .int .i64 0, .int .i64 0, .int .i64 0, .int .i64 0, .bool false, .bool false]).heap[kk]? = y1.heap[kk]? := fun kk hk => setRow_other _ _ _ _ hk
  obtain ⟨y2, hy2⟩ : ∃ y, y1.setRow (w.heap.size + 1 + 1 + 1) #[.int .i64 0, .int .i64 0, .int .i64 0, .int .i64 0, .int .i64 0, .int .i64 0, .bool false, .bool false] = y := ⟨_, rfl⟩
  rw [hy2] at hN HUx hO ⊢
  clear hy2 hsz
  have HU2 := Lib.hid HUx
  clear HUx
  have hr2_0 := (hO _ (by omega)).trans hr1_0
  have hr2_1 := (hO _ (by omega)).trans hr1_1
  have hr2_2 := (hO _ (by omega)).trans hr1_2
  have hr2_3 := hN
  have hr2_4 := (hO _ (by omega)).trans hr1_4
  clear hN hO
  clear hr1_0 hr1_1 hr1_2 hr1_3 hr1_4 HU1
  have c3_0 := cell_of_row _ _ 0 _ _ _ hr2_3
  have c3_1 := cell_of_row _ _ 1 _ _ _ hr2_3
  have c3_2 := cell_of_row _ _ 2 _ _ _ hr2_3
  have c3_3 := cell_of_row _ _ 3 _ _ _ hr2_3
  have c3_4 := cell_of_row _ _ 4 _ _ _ hr2_3
  have c3_5 := cell_of_row _ _ 5 _ _ _ hr2_3
  have c3_6 := cell_of_row _ _ 6 _ _ _ hr2_3
  have c3_7 := cell_of_row _ _ 7 _ _ _ hr2_3
  simp at c3_0 c3_1 c3_2 c3_3 c3_4 c3_5 c3_6 c3_7
  go_wp2
  exact bodyPost_ret (v := .agg #[.int .i64 0, .int .i64 0, .int .i64 0, .int .i64 0, .int .i64 0, .int .i64 0, .bool false, .bool false]) (by simp [results, Try.results19, go_sem, c3_0, c3_1, c3_2, c3_3, c3_4, c3_5, c3_6, c3_7]) rfl ⟨rfl, HU2.out⟩

end Go.Proofs.Ytplcbdmiccpnnaa.Co
