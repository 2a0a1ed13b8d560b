/- Surfaces: how the program turns a ray, over letters. -/
import Derived.Test.YtplcbdmiccpnnaaAu
namespace Go.Proofs.Ytplcbdmiccpnnaa.Co
open Go.RowKit Go.Proofs.Ytplcbdmiccpnnaa Go.Proofs.Ytplcbdmiccpnnaa.Wa Go.Proofs.Ytplcbdmiccpnnaa.Ve Go.Proofs.Ytplcbdmiccpnnaa.Au
set_option linter.unusedVariables false
set_option linter.unusedSimpArgs false

set_option maxHeartbeats 4000000 in
set_option maxRecDepth 100000 in
theorem bounce0_pos (c1 c2 c3 ro d1_ d2_ d3_ n1 n2 n3 u v x1 x2 x3 z : Int)
    (hD : ∀ W : World, Calls Try.prog 31 #[.agg #[.int .i64 n1, .int .i64 n2, .int .i64 n3], .int .i64 u, .int .i64 v] W fun e' w' => e' = .returned (.agg #[.int .i64 x1, .int .i64 x2, .int .i64 x3]) ∧ Below W.heap.size W w')
    (hT : ∀ W : World, Calls Try.prog 23 #[.agg #[.int .i64 x1, .int .i64 x2, .int .i64 x3], .agg #[.int .i64 n1, .int .i64 n2, .int .i64 n3]] W fun e' w' => e' = .returned (.int .i64 z) ∧ Below W.heap.size W w')
    (hz : ¬ z ≤ 0) (w : World)  : Calls Try.prog 16 #[.agg #[.int .i64 0, .int .i64 c1, .int .i64 c2, .int .i64 c3, .int .i64 ro], .agg #[.int .i64 d1_, .int .i64 d2_, .int .i64 d3_], .agg #[.int .i64 n1, .int .i64 n2, .int .i64 n3], .int .i64 u, .int .i64 v] w fun e' w' => e' = .returned (.agg #[.int .i64 x1, .int .i64 x2, .int .i64 x3, .int .i64 c1, .int .i64 c2, .int .i64 c3, .bool true, .bool false]) ∧ Below w.heap.size w w' := by
  have dz := decide_eq_false hz
  go_enter Try.func16, Try.ntmps16
  go_upto_region 1 with fail
  have hR := Au.rows4 w (.cells #[.int .i64 0, .int .i64 c1, .int .i64 c2, .int .i64 c3, .int .i64 ro] 66) (.cells #[.int .i64 d1_, .int .i64 d2_, .int .i64 d3_] 39) (.cells #[.int .i64 n1, .int .i64 n2, .int .i64 n3] 39) (.cells #[.int .i64 0, .int .i64 0, .int .i64 0, .int .i64 0, .int .i64 0, .int .i64 0, .bool false, .bool false] 63)
  have HUx := below_n4 w (.cells #[.int .i64 0, .int .i64 c1, .int .i64 c2, .int .i64 c3, .int .i64 ro] 66) (.cells #[.int .i64 d1_, .int .i64 d2_, .int .i64 d3_] 39) (.cells #[.int .i64 n1, .int .i64 n2, .int .i64 n3] 39) (.cells #[.int .i64 0, .int .i64 0, .int .i64 0, .int .i64 0, .int .i64 0, .int .i64 0, .bool false, .bool false] 63)
  obtain ⟨y0, hy0⟩ : ∃ y0, (((w.alloc (.cells #[.int .i64 0, .int .i64 c1, .int .i64 c2, .int .i64 c3, .int .i64 ro] 66)).alloc (.cells #[.int .i64 d1_, .int .i64 d2_, .int .i64 d3_] 39)).alloc (.cells #[.int .i64 n1, .int .i64 n2, .int .i64 n3] 39)).alloc (.cells #[.int .i64 0, .int .i64 0, .int .i64 0, .int .i64 0, .int .i64 0, .int .i64 0, .bool false, .bool false] 63) = y0 := ⟨_, rfl⟩
  rw [hy0] at hR HUx ⊢
  clear hy0
  have HU0 := Lib.hid HUx
  clear HUx
  obtain ⟨hr0_0, hr0_1, hr0_2, hr0_3⟩ := hR
  have c0_0 := cell_of_row _ _ 0 _ _ _ hr0_0
  have c0_1 := cell_of_row _ _ 1 _ _ _ hr0_0
  have c0_2 := cell_of_row _ _ 2 _ _ _ hr0_0
  have c0_3 := cell_of_row _ _ 3 _ _ _ hr0_0
  have c0_4 := cell_of_row _ _ 4 _ _ _ hr0_0
  simp at c0_0 c0_1 c0_2 c0_3 c0_4
  have HA := Lib.hid (heap_alloc_last y0 (.cells #[.int .i64 0, .int .i64 0, .int .i64 0, .int .i64 0, .int .i64 0, .int .i64 0, .bool false, .bool false] 63))
  have hHi := Lib.hid (show (Try.prog.info? 63).map (·.size) = some (#[.int .i64 0, .int .i64 0, .int .i64 0, .int .i64 c1, .int .i64 c2, .int .i64 c3, .bool true, .bool false] : Array Value).size by kernel_rfl)
  have hHz := Lib.hid (show (#[.int .i64 0, .int .i64 0, .int .i64 0, .int .i64 0, .int .i64 0, .int .i64 0, .bool false, .bool false] : Array Value).size = (#[.int .i64 0, .int .i64 0, .int .i64 0, .int .i64 c1, .int .i64 c2, .int .i64 c3, .bool true, .bool false] : Array Value).size from rfl)
  have hHo := Lib.hid (show (#[.int .i64 0, .int .i64 0, .int .i64 0, .int .i64 c1, .int .i64 c2, .int .i64 c3, .bool true, .bool false] : Array Value).all (·.oneCell') = true by simp [Value.oneCell'])
  go_upto_region 2 with (refine Au.wpList_store_row rfl 63 (.tmp 11) (.tmp 15) rfl (y0.alloc (.cells #[.int .i64 0, .int .i64 0, .int .i64 0, .int .i64 0, .int .i64 0, .int .i64 0, .bool false, .bool false] 63)) #[.int .i64 0, .int .i64 0, .int .i64 0, .int .i64 0, .int .i64 0, .int .i64 0, .bool false, .bool false] #[.int .i64 0, .int .i64 0, .int .i64 0, .int .i64 c1, .int .i64 c2, .int .i64 c3, .bool true, .bool false] (y0.heap.size) 63 HA.out rfl rfl hHi.out hHz.out hHo.out ?_)
  clear c0_0 c0_1 c0_2 c0_3 c0_4
  clear hHi hHz hHo
  have hN := setRow_heap _ (y0.heap.size) _ #[.int .i64 0, .int .i64 0, .int .i64 0, .int .i64 c1, .int .i64 c2, .int .i64 c3, .bool true, .bool false] _ _ HA.out
  clear HA
  have hsz := HU0.out.size
  have hb := below_n1 y0 (.cells #[.int .i64 0, .int .i64 0, .int .i64 0, .int .i64 0, .int .i64 0, .int .i64 0, .bool false, .bool false] 63)
  have HUx := below_setRow (g := y0.heap.size) (HU0.out.trans (hb.mono HU0.out.size)) (by omega) #[.int .i64 0, .int .i64 0, .int .i64 0, .int .i64 c1, .int .i64 c2, .int .i64 c3, .bool true, .bool false]
  have hO : ∀ kk, kk < y0.heap.size → ((y0.alloc (.cells #[.int .i64 0, .int .i64 0, .int .i64 0, .int .i64 0, .int .i64 0, .int .i64 0, .bool false, .bool false] 63)).setRow (y0.heap.size) #[.int .i64 0, .int .i64 0, .int .i64 0, .int .i64 c1, .int .i64 c2, .int .i64 c3, .bool true, .bool false]).heap[kk]? = y0.heap[kk]? := fun kk hk => (setRow_other _ _ _ _ (by omega)).trans (hb.block _ hk)
  obtain ⟨y1, hy1⟩ : ∃ y, (y0.alloc (.cells #[.int .i64 0, .int .i64 0, .int .i64 0, .int .i64 0, .int .i64 0, .int .i64 0, .bool false, .bool false] 63)).setRow (y0.heap.size) #[.int .i64 0, .int .i64 0, .int .i64 0, .int .i64 c1, .int .i64 c2, .int .i64 c3, .bool true, .bool false] = y := ⟨_, rfl⟩
  have hs1 : y1.heap.size = y0.heap.size + 1 := by rw [← hy1]; simp [World.setRow]
  rw [hy1] at hN HUx hO ⊢
  clear hy1 hsz hb
  have HU1 := Lib.hid HUx
  clear HUx
  have hl1_0 := lt_heap hr0_0
  have hr1_0 := (hO _ hl1_0).trans hr0_0
  have hl1_1 := lt_heap hr0_1
  have hr1_1 := (hO _ hl1_1).trans hr0_1
  have hl1_2 := lt_heap hr0_2
  have hr1_2 := (hO _ hl1_2).trans hr0_2
  have hl1_3 := lt_heap hr0_3
  have hr1_3 := (hO _ hl1_3).trans hr0_3
  have hr1_4 := hN
  clear hN hO
  clear hr0_0 hr0_1 hr0_2 hr0_3 HU0
  have c0_0 := cell_of_row _ _ 0 _ _ _ hr1_0
  have c0_1 := cell_of_row _ _ 1 _ _ _ hr1_0
  have c0_2 := cell_of_row _ _ 2 _ _ _ hr1_0
  have c0_3 := cell_of_row _ _ 3 _ _ _ hr1_0
  have c0_4 := cell_of_row _ _ 4 _ _ _ hr1_0
  have c2_0 := cell_of_row _ _ 0 _ _ _ hr1_2
  have c2_1 := cell_of_row _ _ 1 _ _ _ hr1_2
  have c2_2 := cell_of_row _ _ 2 _ _ _ hr1_2
  simp at c0_0 c0_1 c0_2 c0_3 c0_4 c2_0 c2_1 c2_2
  go_upto_region 5 with fail
  clear c0_0 c0_1 c0_2 c0_3 c0_4 c2_0 c2_1 c2_2
  have c2_0 := cell_of_row _ _ 0 _ _ _ hr1_2
  have c2_1 := cell_of_row _ _ 1 _ _ _ hr1_2
  have c2_2 := cell_of_row _ _ 2 _ _ _ hr1_2
  simp at c2_0 c2_1 c2_2
  go_wp2_with fail
  refine (hD _).mono ?_
  rintro e y2 ⟨rfl, hb2⟩
  clear c2_0 c2_1 c2_2
  have hr2_0 := (hb2.block _ (lt_heap hr1_0)).trans hr1_0
  have hr2_1 := (hb2.block _ (lt_heap hr1_1)).trans hr1_1
  have hr2_2 := (hb2.block _ (lt_heap hr1_2)).trans hr1_2
  have hr2_3 := (hb2.block _ (lt_heap hr1_3)).trans hr1_3
  have hr2_4 := (hb2.block _ (lt_heap hr1_4)).trans hr1_4
  have HU2 := Lib.hid (HU1.out.trans (hb2.mono HU1.out.size))
  clear hr1_0 hr1_1 hr1_2 hr1_3 hr1_4 HU1
  have c4_0 := cell_of_row _ _ 0 _ _ _ hr2_4
  have c4_1 := cell_of_row _ _ 1 _ _ _ hr2_4
  have c4_2 := cell_of_row _ _ 2 _ _ _ hr2_4
  have c4_3 := cell_of_row _ _ 3 _ _ _ hr2_4
  have c4_4 := cell_of_row _ _ 4 _ _ _ hr2_4
  have c4_5 := cell_of_row _ _ 5 _ _ _ hr2_4
  have c4_6 := cell_of_row _ _ 6 _ _ _ hr2_4
  have c4_7 := cell_of_row _ _ 7 _ _ _ hr2_4
  simp at c4_0 c4_1 c4_2 c4_3 c4_4 c4_5 c4_6 c4_7
  have fz : ∀ j, y2.frozen? ⟨y0.heap.size, j, none⟩ = false := fun j => by simp [World.frozen?, hr2_4]
  go_upto_region 11 with fail
  clear fz
  clear c4_0 c4_1 c4_2 c4_3 c4_4 c4_5 c4_6 c4_7
  have hsz := HU2.out.size
  have hN : (((y2.setCell ⟨y0.heap.size, 0, none⟩ (.int .i64 x1)).setCell ⟨y0.heap.size, 1, none⟩ (.int .i64 x2)).setCell ⟨y0.heap.size, 2, none⟩ (.int .i64 x3)).heap[y0.heap.size]? = some (.cells #[.int .i64 x1, .int .i64 x2, .int .i64 x3, .int .i64 c1, .int .i64 c2, .int .i64 c3, .bool true, .bool false] 63 (0, 0)) := (heap_setCell_same _ _ 2 _ _ _ (heap_setCell_same _ _ 1 _ _ _ (heap_setCell_same _ _ 0 _ _ _ hr2_4)))
  have hO : ∀ kk, kk ≠ y0.heap.size → (((y2.setCell ⟨y0.heap.size, 0, none⟩ (.int .i64 x1)).setCell ⟨y0.heap.size, 1, none⟩ (.int .i64 x2)).setCell ⟨y0.heap.size, 2, none⟩ (.int .i64 x3)).heap[kk]? = y2.heap[kk]? := fun kk hk => (Below.heap_setCell ((y2.setCell ⟨y0.heap.size, 0, none⟩ (.int .i64 x1)).setCell ⟨y0.heap.size, 1, none⟩ (.int .i64 x2)) ⟨y0.heap.size, 2, none⟩ (.int .i64 x3) kk hk).trans ((Below.heap_setCell (y2.setCell ⟨y0.heap.size, 0, none⟩ (.int .i64 x1)) ⟨y0.heap.size, 1, none⟩ (.int .i64 x2) kk hk).trans ((Below.heap_setCell y2 ⟨y0.heap.size, 0, none⟩ (.int .i64 x1) kk hk).trans (rfl)))
  have HUx : Below w.heap.size w (((y2.setCell ⟨y0.heap.size, 0, none⟩ (.int .i64 x1)).setCell ⟨y0.heap.size, 1, none⟩ (.int .i64 x2)).setCell ⟨y0.heap.size, 2, none⟩ (.int .i64 x3)) := (((HU2.out.setCell (by show w.heap.size ≤ y0.heap.size; omega) _).setCell (by show w.heap.size ≤ y0.heap.size; omega) _).setCell (by show w.heap.size ≤ y0.heap.size; omega) _)
  obtain ⟨y3, hy3⟩ : ∃ y, ((y2.setCell ⟨y0.heap.size, 0, none⟩ (.int .i64 x1)).setCell ⟨y0.heap.size, 1, none⟩ (.int .i64 x2)).setCell ⟨y0.heap.size, 2, none⟩ (.int .i64 x3) = y := ⟨_, rfl⟩
  rw [hy3] at hN hO HUx ⊢
  clear hy3 hsz
  have HU3 := Lib.hid HUx
  have hr3_0 := (hO _ (by omega)).trans hr2_0
  have hr3_1 := (hO _ (by omega)).trans hr2_1
  have hr3_2 := (hO _ (by omega)).trans hr2_2
  have hr3_3 := (hO _ (by omega)).trans hr2_3
  have hr3_4 := hN
  clear hN hO HUx
  clear hr2_0 hr2_1 hr2_2 hr2_3 hr2_4 HU2
  have c2_0 := cell_of_row _ _ 0 _ _ _ hr3_2
  have c2_1 := cell_of_row _ _ 1 _ _ _ hr3_2
  have c2_2 := cell_of_row _ _ 2 _ _ _ hr3_2
  have c4_0 := cell_of_row _ _ 0 _ _ _ hr3_4
  have c4_1 := cell_of_row _ _ 1 _ _ _ hr3_4
  have c4_2 := cell_of_row _ _ 2 _ _ _ hr3_4
  have c4_3 := cell_of_row _ _ 3 _ _ _ hr3_4
  have c4_4 := cell_of_row _ _ 4 _ _ _ hr3_4
  have c4_5 := cell_of_row _ _ 5 _ _ _ hr3_4
  have c4_6 := cell_of_row _ _ 6 _ _ _ hr3_4
  have c4_7 := cell_of_row _ _ 7 _ _ _ hr3_4
  simp at c2_0 c2_1 c2_2 c4_0 c4_1 c4_2 c4_3 c4_4 c4_5 c4_6 c4_7
  go_wp2_with fail
  refine (hT _).mono ?_
  rintro e y4 ⟨rfl, hb4⟩
  clear c2_0 c2_1 c2_2 c4_0 c4_1 c4_2 c4_3 c4_4 c4_5 c4_6 c4_7
  have hr4_0 := (hb4.block _ (lt_heap hr3_0)).trans hr3_0
  have hr4_1 := (hb4.block _ (lt_heap hr3_1)).trans hr3_1
  have hr4_2 := (hb4.block _ (lt_heap hr3_2)).trans hr3_2
  have hr4_3 := (hb4.block _ (lt_heap hr3_3)).trans hr3_3
  have hr4_4 := (hb4.block _ (lt_heap hr3_4)).trans hr3_4
  have HU4 := Lib.hid (HU3.out.trans (hb4.mono HU3.out.size))
  clear hr3_0 hr3_1 hr3_2 hr3_3 hr3_4 HU3
  have c4_0 := cell_of_row _ _ 0 _ _ _ hr4_4
  have c4_1 := cell_of_row _ _ 1 _ _ _ hr4_4
  have c4_2 := cell_of_row _ _ 2 _ _ _ hr4_4
  have c4_3 := cell_of_row _ _ 3 _ _ _ hr4_4
  have c4_4 := cell_of_row _ _ 4 _ _ _ hr4_4
  have c4_5 := cell_of_row _ _ 5 _ _ _ hr4_4
  have c4_6 := cell_of_row _ _ 6 _ _ _ hr4_4
  have c4_7 := cell_of_row _ _ 7 _ _ _ hr4_4
  simp at c4_0 c4_1 c4_2 c4_3 c4_4 c4_5 c4_6 c4_7
  go_upto_region 13 with fail
  clear c4_0 c4_1 c4_2 c4_3 c4_4 c4_5 c4_6 c4_7
  have c4_0 := cell_of_row _ _ 0 _ _ _ hr4_4
  have c4_1 := cell_of_row _ _ 1 _ _ _ hr4_4
  have c4_2 := cell_of_row _ _ 2 _ _ _ hr4_4
  have c4_3 := cell_of_row _ _ 3 _ _ _ hr4_4
  have c4_4 := cell_of_row _ _ 4 _ _ _ hr4_4
  have c4_5 := cell_of_row _ _ 5 _ _ _ hr4_4
  have c4_6 := cell_of_row _ _ 6 _ _ _ hr4_4
  have c4_7 := cell_of_row _ _ 7 _ _ _ hr4_4
  simp at c4_0 c4_1 c4_2 c4_3 c4_4 c4_5 c4_6 c4_7
  have hHr := Lib.hid hr4_3
  have hHi := Lib.hid (show (Try.prog.info? 63).map (·.size) = some (#[.int .i64 x1, .int .i64 x2, .int .i64 x3, .int .i64 c1, .int .i64 c2, .int .i64 c3, .bool true, .bool false] : Array Value).size by kernel_rfl)
  have hHz := Lib.hid (show (#[.int .i64 0, .int .i64 0, .int .i64 0, .int .i64 0, .int .i64 0, .int .i64 0, .bool false, .bool false] : Array Value).size = (#[.int .i64 x1, .int .i64 x2, .int .i64 x3, .int .i64 c1, .int .i64 c2, .int .i64 c3, .bool true, .bool false] : Array Value).size from rfl)
  have hHo := Lib.hid (show (#[.int .i64 x1, .int .i64 x2, .int .i64 x3, .int .i64 c1, .int .i64 c2, .int .i64 c3, .bool true, .bool false] : Array Value).all (·.oneCell') = true by simp [Value.oneCell'])
  go_wp2_with (first | (refine Au.wpList_store_row rfl 63 (.tmp 10) (.tmp 57) rfl y4 #[.int .i64 0, .int .i64 0, .int .i64 0, .int .i64 0, .int .i64 0, .int .i64 0, .bool false, .bool false] #[.int .i64 x1, .int .i64 x2, .int .i64 x3, .int .i64 c1, .int .i64 c2, .int .i64 c3, .bool true, .bool false] (w.heap.size + 1 + 1 + 1) 63 hHr.out rfl rfl hHi.out hHz.out hHo.out ?_))
  clear c4_0 c4_1 c4_2 c4_3 c4_4 c4_5 c4_6 c4_7
  clear hHr hHi hHz hHo
  have hN := setRow_heap _ (w.heap.size + 1 + 1 + 1) _ #[.int .i64 x1, .int .i64 x2, .int .i64 x3, .int .i64 c1, .int .i64 c2, .int .i64 c3, .bool true, .bool false] _ _ hr4_3
  have hsz := HU4.out.size
  have HUx := below_setRow (g := w.heap.size + 1 + 1 + 1) HU4.out (by first | omega | (simp at *; omega)) #[.int .i64 x1, .int .i64 x2, .int .i64 x3, .int .i64 c1, .int .i64 c2, .int .i64 c3, .bool true, .bool false]
  have hO : ∀ kk, kk ≠ w.heap.size + 1 + 1 + 1 → (y4.setRow (w.heap.size + 1 + 1 + 1) #[.int .i64 x1, .int .i64 x2, .int .i64 x3, .int .i64 c1, .int .i64 c2, .int .i64 c3, .bool true, .bool false]).heap[kk]? = y4.heap[kk]? := fun kk hk => setRow_other _ _ _ _ hk
  obtain ⟨y5, hy5⟩ : ∃ y, y4.setRow (w.heap.size + 1 + 1 + 1) #[.int .i64 x1, .int .i64 x2, .int .i64 x3, .int .i64 c1, .int .i64 c2, .int .i64 c3, .bool true, .bool false] = y := ⟨_, rfl⟩
  rw [hy5] at hN HUx hO ⊢
  clear hy5 hsz
  have HU5 := Lib.hid HUx
  clear HUx
  have hr5_0 := (hO _ (by omega)).trans hr4_0
  have hr5_1 := (hO _ (by omega)).trans hr4_1
  have hr5_2 := (hO _ (by omega)).trans hr4_2
  have hr5_3 := hN
  have hr5_4 := (hO _ (by omega)).trans hr4_4
  clear hN hO
  clear hr4_0 hr4_1 hr4_2 hr4_3 hr4_4 HU4
  have c3_0 := cell_of_row _ _ 0 _ _ _ hr5_3
  have c3_1 := cell_of_row _ _ 1 _ _ _ hr5_3
  have c3_2 := cell_of_row _ _ 2 _ _ _ hr5_3
  have c3_3 := cell_of_row _ _ 3 _ _ _ hr5_3
  have c3_4 := cell_of_row _ _ 4 _ _ _ hr5_3
  have c3_5 := cell_of_row _ _ 5 _ _ _ hr5_3
  have c3_6 := cell_of_row _ _ 6 _ _ _ hr5_3
  have c3_7 := cell_of_row _ _ 7 _ _ _ hr5_3
  simp at c3_0 c3_1 c3_2 c3_3 c3_4 c3_5 c3_6 c3_7
  go_wp2
  exact bodyPost_ret (v := .agg #[.int .i64 x1, .int .i64 x2, .int .i64 x3, .int .i64 c1, .int .i64 c2, .int .i64 c3, .bool true, .bool false]) (by simp [results, Try.results16, go_sem, c3_0, c3_1, c3_2, c3_3, c3_4, c3_5, c3_6, c3_7]) rfl ⟨rfl, HU5.out⟩

set_option maxHeartbeats 4000000 in
set_option maxRecDepth 100000 in
theorem bounce0_neg (c1 c2 c3 ro d1_ d2_ d3_ n1 n2 n3 u v x1 x2 x3 z : Int)
    (hD : ∀ W : World, Calls Try.prog 31 #[.agg #[.int .i64 n1, .int .i64 n2, .int .i64 n3], .int .i64 u, .int .i64 v] W fun e' w' => e' = .returned (.agg #[.int .i64 x1, .int .i64 x2, .int .i64 x3]) ∧ Below W.heap.size W w')
    (hT : ∀ W : World, Calls Try.prog 23 #[.agg #[.int .i64 x1, .int .i64 x2, .int .i64 x3], .agg #[.int .i64 n1, .int .i64 n2, .int .i64 n3]] W fun e' w' => e' = .returned (.int .i64 z) ∧ Below W.heap.size W w')
    (hz : z ≤ 0) (w : World)  : Calls Try.prog 16 #[.agg #[.int .i64 0, .int .i64 c1, .int .i64 c2, .int .i64 c3, .int .i64 ro], .agg #[.int .i64 d1_, .int .i64 d2_, .int .i64 d3_], .agg #[.int .i64 n1, .int .i64 n2, .int .i64 n3], .int .i64 u, .int .i64 v] w fun e' w' => e' = .returned (.agg #[.int .i64 0, .int .i64 0, .int .i64 0, .int .i64 0, .int .i64 0, .int .i64 0, .bool false, .bool false]) ∧ Below w.heap.size w w' := by
  have dz := decide_eq_true hz
  go_enter Try.func16, Try.ntmps16
  go_upto_region 1 with fail
  have hR := Au.rows4 w (.cells #[.int .i64 0, .int .i64 c1, .int .i64 c2, .int .i64 c3, .int .i64 ro] 66) (.cells #[.int .i64 d1_, .int .i64 d2_, .int .i64 d3_] 39) (.cells #[.int .i64 n1, .int .i64 n2, .int .i64 n3] 39) (.cells #[.int .i64 0, .int .i64 0, .int .i64 0, .int .i64 0, .int .i64 0, .int .i64 0, .bool false, .bool false] 63)
  have HUx := below_n4 w (.cells #[.int .i64 0, .int .i64 c1, .int .i64 c2, .int .i64 c3, .int .i64 ro] 66) (.cells #[.int .i64 d1_, .int .i64 d2_, .int .i64 d3_] 39) (.cells #[.int .i64 n1, .int .i64 n2, .int .i64 n3] 39) (.cells #[.int .i64 0, .int .i64 0, .int .i64 0, .int .i64 0, .int .i64 0, .int .i64 0, .bool false, .bool false] 63)
  obtain ⟨y0, hy0⟩ : ∃ y0, (((w.alloc (.cells #[.int .i64 0, .int .i64 c1, .int .i64 c2, .int .i64 c3, .int .i64 ro] 66)).alloc (.cells #[.int .i64 d1_, .int .i64 d2_, .int .i64 d3_] 39)).alloc (.cells #[.int .i64 n1, .int .i64 n2, .int .i64 n3] 39)).alloc (.cells #[.int .i64 0, .int .i64 0, .int .i64 0, .int .i64 0, .int .i64 0, .int .i64 0, .bool false, .bool false] 63) = y0 := ⟨_, rfl⟩
  rw [hy0] at hR HUx ⊢
  clear hy0
  have HU0 := Lib.hid HUx
  clear HUx
  obtain ⟨hr0_0, hr0_1, hr0_2, hr0_3⟩ := hR
  have c0_0 := cell_of_row _ _ 0 _ _ _ hr0_0
  have c0_1 := cell_of_row _ _ 1 _ _ _ hr0_0
  have c0_2 := cell_of_row _ _ 2 _ _ _ hr0_0
  have c0_3 := cell_of_row _ _ 3 _ _ _ hr0_0
  have c0_4 := cell_of_row _ _ 4 _ _ _ hr0_0
  simp at c0_0 c0_1 c0_2 c0_3 c0_4
  have HA := Lib.hid (heap_alloc_last y0 (.cells #[.int .i64 0, .int .i64 0, .int .i64 0, .int .i64 0, .int .i64 0, .int .i64 0, .bool false, .bool false] 63))
  have hHi := Lib.hid (show (Try.prog.info? 63).map (·.size) = some (#[.int .i64 0, .int .i64 0, .int .i64 0, .int .i64 c1, .int .i64 c2, .int .i64 c3, .bool true, .bool false] : Array Value).size by kernel_rfl)
  have hHz := Lib.hid (show (#[.int .i64 0, .int .i64 0, .int .i64 0, .int .i64 0, .int .i64 0, .int .i64 0, .bool false, .bool false] : Array Value).size = (#[.int .i64 0, .int .i64 0, .int .i64 0, .int .i64 c1, .int .i64 c2, .int .i64 c3, .bool true, .bool false] : Array Value).size from rfl)
  have hHo := Lib.hid (show (#[.int .i64 0, .int .i64 0, .int .i64 0, .int .i64 c1, .int .i64 c2, .int .i64 c3, .bool true, .bool false] : Array Value).all (·.oneCell') = true by simp [Value.oneCell'])
  go_upto_region 2 with (refine Au.wpList_store_row rfl 63 (.tmp 11) (.tmp 15) rfl (y0.alloc (.cells #[.int .i64 0, .int .i64 0, .int .i64 0, .int .i64 0, .int .i64 0, .int .i64 0, .bool false, .bool false] 63)) #[.int .i64 0, .int .i64 0, .int .i64 0, .int .i64 0, .int .i64 0, .int .i64 0, .bool false, .bool false] #[.int .i64 0, .int .i64 0, .int .i64 0, .int .i64 c1, .int .i64 c2, .int .i64 c3, .bool true, .bool false] (y0.heap.size) 63 HA.out rfl rfl hHi.out hHz.out hHo.out ?_)
  clear c0_0 c0_1 c0_2 c0_3 c0_4
  clear hHi hHz hHo
  have hN := setRow_heap _ (y0.heap.size) _ #[.int .i64 0, .int .i64 0, .int .i64 0, .int .i64 c1, .int .i64 c2, .int .i64 c3, .bool true, .bool false] _ _ HA.out
  clear HA
  have hsz := HU0.out.size
  have hb := below_n1 y0 (.cells #[.int .i64 0, .int .i64 0, .int .i64 0, .int .i64 0, .int .i64 0, .int .i64 0, .bool false, .bool false] 63)
  have HUx := below_setRow (g := y0.heap.size) (HU0.out.trans (hb.mono HU0.out.size)) (by omega) #[.int .i64 0, .int .i64 0, .int .i64 0, .int .i64 c1, .int .i64 c2, .int .i64 c3, .bool true, .bool false]
  have hO : ∀ kk, kk < y0.heap.size → ((y0.alloc (.cells #[.int .i64 0, .int .i64 0, .int .i64 0, .int .i64 0, .int .i64 0, .int .i64 0, .bool false, .bool false] 63)).setRow (y0.heap.size) #[.int .i64 0, .int .i64 0, .int .i64 0, .int .i64 c1, .int .i64 c2, .int .i64 c3, .bool true, .bool false]).heap[kk]? = y0.heap[kk]? := fun kk hk => (setRow_other _ _ _ _ (by omega)).trans (hb.block _ hk)
  obtain ⟨y1, hy1⟩ : ∃ y, (y0.alloc (.cells #[.int .i64 0, .int .i64 0, .int .i64 0, .int .i64 0, .int .i64 0, .int .i64 0, .bool false, .bool false] 63)).setRow (y0.heap.size) #[.int .i64 0, .int .i64 0, .int .i64 0, .int .i64 c1, .int .i64 c2, .int .i64 c3, .bool true, .bool false] = y := ⟨_, rfl⟩
  have hs1 : y1.heap.size = y0.heap.size + 1 := by rw [← hy1]; simp [World.setRow]
  rw [hy1] at hN HUx hO ⊢
  clear hy1 hsz hb
  have HU1 := Lib.hid HUx
  clear HUx
  have hl1_0 := lt_heap hr0_0
  have hr1_0 := (hO _ hl1_0).trans hr0_0
  have hl1_1 := lt_heap hr0_1
  have hr1_1 := (hO _ hl1_1).trans hr0_1
  have hl1_2 := lt_heap hr0_2
  have hr1_2 := (hO _ hl1_2).trans hr0_2
  have hl1_3 := lt_heap hr0_3
  have hr1_3 := (hO _ hl1_3).trans hr0_3
  have hr1_4 := hN
  clear hN hO
  clear hr0_0 hr0_1 hr0_2 hr0_3 HU0
  have c0_0 := cell_of_row _ _ 0 _ _ _ hr1_0
  have c0_1 := cell_of_row _ _ 1 _ _ _ hr1_0
  have c0_2 := cell_of_row _ _ 2 _ _ _ hr1_0
  have c0_3 := cell_of_row _ _ 3 _ _ _ hr1_0
  have c0_4 := cell_of_row _ _ 4 _ _ _ hr1_0
  have c2_0 := cell_of_row _ _ 0 _ _ _ hr1_2
  have c2_1 := cell_of_row _ _ 1 _ _ _ hr1_2
  have c2_2 := cell_of_row _ _ 2 _ _ _ hr1_2
  simp at c0_0 c0_1 c0_2 c0_3 c0_4 c2_0 c2_1 c2_2
  go_upto_region 5 with fail
  clear c0_0 c0_1 c0_2 c0_3 c0_4 c2_0 c2_1 c2_2
  have c2_0 := cell_of_row _ _ 0 _ _ _ hr1_2
  have c2_1 := cell_of_row _ _ 1 _ _ _ hr1_2
  have c2_2 := cell_of_row _ _ 2 _ _ _ hr1_2
  simp at c2_0 c2_1 c2_2
  go_wp2_with fail
  refine (hD _).mono ?_
  rintro e y2 ⟨rfl, hb2⟩
  clear c2_0 c2_1 c2_2
  have hr2_0 := (hb2.block _ (lt_heap hr1_0)).trans hr1_0
  have hr2_1 := (hb2.block _ (lt_heap hr1_1)).trans hr1_1
  have hr2_2 := (hb2.block _ (lt_heap hr1_2)).trans hr1_2
  have hr2_3 := (hb2.block _ (lt_heap hr1_3)).trans hr1_3
  have hr2_4 := (hb2.block _ (lt_heap hr1_4)).trans hr1_4
  have HU2 := Lib.hid (HU1.out.trans (hb2.mono HU1.out.size))
  clear hr1_0 hr1_1 hr1_2 hr1_3 hr1_4 HU1
  have c4_0 := cell_of_row _ _ 0 _ _ _ hr2_4
  have c4_1 := cell_of_row _ _ 1 _ _ _ hr2_4
  have c4_2 := cell_of_row _ _ 2 _ _ _ hr2_4
  have c4_3 := cell_of_row _ _ 3 _ _ _ hr2_4
  have c4_4 := cell_of_row _ _ 4 _ _ _ hr2_4
  have c4_5 := cell_of_row _ _ 5 _ _ _ hr2_4
  have c4_6 := cell_of_row _ _ 6 _ _ _ hr2_4
  have c4_7 := cell_of_row _ _ 7 _ _ _ hr2_4
  simp at c4_0 c4_1 c4_2 c4_3 c4_4 c4_5 c4_6 c4_7
  have fz : ∀ j, y2.frozen? ⟨y0.heap.size, j, none⟩ = false := fun j => by simp [World.frozen?, hr2_4]
  go_upto_region 11 with fail
  clear fz
  clear c4_0 c4_1 c4_2 c4_3 c4_4 c4_5 c4_6 c4_7
  have hsz := HU2.out.size
  have hN : (((y2.setCell ⟨y0.heap.size, 0, none⟩ (.int .i64 x1)).setCell ⟨y0.heap.size, 1, none⟩ (.int .i64 x2)).setCell ⟨y0.heap.size, 2, none⟩ (.int .i64 x3)).heap[y0.heap.size]? = some (.cells #[.int .i64 x1, .int .i64 x2, .int .i64 x3, .int .i64 c1, .int .i64 c2, .int .i64 c3, .bool true, .bool false] 63 (0, 0)) := (heap_setCell_same _ _ 2 _ _ _ (heap_setCell_same _ _ 1 _ _ _ (heap_setCell_same _ _ 0 _ _ _ hr2_4)))
  have hO : ∀ kk, kk ≠ y0.heap.size → (((y2.setCell ⟨y0.heap.size, 0, none⟩ (.int .i64 x1)).setCell ⟨y0.heap.size, 1, none⟩ (.int .i64 x2)).setCell ⟨y0.heap.size, 2, none⟩ (.int .i64 x3)).heap[kk]? = y2.heap[kk]? := fun kk hk => (Below.heap_setCell ((y2.setCell ⟨y0.heap.size, 0, none⟩ (.int .i64 x1)).setCell ⟨y0.heap.size, 1, none⟩ (.int .i64 x2)) ⟨y0.heap.size, 2, none⟩ (.int .i64 x3) kk hk).trans ((Below.heap_setCell (y2.setCell ⟨y0.heap.size, 0, none⟩ (.int .i64 x1)) ⟨y0.heap.size, 1, none⟩ (.int .i64 x2) kk hk).trans ((Below.heap_setCell y2 ⟨y0.heap.size, 0, none⟩ (.int .i64 x1) kk hk).trans (rfl)))
  have HUx : Below w.heap.size w (((y2.setCell ⟨y0.heap.size, 0, none⟩ (.int .i64 x1)).setCell ⟨y0.heap.size, 1, none⟩ (.int .i64 x2)).setCell ⟨y0.heap.size, 2, none⟩ (.int .i64 x3)) := (((HU2.out.setCell (by show w.heap.size ≤ y0.heap.size; omega) _).setCell (by show w.heap.size ≤ y0.heap.size; omega) _).setCell (by show w.heap.size ≤ y0.heap.size; omega) _)
  obtain ⟨y3, hy3⟩ : ∃ y, ((y2.setCell ⟨y0.heap.size, 0, none⟩ (.int .i64 x1)).setCell ⟨y0.heap.size, 1, none⟩ (.int .i64 x2)).setCell ⟨y0.heap.size, 2, none⟩ (.int .i64 x3) = y := ⟨_, rfl⟩
  rw [hy3] at hN hO HUx ⊢
  clear hy3 hsz
  have HU3 := Lib.hid HUx
  have hr3_0 := (hO _ (by omega)).trans hr2_0
  have hr3_1 := (hO _ (by omega)).trans hr2_1
  have hr3_2 := (hO _ (by omega)).trans hr2_2
  have hr3_3 := (hO _ (by omega)).trans hr2_3
  have hr3_4 := hN
  clear hN hO HUx
  clear hr2_0 hr2_1 hr2_2 hr2_3 hr2_4 HU2
  have c2_0 := cell_of_row _ _ 0 _ _ _ hr3_2
  have c2_1 := cell_of_row _ _ 1 _ _ _ hr3_2
  have c2_2 := cell_of_row _ _ 2 _ _ _ hr3_2
  have c4_0 := cell_of_row _ _ 0 _ _ _ hr3_4
  have c4_1 := cell_of_row _ _ 1 _ _ _ hr3_4
  have c4_2 := cell_of_row _ _ 2 _ _ _ hr3_4
  have c4_3 := cell_of_row _ _ 3 _ _ _ hr3_4
  have c4_4 := cell_of_row _ _ 4 _ _ _ hr3_4
  have c4_5 := cell_of_row _ _ 5 _ _ _ hr3_4
  have c4_6 := cell_of_row _ _ 6 _ _ _ hr3_4
  have c4_7 := cell_of_row _ _ 7 _ _ _ hr3_4
  simp at c2_0 c2_1 c2_2 c4_0 c4_1 c4_2 c4_3 c4_4 c4_5 c4_6 c4_7
  go_wp2_with fail
  refine (hT _).mono ?_
  rintro e y4 ⟨rfl, hb4⟩
  clear c2_0 c2_1 c2_2 c4_0 c4_1 c4_2 c4_3 c4_4 c4_5 c4_6 c4_7
  have hr4_0 := (hb4.block _ (lt_heap hr3_0)).trans hr3_0
  have hr4_1 := (hb4.block _ (lt_heap hr3_1)).trans hr3_1
  have hr4_2 := (hb4.block _ (lt_heap hr3_2)).trans hr3_2
  have hr4_3 := (hb4.block _ (lt_heap hr3_3)).trans hr3_3
  have hr4_4 := (hb4.block _ (lt_heap hr3_4)).trans hr3_4
  have HU4 := Lib.hid (HU3.out.trans (hb4.mono HU3.out.size))
  clear hr3_0 hr3_1 hr3_2 hr3_3 hr3_4 HU3
  have c4_0 := cell_of_row _ _ 0 _ _ _ hr4_4
  have c4_1 := cell_of_row _ _ 1 _ _ _ hr4_4
  have c4_2 := cell_of_row _ _ 2 _ _ _ hr4_4
  have c4_3 := cell_of_row _ _ 3 _ _ _ hr4_4
  have c4_4 := cell_of_row _ _ 4 _ _ _ hr4_4
  have c4_5 := cell_of_row _ _ 5 _ _ _ hr4_4
  have c4_6 := cell_of_row _ _ 6 _ _ _ hr4_4
  have c4_7 := cell_of_row _ _ 7 _ _ _ hr4_4
  simp at c4_0 c4_1 c4_2 c4_3 c4_4 c4_5 c4_6 c4_7
  go_upto_region 12 with fail
  clear c4_0 c4_1 c4_2 c4_3 c4_4 c4_5 c4_6 c4_7
  have hHr := Lib.hid hr4_3
  have hHi := Lib.hid (show (Try.prog.info? 63).map (·.size) = some (#[.int .i64 0, .int .i64 0, .int .i64 0, .int .i64 0, .int .i64 0, .int .i64 0, .bool false, .bool false] : Array Value).size by kernel_rfl)
  have hHz := Lib.hid (show (#[.int .i64 0, .int .i64 0, .int .i64 0, .int .i64 0, .int .i64 0, .int .i64 0, .bool false, .bool false] : Array Value).size = (#[.int .i64 0, .int .i64 0, .int .i64 0, .int .i64 0, .int .i64 0, .int .i64 0, .bool false, .bool false] : Array Value).size from rfl)
  have hHo := Lib.hid (show (#[.int .i64 0, .int .i64 0, .int .i64 0, .int .i64 0, .int .i64 0, .int .i64 0, .bool false, .bool false] : Array Value).all (·.oneCell') = true by simp [Value.oneCell'])
  go_wp2_with (first | (refine Au.wpList_store_row rfl 63 (.tmp 10) (.tmp 56) rfl y4 #[.int .i64 0, .int .i64 0, .int .i64 0, .int .i64 0, .int .i64 0, .int .i64 0, .bool false, .bool false] #[.int .i64 0, .int .i64 0, .int .i64 0, .int .i64 0, .int .i64 0, .int .i64 0, .bool false, .bool false] (w.heap.size + 1 + 1 + 1) 63 hHr.out rfl rfl hHi.out hHz.out hHo.out ?_))
  clear hHr hHi hHz hHo
  have hN := setRow_heap _ (w.heap.size + 1 + 1 + 1) _ #[.int .i64 0, .int .i64 0, .int .i64 0, .int .i64 0, .int .i64 0, .int .i64 0, .bool false, .bool false] _ _ hr4_3
  have hsz := HU4.out.size
  have HUx := below_setRow (g := w.heap.size + 1 + 1 + 1) HU4.out (by first | omega | (simp at *; omega)) #[.int .i64 0, .int .i64 0, .int .i64 0, .int .i64 0, .int .i64 0, .int .i64 0, .bool false, .bool false]
  have hO : ∀ kk, kk ≠ w.heap.size + 1 + 1 + 1 → (y4.setRow (w.heap.size + 1 + 1 + 1) #[.int .i64 0, .int .i64 0, .int .i64 0, .int .i64 0, .int .i64 0, .int .i64 0, .bool false, .bool false]).heap[kk]? = y4.heap[kk]? := fun kk hk => setRow_other _ _ _ _ hk
  obtain ⟨y5, hy5⟩ : ∃ y, y4.setRow (w.heap.size + 1 + 1 + 1) #[.int .i64 0, .int .i64 0, .int .i64 0, .int .i64 0, .int .i64 0, .int .i64 0, .bool false, .bool false] = y := ⟨_, rfl⟩
  rw [hy5] at hN HUx hO ⊢
  clear hy5 hsz
  have HU5 := Lib.hid HUx
  clear HUx
  have hr5_0 := (hO _ (by omega)).trans hr4_0
  have hr5_1 := (hO _ (by omega)).trans hr4_1
  have hr5_2 := (hO _ (by omega)).trans hr4_2
  have hr5_3 := hN
  have hr5_4 := (hO _ (by omega)).trans hr4_4
  clear hN hO
  clear hr4_0 hr4_1 hr4_2 hr4_3 hr4_4 HU4
  have c3_0 := cell_of_row _ _ 0 _ _ _ hr5_3
  have c3_1 := cell_of_row _ _ 1 _ _ _ hr5_3
  have c3_2 := cell_of_row _ _ 2 _ _ _ hr5_3
  have c3_3 := cell_of_row _ _ 3 _ _ _ hr5_3
  have c3_4 := cell_of_row _ _ 4 _ _ _ hr5_3
  have c3_5 := cell_of_row _ _ 5 _ _ _ hr5_3
  have c3_6 := cell_of_row _ _ 6 _ _ _ hr5_3
  have c3_7 := cell_of_row _ _ 7 _ _ _ hr5_3
  simp at c3_0 c3_1 c3_2 c3_3 c3_4 c3_5 c3_6 c3_7
  go_wp2
  exact bodyPost_ret (v := .agg #[.int .i64 0, .int .i64 0, .int .i64 0, .int .i64 0, .int .i64 0, .int .i64 0, .bool false, .bool false]) (by simp [results, Try.results16, go_sem, c3_0, c3_1, c3_2, c3_3, c3_4, c3_5, c3_6, c3_7]) rfl ⟨rfl, HU5.out⟩

set_option maxHeartbeats 4000000 in
set_option maxRecDepth 100000 in
theorem bounce1_pos (c1 c2 c3 ro d1_ d2_ d3_ n1 n2 n3 u v x1 x2 x3 m1 m2 m3 z : Int)
    (hM : ∀ W : World, Calls Try.prog 33 #[.agg #[.int .i64 d1_, .int .i64 d2_, .int .i64 d3_], .agg #[.int .i64 n1, .int .i64 n2, .int .i64 n3]] W fun e' w' => e' = .returned (.agg #[.int .i64 m1, .int .i64 m2, .int .i64 m3]) ∧ Below W.heap.size W w')
    (hV : ∀ W : World, Calls Try.prog 32 #[.agg #[.int .i64 m1, .int .i64 m2, .int .i64 m3]] W fun e' w' => e' = .returned (.agg #[.int .i64 x1, .int .i64 x2, .int .i64 x3]) ∧ Below W.heap.size W w')
    (hT : ∀ W : World, Calls Try.prog 23 #[.agg #[.int .i64 x1, .int .i64 x2, .int .i64 x3], .agg #[.int .i64 n1, .int .i64 n2, .int .i64 n3]] W fun e' w' => e' = .returned (.int .i64 z) ∧ Below W.heap.size W w')
    (hz : ¬ z ≤ 0) (w : World)  : Calls Try.prog 16 #[.agg #[.int .i64 1, .int .i64 c1, .int .i64 c2, .int .i64 c3, .int .i64 ro], .agg #[.int .i64 d1_, .int .i64 d2_, .int .i64 d3_], .agg #[.int .i64 n1, .int .i64 n2, .int .i64 n3], .int .i64 u, .int .i64 v] w fun e' w' => e' = .returned (.agg #[.int .i64 x1, .int .i64 x2, .int .i64 x3, .int .i64 c1, .int .i64 c2, .int .i64 c3, .bool true, .bool true]) ∧ Below w.heap.size w w' := by
  have dz := decide_eq_false hz
  go_enter Try.func16, Try.ntmps16
  go_upto_region 1 with fail
  have hR := Au.rows4 w (.cells #[.int .i64 1, .int .i64 c1, .int .i64 c2, .int .i64 c3, .int .i64 ro] 66) (.cells #[.int .i64 d1_, .int .i64 d2_, .int .i64 d3_] 39) (.cells #[.int .i64 n1, .int .i64 n2, .int .i64 n3] 39) (.cells #[.int .i64 0, .int .i64 0, .int .i64 0, .int .i64 0, .int .i64 0, .int .i64 0, .bool false, .bool false] 63)
  have HUx := below_n4 w (.cells #[.int .i64 1, .int .i64 c1, .int .i64 c2, .int .i64 c3, .int .i64 ro] 66) (.cells #[.int .i64 d1_, .int .i64 d2_, .int .i64 d3_] 39) (.cells #[.int .i64 n1, .int .i64 n2, .int .i64 n3] 39) (.cells #[.int .i64 0, .int .i64 0, .int .i64 0, .int .i64 0, .int .i64 0, .int .i64 0, .bool false, .bool false] 63)
  obtain ⟨y0, hy0⟩ : ∃ y0, (((w.alloc (.cells #[.int .i64 1, .int .i64 c1, .int .i64 c2, .int .i64 c3, .int .i64 ro] 66)).alloc (.cells #[.int .i64 d1_, .int .i64 d2_, .int .i64 d3_] 39)).alloc (.cells #[.int .i64 n1, .int .i64 n2, .int .i64 n3] 39)).alloc (.cells #[.int .i64 0, .int .i64 0, .int .i64 0, .int .i64 0, .int .i64 0, .int .i64 0, .bool false, .bool false] 63) = y0 := ⟨_, rfl⟩
  rw [hy0] at hR HUx ⊢
  clear hy0
  have HU0 := Lib.hid HUx
  clear HUx
  obtain ⟨hr0_0, hr0_1, hr0_2, hr0_3⟩ := hR
  have c0_0 := cell_of_row _ _ 0 _ _ _ hr0_0
  have c0_1 := cell_of_row _ _ 1 _ _ _ hr0_0
  have c0_2 := cell_of_row _ _ 2 _ _ _ hr0_0
  have c0_3 := cell_of_row _ _ 3 _ _ _ hr0_0
  have c0_4 := cell_of_row _ _ 4 _ _ _ hr0_0
  simp at c0_0 c0_1 c0_2 c0_3 c0_4
  have HA := Lib.hid (heap_alloc_last y0 (.cells #[.int .i64 0, .int .i64 0, .int .i64 0, .int .i64 0, .int .i64 0, .int .i64 0, .bool false, .bool false] 63))
  have hHi := Lib.hid (show (Try.prog.info? 63).map (·.size) = some (#[.int .i64 0, .int .i64 0, .int .i64 0, .int .i64 c1, .int .i64 c2, .int .i64 c3, .bool true, .bool false] : Array Value).size by kernel_rfl)
  have hHz := Lib.hid (show (#[.int .i64 0, .int .i64 0, .int .i64 0, .int .i64 0, .int .i64 0, .int .i64 0, .bool false, .bool false] : Array Value).size = (#[.int .i64 0, .int .i64 0, .int .i64 0, .int .i64 c1, .int .i64 c2, .int .i64 c3, .bool true, .bool false] : Array Value).size from rfl)
  have hHo := Lib.hid (show (#[.int .i64 0, .int .i64 0, .int .i64 0, .int .i64 c1, .int .i64 c2, .int .i64 c3, .bool true, .bool false] : Array Value).all (·.oneCell') = true by simp [Value.oneCell'])
  go_upto_region 2 with (refine Au.wpList_store_row rfl 63 (.tmp 11) (.tmp 15) rfl (y0.alloc (.cells #[.int .i64 0, .int .i64 0, .int .i64 0, .int .i64 0, .int .i64 0, .int .i64 0, .bool false, .bool false] 63)) #[.int .i64 0, .int .i64 0, .int .i64 0, .int .i64 0, .int .i64 0, .int .i64 0, .bool false, .bool false] #[.int .i64 0, .int .i64 0, .int .i64 0, .int .i64 c1, .int .i64 c2, .int .i64 c3, .bool true, .bool false] (y0.heap.size) 63 HA.out rfl rfl hHi.out hHz.out hHo.out ?_)
  clear c0_0 c0_1 c0_2 c0_3 c0_4
  clear hHi hHz hHo
  have hN := setRow_heap _ (y0.heap.size) _ #[.int .i64 0, .int .i64 0, .int .i64 0, .int .i64 c1, .int .i64 c2, .int .i64 c3, .bool true, .bool false] _ _ HA.out
  clear HA
  have hsz := HU0.out.size
  have hb := below_n1 y0 (.cells #[.int .i64 0, .int .i64 0, .int .i64 0, .int .i64 0, .int .i64 0, .int .i64 0, .bool false, .bool false] 63)
  have HUx := below_setRow (g := y0.heap.size) (HU0.out.trans (hb.mono HU0.out.size)) (by omega) #[.int .i64 0, .int .i64 0, .int .i64 0, .int .i64 c1, .int .i64 c2, .int .i64 c3, .bool true, .bool false]
  have hO : ∀ kk, kk < y0.heap.size → ((y0.alloc (.cells #[.int .i64 0, .int .i64 0, .int .i64 0, .int .i64 0, .int .i64 0, .int .i64 0, .bool false, .bool false] 63)).setRow (y0.heap.size) #[.int .i64 0, .int .i64 0, .int .i64 0, .int .i64 c1, .int .i64 c2, .int .i64 c3, .bool true, .bool false]).heap[kk]? = y0.heap[kk]? := fun kk hk => (setRow_other _ _ _ _ (by omega)).trans (hb.block _ hk)
  obtain ⟨y1, hy1⟩ : ∃ y, (y0.alloc (.cells #[.int .i64 0, .int .i64 0, .int .i64 0, .int .i64 0, .int .i64 0, .int .i64 0, .bool false, .bool false] 63)).setRow (y0.heap.size) #[.int .i64 0, .int .i64 0, .int .i64 0, .int .i64 c1, .int .i64 c2, .int .i64 c3, .bool true, .bool false] = y := ⟨_, rfl⟩
  have hs1 : y1.heap.size = y0.heap.size + 1 := by rw [← hy1]; simp [World.setRow]
  rw [hy1] at hN HUx hO ⊢
  clear hy1 hsz hb
  have HU1 := Lib.hid HUx
  clear HUx
  have hl1_0 := lt_heap hr0_0
  have hr1_0 := (hO _ hl1_0).trans hr0_0
  have hl1_1 := lt_heap hr0_1
  have hr1_1 := (hO _ hl1_1).trans hr0_1
  have hl1_2 := lt_heap hr0_2
  have hr1_2 := (hO _ hl1_2).trans hr0_2
  have hl1_3 := lt_heap hr0_3
  have hr1_3 := (hO _ hl1_3).trans hr0_3
  have hr1_4 := hN
  clear hN hO
  clear hr0_0 hr0_1 hr0_2 hr0_3 HU0
  have c0_0 := cell_of_row _ _ 0 _ _ _ hr1_0
  have c0_1 := cell_of_row _ _ 1 _ _ _ hr1_0
  have c0_2 := cell_of_row _ _ 2 _ _ _ hr1_0
  have c0_3 := cell_of_row _ _ 3 _ _ _ hr1_0
  have c0_4 := cell_of_row _ _ 4 _ _ _ hr1_0
  have c1_0 := cell_of_row _ _ 0 _ _ _ hr1_1
  have c1_1 := cell_of_row _ _ 1 _ _ _ hr1_1
  have c1_2 := cell_of_row _ _ 2 _ _ _ hr1_1
  have c2_0 := cell_of_row _ _ 0 _ _ _ hr1_2
  have c2_1 := cell_of_row _ _ 1 _ _ _ hr1_2
  have c2_2 := cell_of_row _ _ 2 _ _ _ hr1_2
  simp at c0_0 c0_1 c0_2 c0_3 c0_4 c1_0 c1_1 c1_2 c2_0 c2_1 c2_2
  go_upto_region 7 with fail
  clear c0_0 c0_1 c0_2 c0_3 c0_4 c1_0 c1_1 c1_2 c2_0 c2_1 c2_2
  have c1_0 := cell_of_row _ _ 0 _ _ _ hr1_1
  have c1_1 := cell_of_row _ _ 1 _ _ _ hr1_1
  have c1_2 := cell_of_row _ _ 2 _ _ _ hr1_1
  have c2_0 := cell_of_row _ _ 0 _ _ _ hr1_2
  have c2_1 := cell_of_row _ _ 1 _ _ _ hr1_2
  have c2_2 := cell_of_row _ _ 2 _ _ _ hr1_2
  simp at c1_0 c1_1 c1_2 c2_0 c2_1 c2_2
  go_wp2_with fail
  refine (hM _).mono ?_
  rintro e y2 ⟨rfl, hb2⟩
  clear c1_0 c1_1 c1_2 c2_0 c2_1 c2_2
  have hr2_0 := (hb2.block _ (lt_heap hr1_0)).trans hr1_0
  have hr2_1 := (hb2.block _ (lt_heap hr1_1)).trans hr1_1
  have hr2_2 := (hb2.block _ (lt_heap hr1_2)).trans hr1_2
  have hr2_3 := (hb2.block _ (lt_heap hr1_3)).trans hr1_3
  have hr2_4 := (hb2.block _ (lt_heap hr1_4)).trans hr1_4
  have HU2 := Lib.hid (HU1.out.trans (hb2.mono HU1.out.size))
  clear hr1_0 hr1_1 hr1_2 hr1_3 hr1_4 HU1
  go_wp2_with fail
  refine (hV _).mono ?_
  rintro e y3 ⟨rfl, hb3⟩
  have hr3_0 := (hb3.block _ (lt_heap hr2_0)).trans hr2_0
  have hr3_1 := (hb3.block _ (lt_heap hr2_1)).trans hr2_1
  have hr3_2 := (hb3.block _ (lt_heap hr2_2)).trans hr2_2
  have hr3_3 := (hb3.block _ (lt_heap hr2_3)).trans hr2_3
  have hr3_4 := (hb3.block _ (lt_heap hr2_4)).trans hr2_4
  have HU3 := Lib.hid (HU2.out.trans (hb3.mono HU2.out.size))
  clear hr2_0 hr2_1 hr2_2 hr2_3 hr2_4 HU2
  have c4_0 := cell_of_row _ _ 0 _ _ _ hr3_4
  have c4_1 := cell_of_row _ _ 1 _ _ _ hr3_4
  have c4_2 := cell_of_row _ _ 2 _ _ _ hr3_4
  have c4_3 := cell_of_row _ _ 3 _ _ _ hr3_4
  have c4_4 := cell_of_row _ _ 4 _ _ _ hr3_4
  have c4_5 := cell_of_row _ _ 5 _ _ _ hr3_4
  have c4_6 := cell_of_row _ _ 6 _ _ _ hr3_4
  have c4_7 := cell_of_row _ _ 7 _ _ _ hr3_4
  simp at c4_0 c4_1 c4_2 c4_3 c4_4 c4_5 c4_6 c4_7
  have fz : ∀ j, y3.frozen? ⟨y0.heap.size, j, none⟩ = false := fun j => by simp [World.frozen?, hr3_4]
  go_upto_region 11 with fail
  clear fz
  clear c4_0 c4_1 c4_2 c4_3 c4_4 c4_5 c4_6 c4_7
  have hsz := HU3.out.size
  have hN : ((((y3.setCell ⟨y0.heap.size, 0, none⟩ (.int .i64 x1)).setCell ⟨y0.heap.size, 1, none⟩ (.int .i64 x2)).setCell ⟨y0.heap.size, 2, none⟩ (.int .i64 x3)).setCell ⟨y0.heap.size, 7, none⟩ (.bool true)).heap[y0.heap.size]? = some (.cells #[.int .i64 x1, .int .i64 x2, .int .i64 x3, .int .i64 c1, .int .i64 c2, .int .i64 c3, .bool true, .bool true] 63 (0, 0)) := (heap_setCell_same _ _ 7 _ _ _ (heap_setCell_same _ _ 2 _ _ _ (heap_setCell_same _ _ 1 _ _ _ (heap_setCell_same _ _ 0 _ _ _ hr3_4))))
  have hO : ∀ kk, kk ≠ y0.heap.size → ((((y3.setCell ⟨y0.heap.size, 0, none⟩ (.int .i64 x1)).setCell ⟨y0.heap.size, 1, none⟩ (.int .i64 x2)).setCell ⟨y0.heap.size, 2, none⟩ (.int .i64 x3)).setCell ⟨y0.heap.size, 7, none⟩ (.bool true)).heap[kk]? = y3.heap[kk]? := fun kk hk => (Below.heap_setCell (((y3.setCell ⟨y0.heap.size, 0, none⟩ (.int .i64 x1)).setCell ⟨y0.heap.size, 1, none⟩ (.int .i64 x2)).setCell ⟨y0.heap.size, 2, none⟩ (.int .i64 x3)) ⟨y0.heap.size, 7, none⟩ (.bool true) kk hk).trans ((Below.heap_setCell ((y3.setCell ⟨y0.heap.size, 0, none⟩ (.int .i64 x1)).setCell ⟨y0.heap.size, 1, none⟩ (.int .i64 x2)) ⟨y0.heap.size, 2, none⟩ (.int .i64 x3) kk hk).trans ((Below.heap_setCell (y3.setCell ⟨y0.heap.size, 0, none⟩ (.int .i64 x1)) ⟨y0.heap.size, 1, none⟩ (.int .i64 x2) kk hk).trans ((Below.heap_setCell y3 ⟨y0.heap.size, 0, none⟩ (.int .i64 x1) kk hk).trans (rfl))))
  have HUx : Below w.heap.size w ((((y3.setCell ⟨y0.heap.size, 0, none⟩ (.int .i64 x1)).setCell ⟨y0.heap.size, 1, none⟩ (.int .i64 x2)).setCell ⟨y0.heap.size, 2, none⟩ (.int .i64 x3)).setCell ⟨y0.heap.size, 7, none⟩ (.bool true)) := ((((HU3.out.setCell (by show w.heap.size ≤ y0.heap.size; omega) _).setCell (by show w.heap.size ≤ y0.heap.size; omega) _).setCell (by show w.heap.size ≤ y0.heap.size; omega) _).setCell (by show w.heap.size ≤ y0.heap.size; omega) _)
  obtain ⟨y4, hy4⟩ : ∃ y, (((y3.setCell ⟨y0.heap.size, 0, none⟩ (.int .i64 x1)).setCell ⟨y0.heap.size, 1, none⟩ (.int .i64 x2)).setCell ⟨y0.heap.size, 2, none⟩ (.int .i64 x3)).setCell ⟨y0.heap.size, 7, none⟩ (.bool true) = y := ⟨_, rfl⟩
  rw [hy4] at hN hO HUx ⊢
  clear hy4 hsz
  have HU4 := Lib.hid HUx
  have hr4_0 := (hO _ (by omega)).trans hr3_0
  have hr4_1 := (hO _ (by omega)).trans hr3_1
  have hr4_2 := (hO _ (by omega)).trans hr3_2
  have hr4_3 := (hO _ (by omega)).trans hr3_3
  have hr4_4 := hN
  clear hN hO HUx
  clear hr3_0 hr3_1 hr3_2 hr3_3 hr3_4 HU3
  have c2_0 := cell_of_row _ _ 0 _ _ _ hr4_2
  have c2_1 := cell_of_row _ _ 1 _ _ _ hr4_2
  have c2_2 := cell_of_row _ _ 2 _ _ _ hr4_2
  have c4_0 := cell_of_row _ _ 0 _ _ _ hr4_4
  have c4_1 := cell_of_row _ _ 1 _ _ _ hr4_4
  have c4_2 := cell_of_row _ _ 2 _ _ _ hr4_4
  have c4_3 := cell_of_row _ _ 3 _ _ _ hr4_4
  have c4_4 := cell_of_row _ _ 4 _ _ _ hr4_4
  have c4_5 := cell_of_row _ _ 5 _ _ _ hr4_4
  have c4_6 := cell_of_row _ _ 6 _ _ _ hr4_4
  have c4_7 := cell_of_row _ _ 7 _ _ _ hr4_4
  simp at c2_0 c2_1 c2_2 c4_0 c4_1 c4_2 c4_3 c4_4 c4_5 c4_6 c4_7
  go_wp2_with fail
  refine (hT _).mono ?_
  rintro e y5 ⟨rfl, hb5⟩
  clear c2_0 c2_1 c2_2 c4_0 c4_1 c4_2 c4_3 c4_4 c4_5 c4_6 c4_7
  have hr5_0 := (hb5.block _ (lt_heap hr4_0)).trans hr4_0
  have hr5_1 := (hb5.block _ (lt_heap hr4_1)).trans hr4_1
  have hr5_2 := (hb5.block _ (lt_heap hr4_2)).trans hr4_2
  have hr5_3 := (hb5.block _ (lt_heap hr4_3)).trans hr4_3
  have hr5_4 := (hb5.block _ (lt_heap hr4_4)).trans hr4_4
  have HU5 := Lib.hid (HU4.out.trans (hb5.mono HU4.out.size))
  clear hr4_0 hr4_1 hr4_2 hr4_3 hr4_4 HU4
  have c4_0 := cell_of_row _ _ 0 _ _ _ hr5_4
  have c4_1 := cell_of_row _ _ 1 _ _ _ hr5_4
  have c4_2 := cell_of_row _ _ 2 _ _ _ hr5_4
  have c4_3 := cell_of_row _ _ 3 _ _ _ hr5_4
  have c4_4 := cell_of_row _ _ 4 _ _ _ hr5_4
  have c4_5 := cell_of_row _ _ 5 _ _ _ hr5_4
  have c4_6 := cell_of_row _ _ 6 _ _ _ hr5_4
  have c4_7 := cell_of_row _ _ 7 _ _ _ hr5_4
  simp at c4_0 c4_1 c4_2 c4_3 c4_4 c4_5 c4_6 c4_7
  go_upto_region 13 with fail
  clear c4_0 c4_1 c4_2 c4_3 c4_4 c4_5 c4_6 c4_7
  have c4_0 := cell_of_row _ _ 0 _ _ _ hr5_4
  have c4_1 := cell_of_row _ _ 1 _ _ _ hr5_4
  have c4_2 := cell_of_row _ _ 2 _ _ _ hr5_4
  have c4_3 := cell_of_row _ _ 3 _ _ _ hr5_4
  have c4_4 := cell_of_row _ _ 4 _ _ _ hr5_4
  have c4_5 := cell_of_row _ _ 5 _ _ _ hr5_4
  have c4_6 := cell_of_row _ _ 6 _ _ _ hr5_4
  have c4_7 := cell_of_row _ _ 7 _ _ _ hr5_4
  simp at c4_0 c4_1 c4_2 c4_3 c4_4 c4_5 c4_6 c4_7
  have hHr := Lib.hid hr5_3
  have hHi := Lib.hid (show (Try.prog.info? 63).map (·.size) = some (#[.int .i64 x1, .int .i64 x2, .int .i64 x3, .int .i64 c1, .int .i64 c2, .int .i64 c3, .bool true, .bool true] : Array Value).size by kernel_rfl)
  have hHz := Lib.hid (show (#[.int .i64 0, .int .i64 0, .int .i64 0, .int .i64 0, .int .i64 0, .int .i64 0, .bool false, .bool false] : Array Value).size = (#[.int .i64 x1, .int .i64 x2, .int .i64 x3, .int .i64 c1, .int .i64 c2, .int .i64 c3, .bool true, .bool true] : Array Value).size from rfl)
  have hHo := Lib.hid (show (#[.int .i64 x1, .int .i64 x2, .int .i64 x3, .int .i64 c1, .int .i64 c2, .int .i64 c3, .bool true, .bool true] : Array Value).all (·.oneCell') = true by simp [Value.oneCell'])
  go_wp2_with (first | (refine Au.wpList_store_row rfl 63 (.tmp 10) (.tmp 57) rfl y5 #[.int .i64 0, .int .i64 0, .int .i64 0, .int .i64 0, .int .i64 0, .int .i64 0, .bool false, .bool false] #[.int .i64 x1, .int .i64 x2, .int .i64 x3, .int .i64 c1, .int .i64 c2, .int .i64 c3, .bool true, .bool true] (w.heap.size + 1 + 1 + 1) 63 hHr.out rfl rfl hHi.out hHz.out hHo.out ?_))
  clear c4_0 c4_1 c4_2 c4_3 c4_4 c4_5 c4_6 c4_7
  clear hHr hHi hHz hHo
  have hN := setRow_heap _ (w.heap.size + 1 + 1 + 1) _ #[.int .i64 x1, .int .i64 x2, .int .i64 x3, .int .i64 c1, .int .i64 c2, .int .i64 c3, .bool true, .bool true] _ _ hr5_3
  have hsz := HU5.out.size
  have HUx := below_setRow (g := w.heap.size + 1 + 1 + 1) HU5.out (by first | omega | (simp at *; omega)) #[.int .i64 x1, .int .i64 x2, .int .i64 x3, .int .i64 c1, .int .i64 c2, .int .i64 c3, .bool true, .bool true]
  have hO : ∀ kk, kk ≠ w.heap.size + 1 + 1 + 1 → (y5.setRow (w.heap.size + 1 + 1 + 1) #[.int .i64 x1, .int .i64 x2, .int .i64 x3, .int .i64 c1, .int .i64 c2, .int .i64 c3, .bool true, .bool true]).heap[kk]? = y5.heap[kk]? := fun kk hk => setRow_other _ _ _ _ hk
  obtain ⟨y6, hy6⟩ : ∃ y, y5.setRow (w.heap.size + 1 + 1 + 1) #[.int .i64 x1, .int .i64 x2, .int .i64 x3, .int .i64 c1, .int .i64 c2, .int .i64 c3, .bool true, .bool true] = y := ⟨_, rfl⟩
  rw [hy6] at hN HUx hO ⊢
  clear hy6 hsz
  have HU6 := Lib.hid HUx
  clear HUx
  have hr6_0 := (hO _ (by omega)).trans hr5_0
  have hr6_1 := (hO _ (by omega)).trans hr5_1
  have hr6_2 := (hO _ (by omega)).trans hr5_2
  have hr6_3 := hN
  have hr6_4 := (hO _ (by omega)).trans hr5_4
  clear hN hO
  clear hr5_0 hr5_1 hr5_2 hr5_3 hr5_4 HU5
  have c3_0 := cell_of_row _ _ 0 _ _ _ hr6_3
  have c3_1 := cell_of_row _ _ 1 _ _ _ hr6_3
  have c3_2 := cell_of_row _ _ 2 _ _ _ hr6_3
  have c3_3 := cell_of_row _ _ 3 _ _ _ hr6_3
  have c3_4 := cell_of_row _ _ 4 _ _ _ hr6_3
  have c3_5 := cell_of_row _ _ 5 _ _ _ hr6_3
  have c3_6 := cell_of_row _ _ 6 _ _ _ hr6_3
  have c3_7 := cell_of_row _ _ 7 _ _ _ hr6_3
  simp at c3_0 c3_1 c3_2 c3_3 c3_4 c3_5 c3_6 c3_7
  go_wp2
  exact bodyPost_ret (v := .agg #[.int .i64 x1, .int .i64 x2, .int .i64 x3, .int .i64 c1, .int .i64 c2, .int .i64 c3, .bool true, .bool true]) (by simp [results, Try.results16, go_sem, c3_0, c3_1, c3_2, c3_3, c3_4, c3_5, c3_6, c3_7]) rfl ⟨rfl, HU6.out⟩

set_option maxHeartbeats 4000000 in
set_option maxRecDepth 100000 in
theorem bounce1_neg (c1 c2 c3 ro d1_ d2_ d3_ n1 n2 n3 u v x1 x2 x3 m1 m2 m3 z : Int)
    (hM : ∀ W : World, Calls Try.prog 33 #[.agg #[.int .i64 d1_, .int .i64 d2_, .int .i64 d3_], .agg #[.int .i64 n1, .int .i64 n2, .int .i64 n3]] W fun e' w' => e' = .returned (.agg #[.int .i64 m1, .int .i64 m2, .int .i64 m3]) ∧ Below W.heap.size W w')
    (hV : ∀ W : World, Calls Try.prog 32 #[.agg #[.int .i64 m1, .int .i64 m2, .int .i64 m3]] W fun e' w' => e' = .returned (.agg #[.int .i64 x1, .int .i64 x2, .int .i64 x3]) ∧ Below W.heap.size W w')
    (hT : ∀ W : World, Calls Try.prog 23 #[.agg #[.int .i64 x1, .int .i64 x2, .int .i64 x3], .agg #[.int .i64 n1, .int .i64 n2, .int .i64 n3]] W fun e' w' => e' = .returned (.int .i64 z) ∧ Below W.heap.size W w')
    (hz : z ≤ 0) (w : World)  : Calls Try.prog 16 #[.agg #[.int .i64 1, .int .i64 c1, .int .i64 c2, .int .i64 c3, .int .i64 ro], .agg #[.int .i64 d1_, .int .i64 d2_, .int .i64 d3_], .agg #[.int .i64 n1, .int .i64 n2, .int .i64 n3], .int .i64 u, .int .i64 v] w fun e' w' => e' = .returned (.agg #[.int .i64 0, .int .i64 0, .int .i64 0, .int .i64 0, .int .i64 0, .int .i64 0, .bool false, .bool false]) ∧ Below w.heap.size w w' := by
  have dz := decide_eq_true hz
  go_enter Try.func16, Try.ntmps16
  go_upto_region 1 with fail
  have hR := Au.rows4 w (.cells #[.int .i64 1, .int .i64 c1, .int .i64 c2, .int .i64 c3, .int .i64 ro] 66) (.cells #[.int .i64 d1_, .int .i64 d2_, .int .i64 d3_] 39) (.cells #[.int .i64 n1, .int .i64 n2, .int .i64 n3] 39) (.cells #[.int .i64 0, .int .i64 0, .int .i64 0, .int .i64 0, .int .i64 0, .int .i64 0, .bool false, .bool false] 63)
  have HUx := below_n4 w (.cells #[.int .i64 1, .int .i64 c1, .int .i64 c2, .int .i64 c3, .int .i64 ro] 66) (.cells #[.int .i64 d1_, .int .i64 d2_, .int .i64 d3_] 39) (.cells #[.int .i64 n1, .int .i64 n2, .int .i64 n3] 39) (.cells #[.int .i64 0, .int .i64 0, .int .i64 0, .int .i64 0, .int .i64 0, .int .i64 0, .bool false, .bool false] 63)
  obtain ⟨y0, hy0⟩ : ∃ y0, (((w.alloc (.cells #[.int .i64 1, .int .i64 c1, .int .i64 c2, .int .i64 c3, .int .i64 ro] 66)).alloc (.cells #[.int .i64 d1_, .int .i64 d2_, .int .i64 d3_] 39)).alloc (.cells #[.int .i64 n1, .int .i64 n2, .int .i64 n3] 39)).alloc (.cells #[.int .i64 0, .int .i64 0, .int .i64 0, .int .i64 0, .int .i64 0, .int .i64 0, .bool false, .bool false] 63) = y0 := ⟨_, rfl⟩
  rw [hy0] at hR HUx ⊢
  clear hy0
  have HU0 := Lib.hid HUx
  clear HUx
  obtain ⟨hr0_0, hr0_1, hr0_2, hr0_3⟩ := hR
  have c0_0 := cell_of_row _ _ 0 _ _ _ hr0_0
  have c0_1 := cell_of_row _ _ 1 _ _ _ hr0_0
  have c0_2 := cell_of_row _ _ 2 _ _ _ hr0_0
  have c0_3 := cell_of_row _ _ 3 _ _ _ hr0_0
  have c0_4 := cell_of_row _ _ 4 _ _ _ hr0_0
  simp at c0_0 c0_1 c0_2 c0_3 c0_4
  have HA := Lib.hid (heap_alloc_last y0 (.cells #[.int .i64 0, .int .i64 0, .int .i64 0, .int .i64 0, .int .i64 0, .int .i64 0, .bool false, .bool false] 63))
  have hHi := Lib.hid (show (Try.prog.info? 63).map (·.size) = some (#[.int .i64 0, .int .i64 0, .int .i64 0, .int .i64 c1, .int .i64 c2, .int .i64 c3, .bool true, .bool false] : Array Value).size by kernel_rfl)
  have hHz := Lib.hid (show (#[.int .i64 0, .int .i64 0, .int .i64 0, .int .i64 0, .int .i64 0, .int .i64 0, .bool false, .bool false] : Array Value).size = (#[.int .i64 0, .int .i64 0, .int .i64 0, .int .i64 c1, .int .i64 c2, .int .i64 c3, .bool true, .bool false] : Array Value).size from rfl)
  have hHo := Lib.hid (show (#[.int .i64 0, .int .i64 0, .int .i64 0, .int .i64 c1, .int .i64 c2, .int .i64 c3, .bool true, .bool false] : Array Value).all (·.oneCell') = true by simp [Value.oneCell'])
  go_upto_region 2 with (refine Au.wpList_store_row rfl 63 (.tmp 11) (.tmp 15) rfl (y0.alloc (.cells #[.int .i64 0, .int .i64 0, .int .i64 0, .int .i64 0, .int .i64 0, .int .i64 0, .bool false, .bool false] 63)) #[.int .i64 0, .int .i64 0, .int .i64 0, .int .i64 0, .int .i64 0, .int .i64 0, .bool false, .bool false] #[.int .i64 0, .int .i64 0, .int .i64 0, .int .i64 c1, .int .i64 c2, .int .i64 c3, .bool true, .bool false] (y0.heap.size) 63 HA.out rfl rfl hHi.out hHz.out hHo.out ?_)
  clear c0_0 c0_1 c0_2 c0_3 c0_4
  clear hHi hHz hHo
  have hN := setRow_heap _ (y0.heap.size) _ #[.int .i64 0, .int .i64 0, .int .i64 0, .int .i64 c1, .int .i64 c2, .int .i64 c3, .bool true, .bool false] _ _ HA.out
  clear HA
  have hsz := HU0.out.size
  have hb := below_n1 y0 (.cells #[.int .i64 0, .int .i64 0, .int .i64 0, .int .i64 0, .int .i64 0, .int .i64 0, .bool false, .bool false] 63)
  have HUx := below_setRow (g := y0.heap.size) (HU0.out.trans (hb.mono HU0.out.size)) (by omega) #[.int .i64 0, .int .i64 0, .int .i64 0, .int .i64 c1, .int .i64 c2, .int .i64 c3, .bool true, .bool false]
  have hO : ∀ kk, kk < y0.heap.size → ((y0.alloc (.cells #[.int .i64 0, .int .i64 0, .int .i64 0, .int .i64 0, .int .i64 0, .int .i64 0, .bool false, .bool false] 63)).setRow (y0.heap.size) #[.int .i64 0, .int .i64 0, .int .i64 0, .int .i64 c1, .int .i64 c2, .int .i64 c3, .bool true, .bool false]).heap[kk]? = y0.heap[kk]? := fun kk hk => (setRow_other _ _ _ _ (by omega)).trans (hb.block _ hk)
  obtain ⟨y1, hy1⟩ : ∃ y, (y0.alloc (.cells #[.int .i64 0, .int .i64 0, .int .i64 0, .int .i64 0, .int .i64 0, .int .i64 0, .bool false, .bool false] 63)).setRow (y0.heap.size) #[.int .i64 0, .int .i64 0, .int .i64 0, .int .i64 c1, .int .i64 c2, .int .i64 c3, .bool true, .bool false] = y := ⟨_, rfl⟩
  have hs1 : y1.heap.size = y0.heap.size + 1 := by rw [← hy1]; simp [World.setRow]
  rw [hy1] at hN HUx hO ⊢
  clear hy1 hsz hb
  have HU1 := Lib.hid HUx
  clear HUx
  have hl1_0 := lt_heap hr0_0
  have hr1_0 := (hO _ hl1_0).trans hr0_0
  have hl1_1 := lt_heap hr0_1
  have hr1_1 := (hO _ hl1_1).trans hr0_1
  have hl1_2 := lt_heap hr0_2
  have hr1_2 := (hO _ hl1_2).trans hr0_2
  have hl1_3 := lt_heap hr0_3
  have hr1_3 := (hO _ hl1_3).trans hr0_3
  have hr1_4 := hN
  clear hN hO
  clear hr0_0 hr0_1 hr0_2 hr0_3 HU0
  have c0_0 := cell_of_row _ _ 0 _ _ _ hr1_0
  have c0_1 := cell_of_row _ _ 1 _ _ _ hr1_0
  have c0_2 := cell_of_row _ _ 2 _ _ _ hr1_0
  have c0_3 := cell_of_row _ _ 3 _ _ _ hr1_0
  have c0_4 := cell_of_row _ _ 4 _ _ _ hr1_0
  have c1_0 := cell_of_row _ _ 0 _ _ _ hr1_1
  have c1_1 := cell_of_row _ _ 1 _ _ _ hr1_1
  have c1_2 := cell_of_row _ _ 2 _ _ _ hr1_1
  have c2_0 := cell_of_row _ _ 0 _ _ _ hr1_2
  have c2_1 := cell_of_row _ _ 1 _ _ _ hr1_2
  have c2_2 := cell_of_row _ _ 2 _ _ _ hr1_2
  simp at c0_0 c0_1 c0_2 c0_3 c0_4 c1_0 c1_1 c1_2 c2_0 c2_1 c2_2
  go_upto_region 7 with fail
  clear c0_0 c0_1 c0_2 c0_3 c0_4 c1_0 c1_1 c1_2 c2_0 c2_1 c2_2
  have c1_0 := cell_of_row _ _ 0 _ _ _ hr1_1
  have c1_1 := cell_of_row _ _ 1 _ _ _ hr1_1
  have c1_2 := cell_of_row _ _ 2 _ _ _ hr1_1
  have c2_0 := cell_of_row _ _ 0 _ _ _ hr1_2
  have c2_1 := cell_of_row _ _ 1 _ _ _ hr1_2
  have c2_2 := cell_of_row _ _ 2 _ _ _ hr1_2
  simp at c1_0 c1_1 c1_2 c2_0 c2_1 c2_2
  go_wp2_with fail
  refine (hM _).mono ?_
  rintro e y2 ⟨rfl, hb2⟩
  clear c1_0 c1_1 c1_2 c2_0 c2_1 c2_2
  have hr2_0 := (hb2.block _ (lt_heap hr1_0)).trans hr1_0
  have hr2_1 := (hb2.block _ (lt_heap hr1_1)).trans hr1_1
  have hr2_2 := (hb2.block _ (lt_heap hr1_2)).trans hr1_2
  have hr2_3 := (hb2.block _ (lt_heap hr1_3)).trans hr1_3
  have hr2_4 := (hb2.block _ (lt_heap hr1_4)).trans hr1_4
  have HU2 := Lib.hid (HU1.out.trans (hb2.mono HU1.out.size))
  clear hr1_0 hr1_1 hr1_2 hr1_3 hr1_4 HU1
  go_wp2_with fail
  refine (hV _).mono ?_
  rintro e y3 ⟨rfl, hb3⟩
  have hr3_0 := (hb3.block _ (lt_heap hr2_0)).trans hr2_0
  have hr3_1 := (hb3.block _ (lt_heap hr2_1)).trans hr2_1
  have hr3_2 := (hb3.block _ (lt_heap hr2_2)).trans hr2_2
  have hr3_3 := (hb3.block _ (lt_heap hr2_3)).trans hr2_3
  have hr3_4 := (hb3.block _ (lt_heap hr2_4)).trans hr2_4
  have HU3 := Lib.hid (HU2.out.trans (hb3.mono HU2.out.size))
  clear hr2_0 hr2_1 hr2_2 hr2_3 hr2_4 HU2
  have c4_0 := cell_of_row _ _ 0 _ _ _ hr3_4
  have c4_1 := cell_of_row _ _ 1 _ _ _ hr3_4
  have c4_2 := cell_of_row _ _ 2 _ _ _ hr3_4
  have c4_3 := cell_of_row _ _ 3 _ _ _ hr3_4
  have c4_4 := cell_of_row _ _ 4 _ _ _ hr3_4
  have c4_5 := cell_of_row _ _ 5 _ _ _ hr3_4
  have c4_6 := cell_of_row _ _ 6 _ _ _ hr3_4
  have c4_7 := cell_of_row _ _ 7 _ _ _ hr3_4
  simp at c4_0 c4_1 c4_2 c4_3 c4_4 c4_5 c4_6 c4_7
  have fz : ∀ j, y3.frozen? ⟨y0.heap.size, j, none⟩ = false := fun j => by simp [World.frozen?, hr3_4]
  go_upto_region 11 with fail
  clear fz
  clear c4_0 c4_1 c4_2 c4_3 c4_4 c4_5 c4_6 c4_7
  have hsz := HU3.out.size
  have hN : ((((y3.setCell ⟨y0.heap.size, 0, none⟩ (.int .i64 x1)).setCell ⟨y0.heap.size, 1, none⟩ (.int .i64 x2)).setCell ⟨y0.heap.size, 2, none⟩ (.int .i64 x3)).setCell ⟨y0.heap.size, 7, none⟩ (.bool true)).heap[y0.heap.size]? = some (.cells #[.int .i64 x1, .int .i64 x2, .int .i64 x3, .int .i64 c1, .int .i64 c2, .int .i64 c3, .bool true, .bool true] 63 (0, 0)) := (heap_setCell_same _ _ 7 _ _ _ (heap_setCell_same _ _ 2 _ _ _ (heap_setCell_same _ _ 1 _ _ _ (heap_setCell_same _ _ 0 _ _ _ hr3_4))))
  have hO : ∀ kk, kk ≠ y0.heap.size → ((((y3.setCell ⟨y0.heap.size, 0, none⟩ (.int .i64 x1)).setCell ⟨y0.heap.size, 1, none⟩ (.int .i64 x2)).setCell ⟨y0.heap.size, 2, none⟩ (.int .i64 x3)).setCell ⟨y0.heap.size, 7, none⟩ (.bool true)).heap[kk]? = y3.heap[kk]? := fun kk hk => (Below.heap_setCell (((y3.setCell ⟨y0.heap.size, 0, none⟩ (.int .i64 x1)).setCell ⟨y0.heap.size, 1, none⟩ (.int .i64 x2)).setCell ⟨y0.heap.size, 2, none⟩ (.int .i64 x3)) ⟨y0.heap.size, 7, none⟩ (.bool true) kk hk).trans ((Below.heap_setCell ((y3.setCell ⟨y0.heap.size, 0, none⟩ (.int .i64 x1)).setCell ⟨y0.heap.size, 1, none⟩ (.int .i64 x2)) ⟨y0.heap.size, 2, none⟩ (.int .i64 x3) kk hk).trans ((Below.heap_setCell (y3.setCell ⟨y0.heap.size, 0, none⟩ (.int .i64 x1)) ⟨y0.heap.size, 1, none⟩ (.int .i64 x2) kk hk).trans ((Below.heap_setCell y3 ⟨y0.heap.size, 0, none⟩ (.int .i64 x1) kk hk).trans (rfl))))
  have HUx : Below w.heap.size w ((((y3.setCell ⟨y0.heap.size, 0, none⟩ (.int .i64 x1)).setCell ⟨y0.heap.size, 1, none⟩ (.int .i64 x2)).setCell ⟨y0.heap.size, 2, none⟩ (.int .i64 x3)).setCell ⟨y0.heap.size, 7, none⟩ (.bool true)) := ((((HU3.out.setCell (by show w.heap.size ≤ y0.heap.size; omega) _).setCell (by show w.heap.size ≤ y0.heap.size; omega) _).setCell (by show w.heap.size ≤ y0.heap.size; omega) _).setCell (by show w.heap.size ≤ y0.heap.size; omega) _)
  obtain ⟨y4, hy4⟩ : ∃ y, (((y3.setCell ⟨y0.heap.size, 0, none⟩ (.int .i64 x1)).setCell ⟨y0.heap.size, 1, none⟩ (.int .i64 x2)).setCell ⟨y0.heap.size, 2, none⟩ (.int .i64 x3)).setCell ⟨y0.heap.size, 7, none⟩ (.bool true) = y := ⟨_, rfl⟩
  rw [hy4] at hN hO HUx ⊢
  clear hy4 hsz
  have HU4 := Lib.hid HUx
  have hr4_0 := (hO _ (by omega)).trans hr3_0
  have hr4_1 := (hO _ (by omega)).trans hr3_1
  have hr4_2 := (hO _ (by omega)).trans hr3_2
  have hr4_3 := (hO _ (by omega)).trans hr3_3
  have hr4_4 := hN
  clear hN hO HUx
  clear hr3_0 hr3_1 hr3_2 hr3_3 hr3_4 HU3
  have c2_0 := cell_of_row _ _ 0 _ _ _ hr4_2
  have c2_1 := cell_of_row _ _ 1 _ _ _ hr4_2
  have c2_2 := cell_of_row _ _ 2 _ _ _ hr4_2
  have c4_0 := cell_of_row _ _ 0 _ _ _ hr4_4
  have c4_1 := cell_of_row _ _ 1 _ _ _ hr4_4
  have c4_2 := cell_of_row _ _ 2 _ _ _ hr4_4
  have c4_3 := cell_of_row _ _ 3 _ _ _ hr4_4
  have c4_4 := cell_of_row _ _ 4 _ _ _ hr4_4
  have c4_5 := cell_of_row _ _ 5 _ _ _ hr4_4
  have c4_6 := cell_of_row _ _ 6 _ _ _ hr4_4
  have c4_7 := cell_of_row _ _ 7 _ _ _ hr4_4
  simp at c2_0 c2_1 c2_2 c4_0 c4_1 c4_2 c4_3 c4_4 c4_5 c4_6 c4_7
  go_wp2_with fail
  refine (hT _).mono ?_
  rintro e y5 ⟨rfl, hb5⟩
  clear c2_0 c2_1 c2_2 c4_0 c4_1 c4_2 c4_3 c4_4 c4_5 c4_6 c4_7
  have hr5_0 := (hb5.block _ (lt_heap hr4_0)).trans hr4_0
  have hr5_1 := (hb5.block _ (lt_heap hr4_1)).trans hr4_1
  have hr5_2 := (hb5.block _ (lt_heap hr4_2)).trans hr4_2
  have hr5_3 := (hb5.block _ (lt_heap hr4_3)).trans hr4_3
  have hr5_4 := (hb5.block _ (lt_heap hr4_4)).trans hr4_4
  have HU5 := Lib.hid (HU4.out.trans (hb5.mono HU4.out.size))
  clear hr4_0 hr4_1 hr4_2 hr4_3 hr4_4 HU4
  have c4_0 := cell_of_row _ _ 0 _ _ _ hr5_4
  have c4_1 := cell_of_row _ _ 1 _ _ _ hr5_4
  have c4_2 := cell_of_row _ _ 2 _ _ _ hr5_4
  have c4_3 := cell_of_row _ _ 3 _ _ _ hr5_4
  have c4_4 := cell_of_row _ _ 4 _ _ _ hr5_4
  have c4_5 := cell_of_row _ _ 5 _ _ _ hr5_4
  have c4_6 := cell_of_row _ _ 6 _ _ _ hr5_4
  have c4_7 := cell_of_row _ _ 7 _ _ _ hr5_4
  simp at c4_0 c4_1 c4_2 c4_3 c4_4 c4_5 c4_6 c4_7
  go_upto_region 12 with fail
  clear c4_0 c4_1 c4_2 c4_3 c4_4 c4_5 c4_6 c4_7
  have hHr := Lib.hid hr5_3
  have hHi := Lib.hid (show (Try.prog.info? 63).map (·.size) = some (#[.int .i64 0, .int .i64 0, .int .i64 0, .int .i64 0, .int .i64 0, .int .i64 0, .bool false, .bool false] : Array Value).size by kernel_rfl)
  have hHz := Lib.hid (show (#[.int .i64 0, .int .i64 0, .int .i64 0, .int .i64 0, .int .i64 0, .int .i64 0, .bool false, .bool false] : Array Value).size = (#[.int .i64 0, .int .i64 0, .int .i64 0, .int .i64 0, .int .i64 0, .int .i64 0, .bool false, .bool false] : Array Value).size from rfl)
  have hHo := Lib.hid (show (#[.int .i64 0, .int .i64 0, .int .i64 0, .int .i64 0, .int .i64 0, .int .i64 0, .bool false, .bool false] : Array Value).all (·.oneCell') = true by simp [Value.oneCell'])
  go_wp2_with (first | (refine Au.wpList_store_row rfl 63 (.tmp 10) (.tmp 56) rfl y5 #[.int .i64 0, .int .i64 0, .int .i64 0, .int .i64 0, .int .i64 0, .int .i64 0, .bool false, .bool false] #[.int .i64 0, .int .i64 0, .int .i64 0, .int .i64 0, .int .i64 0, .int .i64 0, .bool false, .bool false] (w.heap.size + 1 + 1 + 1) 63 hHr.out rfl rfl hHi.out hHz.out hHo.out ?_))
  clear hHr hHi hHz hHo
  have hN := setRow_heap _ (w.heap.size + 1 + 1 + 1) _ #[.int .i64 0, .int .i64 0, .int .i64 0, .int .i64 0, .int .i64 0, .int .i64 0, .bool false, .bool false] _ _ hr5_3
  have hsz := HU5.out.size
  have HUx := below_setRow (g := w.heap.size + 1 + 1 + 1) HU5.out (by first | omega | (simp at *; omega)) #[.int .i64 0, .int .i64 0, .int .i64 0, .int .i64 0, .int .i64 0, .int .i64 0, .bool false, .bool false]
  have hO : ∀ kk, kk ≠ w.heap.size + 1 + 1 + 1 → (y5.setRow (w.heap.size + 1 + 1 + 1) #[.int .i64 0, .int .i64 0, .int .i64 0, .int .i64 0, .int .i64 0, .int .i64 0, .bool false, .bool false]).heap[kk]? = y5.heap[kk]? := fun kk hk => setRow_other _ _ _ _ hk
  obtain ⟨y6, hy6⟩ : ∃ y, y5.setRow (w.heap.size + 1 + 1 + 1) #[.int .i64 0, .int .i64 0, .int .i64 0, .int .i64 0, .int .i64 0, .int .i64 0, .bool false, .bool false] = y := ⟨_, rfl⟩
  rw [hy6] at hN HUx hO ⊢
  clear hy6 hsz
  have HU6 := Lib.hid HUx
  clear HUx
  have hr6_0 := (hO _ (by omega)).trans hr5_0
  have hr6_1 := (hO _ (by omega)).trans hr5_1
  have hr6_2 := (hO _ (by omega)).trans hr5_2
  have hr6_3 := hN
  have hr6_4 := (hO _ (by omega)).trans hr5_4
  clear hN hO
  clear hr5_0 hr5_1 hr5_2 hr5_3 hr5_4 HU5
  have c3_0 := cell_of_row _ _ 0 _ _ _ hr6_3
  have c3_1 := cell_of_row _ _ 1 _ _ _ hr6_3
  have c3_2 := cell_of_row _ _ 2 _ _ _ hr6_3
  have c3_3 := cell_of_row _ _ 3 _ _ _ hr6_3
  have c3_4 := cell_of_row _ _ 4 _ _ _ hr6_3
  have c3_5 := cell_of_row _ _ 5 _ _ _ hr6_3
  have c3_6 := cell_of_row _ _ 6 _ _ _ hr6_3
  have c3_7 := cell_of_row _ _ 7 _ _ _ hr6_3
  simp at c3_0 c3_1 c3_2 c3_3 c3_4 c3_5 c3_6 c3_7
  go_wp2
  exact bodyPost_ret (v := .agg #[.int .i64 0, .int .i64 0, .int .i64 0, .int .i64 0, .int .i64 0, .int .i64 0, .bool false, .bool false]) (by simp [results, Try.results16, go_sem, c3_0, c3_1, c3_2, c3_3, c3_4, c3_5, c3_6, c3_7]) rfl ⟨rfl, HU6.out⟩

set_option maxHeartbeats 4000000 in
set_option maxRecDepth 100000 in
theorem bounce2_pos (c1 c2 c3 ro d1_ d2_ d3_ n1 n2 n3 u v x1 x2 x3 m1 m2 m3 s1 s2 s3 e1 e2 e3 p1 p2 p3 z : Int)
    (hD : ∀ W : World, Calls Try.prog 31 #[.agg #[.int .i64 n1, .int .i64 n2, .int .i64 n3], .int .i64 u, .int .i64 v] W fun e' w' => e' = .returned (.agg #[.int .i64 e1, .int .i64 e2, .int .i64 e3]) ∧ Below W.heap.size W w')
    (hM : ∀ W : World, Calls Try.prog 33 #[.agg #[.int .i64 d1_, .int .i64 d2_, .int .i64 d3_], .agg #[.int .i64 n1, .int .i64 n2, .int .i64 n3]] W fun e' w' => e' = .returned (.agg #[.int .i64 m1, .int .i64 m2, .int .i64 m3]) ∧ Below W.heap.size W w')
    (hC : ∀ W : World, Calls Try.prog 34 #[.agg #[.int .i64 e1, .int .i64 e2, .int .i64 e3], .int .i64 ro] W fun e' w' => e' = .returned (.agg #[.int .i64 p1, .int .i64 p2, .int .i64 p3]) ∧ Below W.heap.size W w')
    (hA : ∀ W : World, Calls Try.prog 35 #[.agg #[.int .i64 m1, .int .i64 m2, .int .i64 m3], .agg #[.int .i64 p1, .int .i64 p2, .int .i64 p3]] W fun e' w' => e' = .returned (.agg #[.int .i64 s1, .int .i64 s2, .int .i64 s3]) ∧ Below W.heap.size W w')
    (hV : ∀ W : World, Calls Try.prog 32 #[.agg #[.int .i64 s1, .int .i64 s2, .int .i64 s3]] W fun e' w' => e' = .returned (.agg #[.int .i64 x1, .int .i64 x2, .int .i64 x3]) ∧ Below W.heap.size W w')
    (hT : ∀ W : World, Calls Try.prog 23 #[.agg #[.int .i64 x1, .int .i64 x2, .int .i64 x3], .agg #[.int .i64 n1, .int .i64 n2, .int .i64 n3]] W fun e' w' => e' = .returned (.int .i64 z) ∧ Below W.heap.size W w')
    (hz : ¬ z ≤ 0) (w : World)  : Calls Try.prog 16 #[.agg #[.int .i64 2, .int .i64 c1, .int .i64 c2, .int .i64 c3, .int .i64 ro], .agg #[.int .i64 d1_, .int .i64 d2_, .int .i64 d3_], .agg #[.int .i64 n1, .int .i64 n2, .int .i64 n3], .int .i64 u, .int .i64 v] w fun e' w' => e' = .returned (.agg #[.int .i64 x1, .int .i64 x2, .int .i64 x3, .int .i64 c1, .int .i64 c2, .int .i64 c3, .bool true, .bool true]) ∧ Below w.heap.size w w' := by
  have dz := decide_eq_false hz
  go_enter Try.func16, Try.ntmps16
  go_upto_region 1 with fail
  have hR := Au.rows4 w (.cells #[.int .i64 2, .int .i64 c1, .int .i64 c2, .int .i64 c3, .int .i64 ro] 66) (.cells #[.int .i64 d1_, .int .i64 d2_, .int .i64 d3_] 39) (.cells #[.int .i64 n1, .int .i64 n2, .int .i64 n3] 39) (.cells #[.int .i64 0, .int .i64 0, .int .i64 0, .int .i64 0, .int .i64 0, .int .i64 0, .bool false, .bool false] 63)
  have HUx := below_n4 w (.cells #[.int .i64 2, .int .i64 c1, .int .i64 c2, .int .i64 c3, .int .i64 ro] 66) (.cells #[.int .i64 d1_, .int .i64 d2_, .int .i64 d3_] 39) (.cells #[.int .i64 n1, .int .i64 n2, .int .i64 n3] 39) (.cells #[.int .i64 0, .int .i64 0, .int .i64 0, .int .i64 0, .int .i64 0, .int .i64 0, .bool false, .bool false] 63)
  obtain ⟨y0, hy0⟩ : ∃ y0, (((w.alloc (.cells #[.int .i64 2, .int .i64 c1, .int .i64 c2, .int .i64 c3, .int .i64 ro] 66)).alloc (.cells #[.int .i64 d1_, .int .i64 d2_, .int .i64 d3_] 39)).alloc (.cells #[.int .i64 n1, .int .i64 n2, .int .i64 n3] 39)).alloc (.cells #[.int .i64 0, .int .i64 0, .int .i64 0, .int .i64 0, .int .i64 0, .int .i64 0, .bool false, .bool false] 63) = y0 := ⟨_, rfl⟩
  rw [hy0] at hR HUx ⊢
  clear hy0
  have HU0 := Lib.hid HUx
  clear HUx
  obtain ⟨hr0_0, hr0_1, hr0_2, hr0_3⟩ := hR
  have c0_0 := cell_of_row _ _ 0 _ _ _ hr0_0
  have c0_1 := cell_of_row _ _ 1 _ _ _ hr0_0
  have c0_2 := cell_of_row _ _ 2 _ _ _ hr0_0
  have c0_3 := cell_of_row _ _ 3 _ _ _ hr0_0
  have c0_4 := cell_of_row _ _ 4 _ _ _ hr0_0
  simp at c0_0 c0_1 c0_2 c0_3 c0_4
  have HA := Lib.hid (heap_alloc_last y0 (.cells #[.int .i64 0, .int .i64 0, .int .i64 0, .int .i64 0, .int .i64 0, .int .i64 0, .bool false, .bool false] 63))
  have hHi := Lib.hid (show (Try.prog.info? 63).map (·.size) = some (#[.int .i64 0, .int .i64 0, .int .i64 0, .int .i64 c1, .int .i64 c2, .int .i64 c3, .bool true, .bool false] : Array Value).size by kernel_rfl)
  have hHz := Lib.hid (show (#[.int .i64 0, .int .i64 0, .int .i64 0, .int .i64 0, .int .i64 0, .int .i64 0, .bool false, .bool false] : Array Value).size = (#[.int .i64 0, .int .i64 0, .int .i64 0, .int .i64 c1, .int .i64 c2, .int .i64 c3, .bool true, .bool false] : Array Value).size from rfl)
  have hHo := Lib.hid (show (#[.int .i64 0, .int .i64 0, .int .i64 0, .int .i64 c1, .int .i64 c2, .int .i64 c3, .bool true, .bool false] : Array Value).all (·.oneCell') = true by simp [Value.oneCell'])
  go_upto_region 2 with (refine Au.wpList_store_row rfl 63 (.tmp 11) (.tmp 15) rfl (y0.alloc (.cells #[.int .i64 0, .int .i64 0, .int .i64 0, .int .i64 0, .int .i64 0, .int .i64 0, .bool false, .bool false] 63)) #[.int .i64 0, .int .i64 0, .int .i64 0, .int .i64 0, .int .i64 0, .int .i64 0, .bool false, .bool false] #[.int .i64 0, .int .i64 0, .int .i64 0, .int .i64 c1, .int .i64 c2, .int .i64 c3, .bool true, .bool false] (y0.heap.size) 63 HA.out rfl rfl hHi.out hHz.out hHo.out ?_)
  clear c0_0 c0_1 c0_2 c0_3 c0_4
  clear hHi hHz hHo
  have hN := setRow_heap _ (y0.heap.size) _ #[.int .i64 0, .int .i64 0, .int .i64 0, .int .i64 c1, .int .i64 c2, .int .i64 c3, .bool true, .bool false] _ _ HA.out
  clear HA
  have hsz := HU0.out.size
  have hb := below_n1 y0 (.cells #[.int .i64 0, .int .i64 0, .int .i64 0, .int .i64 0, .int .i64 0, .int .i64 0, .bool false, .bool false] 63)
  have HUx := below_setRow (g := y0.heap.size) (HU0.out.trans (hb.mono HU0.out.size)) (by omega) #[.int .i64 0, .int .i64 0, .int .i64 0, .int .i64 c1, .int .i64 c2, .int .i64 c3, .bool true, .bool false]
  have hO : ∀ kk, kk < y0.heap.size → ((y0.alloc (.cells #[.int .i64 0, .int .i64 0, .int .i64 0, .int .i64 0, .int .i64 0, .int .i64 0, .bool false, .bool false] 63)).setRow (y0.heap.size) #[.int .i64 0, .int .i64 0, .int .i64 0, .int .i64 c1, .int .i64 c2, .int .i64 c3, .bool true, .bool false]).heap[kk]? = y0.heap[kk]? := fun kk hk => (setRow_other _ _ _ _ (by omega)).trans (hb.block _ hk)
  obtain ⟨y1, hy1⟩ : ∃ y, (y0.alloc (.cells #[.int .i64 0, .int .i64 0, .int .i64 0, .int .i64 0, .int .i64 0, .int .i64 0, .bool false, .bool false] 63)).setRow (y0.heap.size) #[.int .i64 0, .int .i64 0, .int .i64 0, .int .i64 c1, .int .i64 c2, .int .i64 c3, .bool true, .bool false] = y := ⟨_, rfl⟩
  have hs1 : y1.heap.size = y0.heap.size + 1 := by rw [← hy1]; simp [World.setRow]
  rw [hy1] at hN HUx hO ⊢
  clear hy1 hsz hb
  have HU1 := Lib.hid HUx
  clear HUx
  have hl1_0 := lt_heap hr0_0
  have hr1_0 := (hO _ hl1_0).trans hr0_0
  have hl1_1 := lt_heap hr0_1
  have hr1_1 := (hO _ hl1_1).trans hr0_1
  have hl1_2 := lt_heap hr0_2
  have hr1_2 := (hO _ hl1_2).trans hr0_2
  have hl1_3 := lt_heap hr0_3
  have hr1_3 := (hO _ hl1_3).trans hr0_3
  have hr1_4 := hN
  clear hN hO
  clear hr0_0 hr0_1 hr0_2 hr0_3 HU0
  have c0_0 := cell_of_row _ _ 0 _ _ _ hr1_0
  have c0_1 := cell_of_row _ _ 1 _ _ _ hr1_0
  have c0_2 := cell_of_row _ _ 2 _ _ _ hr1_0
  have c0_3 := cell_of_row _ _ 3 _ _ _ hr1_0
  have c0_4 := cell_of_row _ _ 4 _ _ _ hr1_0
  simp at c0_0 c0_1 c0_2 c0_3 c0_4
  go_upto_region 9 with fail
  clear c0_0 c0_1 c0_2 c0_3 c0_4
  refine wp_region_held_drew (S := fun y => y.heap[w.heap.size]? = some (.cells #[.int .i64 2, .int .i64 c1, .int .i64 c2, .int .i64 c3, .int .i64 ro] 66 (0, 0)) ∧ y.heap[w.heap.size + 1]? = some (.cells #[.int .i64 d1_, .int .i64 d2_, .int .i64 d3_] 39 (0, 0)) ∧ y.heap[w.heap.size + 1 + 1]? = some (.cells #[.int .i64 n1, .int .i64 n2, .int .i64 n3] 39 (0, 0)) ∧ y.heap[w.heap.size + 1 + 1 + 1]? = some (.cells #[.int .i64 0, .int .i64 0, .int .i64 0, .int .i64 0, .int .i64 0, .int .i64 0, .bool false, .bool false] 63 (0, 0)) ∧ y.heap[y0.heap.size]? = some (.cells #[.int .i64 0, .int .i64 0, .int .i64 0, .int .i64 c1, .int .i64 c2, .int .i64 c3, .bool true, .bool false] 63 (0, 0))) (by kernel_rfl) (⟨hr1_0, hr1_1, hr1_2, hr1_3, hr1_4⟩) (fun hS0 => ?_)
  obtain ⟨y2, hy2⟩ : ∃ y, y1.drew = y := ⟨_, rfl⟩
  have HU2 := Lib.hid (show Below w.heap.size w y2 by rw [← hy2]; exact HU1.out.drew)
  have hr2_0 : y2.heap[w.heap.size]? = some (.cells #[.int .i64 2, .int .i64 c1, .int .i64 c2, .int .i64 c3, .int .i64 ro] 66 (0, 0)) := by rw [← hy2]; exact hr1_0
  have hr2_1 : y2.heap[w.heap.size + 1]? = some (.cells #[.int .i64 d1_, .int .i64 d2_, .int .i64 d3_] 39 (0, 0)) := by rw [← hy2]; exact hr1_1
  have hr2_2 : y2.heap[w.heap.size + 1 + 1]? = some (.cells #[.int .i64 n1, .int .i64 n2, .int .i64 n3] 39 (0, 0)) := by rw [← hy2]; exact hr1_2
  have hr2_3 : y2.heap[w.heap.size + 1 + 1 + 1]? = some (.cells #[.int .i64 0, .int .i64 0, .int .i64 0, .int .i64 0, .int .i64 0, .int .i64 0, .bool false, .bool false] 63 (0, 0)) := by rw [← hy2]; exact hr1_3
  have hr2_4 : y2.heap[y0.heap.size]? = some (.cells #[.int .i64 0, .int .i64 0, .int .i64 0, .int .i64 c1, .int .i64 c2, .int .i64 c3, .bool true, .bool false] 63 (0, 0)) := by rw [← hy2]; exact hr1_4
  rw [hy2] at hS0 ⊢
  clear hy2
  refine wpAnyH_take (i := 0) (v := ?_) rfl (by kernel_rfl) (by kernel_rfl) (by kernel_rfl) (fun _ _ _ h => h) (Or.inl ⟨by kernel_rfl, by (intro wz hSz; have c0_0 := cell_of_row _ _ 0 _ _ _ hSz.1; have c0_1 := cell_of_row _ _ 1 _ _ _ hSz.1; have c0_2 := cell_of_row _ _ 2 _ _ _ hSz.1; have c0_3 := cell_of_row _ _ 3 _ _ _ hSz.1; have c0_4 := cell_of_row _ _ 4 _ _ _ hSz.1; have c1_0 := cell_of_row _ _ 0 _ _ _ hSz.2.1; have c1_1 := cell_of_row _ _ 1 _ _ _ hSz.2.1; have c1_2 := cell_of_row _ _ 2 _ _ _ hSz.2.1; have c2_0 := cell_of_row _ _ 0 _ _ _ hSz.2.2.1; have c2_1 := cell_of_row _ _ 1 _ _ _ hSz.2.2.1; have c2_2 := cell_of_row _ _ 2 _ _ _ hSz.2.2.1; have c3_0 := cell_of_row _ _ 0 _ _ _ hSz.2.2.2.1; have c3_1 := cell_of_row _ _ 1 _ _ _ hSz.2.2.2.1; have c3_2 := cell_of_row _ _ 2 _ _ _ hSz.2.2.2.1; have c3_3 := cell_of_row _ _ 3 _ _ _ hSz.2.2.2.1; have c3_4 := cell_of_row _ _ 4 _ _ _ hSz.2.2.2.1; have c3_5 := cell_of_row _ _ 5 _ _ _ hSz.2.2.2.1; have c3_6 := cell_of_row _ _ 6 _ _ _ hSz.2.2.2.1; have c3_7 := cell_of_row _ _ 7 _ _ _ hSz.2.2.2.1; have c4_0 := cell_of_row _ _ 0 _ _ _ hSz.2.2.2.2; have c4_1 := cell_of_row _ _ 1 _ _ _ hSz.2.2.2.2; have c4_2 := cell_of_row _ _ 2 _ _ _ hSz.2.2.2.2; have c4_3 := cell_of_row _ _ 3 _ _ _ hSz.2.2.2.2; have c4_4 := cell_of_row _ _ 4 _ _ _ hSz.2.2.2.2; have c4_5 := cell_of_row _ _ 5 _ _ _ hSz.2.2.2.2; have c4_6 := cell_of_row _ _ 6 _ _ _ hSz.2.2.2.2; have c4_7 := cell_of_row _ _ 7 _ _ _ hSz.2.2.2.2; simp at c0_0 c0_1 c0_2 c0_3 c0_4 c1_0 c1_1 c1_2 c2_0 c2_1 c2_2 c3_0 c3_1 c3_2 c3_3 c3_4 c3_5 c3_6 c3_7 c4_0 c4_1 c4_2 c4_3 c4_4 c4_5 c4_6 c4_7; go_simp; try with_reducible rfl)⟩) hS0 ?_
  go_simp
  refine wpAnyH_take (i := 1) (v := ?_) rfl (by kernel_rfl) (by kernel_rfl) (by kernel_rfl) (fun _ _ _ h => h) (Or.inl ⟨by kernel_rfl, by (intro wz hSz; go_simp; try with_reducible rfl)⟩) hS0 ?_
  go_simp
  refine wpAnyH_take (i := 2) (v := ?_) rfl (by kernel_rfl) (by kernel_rfl) (by kernel_rfl) (fun _ _ _ h => h) (Or.inl ⟨by kernel_rfl, by (intro wz hSz; go_simp; try with_reducible rfl)⟩) hS0 ?_
  go_simp
  refine wpAnyH_take (i := 4) (v := ?_) rfl (by kernel_rfl) (by kernel_rfl) (by kernel_rfl) (fun _ _ _ h => h) (Or.inl ⟨by kernel_rfl, by (intro wz hSz; go_simp; try with_reducible rfl)⟩) hS0 ?_
  go_simp
  refine wpAnyH_take (i := 5) (v := ?_) rfl (by kernel_rfl) (by kernel_rfl) (by kernel_rfl) (fun _ _ _ h => h) (Or.inl ⟨by kernel_rfl, by (intro wz hSz; have c0_0 := cell_of_row _ _ 0 _ _ _ hSz.1; have c0_1 := cell_of_row _ _ 1 _ _ _ hSz.1; have c0_2 := cell_of_row _ _ 2 _ _ _ hSz.1; have c0_3 := cell_of_row _ _ 3 _ _ _ hSz.1; have c0_4 := cell_of_row _ _ 4 _ _ _ hSz.1; have c1_0 := cell_of_row _ _ 0 _ _ _ hSz.2.1; have c1_1 := cell_of_row _ _ 1 _ _ _ hSz.2.1; have c1_2 := cell_of_row _ _ 2 _ _ _ hSz.2.1; have c2_0 := cell_of_row _ _ 0 _ _ _ hSz.2.2.1; have c2_1 := cell_of_row _ _ 1 _ _ _ hSz.2.2.1; have c2_2 := cell_of_row _ _ 2 _ _ _ hSz.2.2.1; have c3_0 := cell_of_row _ _ 0 _ _ _ hSz.2.2.2.1; have c3_1 := cell_of_row _ _ 1 _ _ _ hSz.2.2.2.1; have c3_2 := cell_of_row _ _ 2 _ _ _ hSz.2.2.2.1; have c3_3 := cell_of_row _ _ 3 _ _ _ hSz.2.2.2.1; have c3_4 := cell_of_row _ _ 4 _ _ _ hSz.2.2.2.1; have c3_5 := cell_of_row _ _ 5 _ _ _ hSz.2.2.2.1; have c3_6 := cell_of_row _ _ 6 _ _ _ hSz.2.2.2.1; have c3_7 := cell_of_row _ _ 7 _ _ _ hSz.2.2.2.1; have c4_0 := cell_of_row _ _ 0 _ _ _ hSz.2.2.2.2; have c4_1 := cell_of_row _ _ 1 _ _ _ hSz.2.2.2.2; have c4_2 := cell_of_row _ _ 2 _ _ _ hSz.2.2.2.2; have c4_3 := cell_of_row _ _ 3 _ _ _ hSz.2.2.2.2; have c4_4 := cell_of_row _ _ 4 _ _ _ hSz.2.2.2.2; have c4_5 := cell_of_row _ _ 5 _ _ _ hSz.2.2.2.2; have c4_6 := cell_of_row _ _ 6 _ _ _ hSz.2.2.2.2; have c4_7 := cell_of_row _ _ 7 _ _ _ hSz.2.2.2.2; simp at c0_0 c0_1 c0_2 c0_3 c0_4 c1_0 c1_1 c1_2 c2_0 c2_1 c2_2 c3_0 c3_1 c3_2 c3_3 c3_4 c3_5 c3_6 c3_7 c4_0 c4_1 c4_2 c4_3 c4_4 c4_5 c4_6 c4_7; go_simp; try with_reducible rfl)⟩) hS0 ?_
  go_simp
  refine wpAnyH_ready (rs := [3, 7]) (by kernel_rfl) (by simp) ?_
  refine AllReadyH.cons rfl (fun K hK => ?_) (AllReadyH.cons rfl (fun K hK => ?_) AllReadyH.nil)
  · skip
    go_simp
    go_wp2_with (go_at_call 31; refine (hD _).mono ?_; rintro e y3 ⟨rfl, hb3⟩)
    have hr3_0 := (hb3.block _ (lt_heap hr2_0)).trans hr2_0
    have hr3_1 := (hb3.block _ (lt_heap hr2_1)).trans hr2_1
    have hr3_2 := (hb3.block _ (lt_heap hr2_2)).trans hr2_2
    have hr3_3 := (hb3.block _ (lt_heap hr2_3)).trans hr2_3
    have hr3_4 := (hb3.block _ (lt_heap hr2_4)).trans hr2_4
    have HU3 := Lib.hid (HU2.out.trans (hb3.mono HU2.out.size))
    refine hK.out _ _ (⟨(hb3.block _ (lt_heap hS0.1)).trans hS0.1, (hb3.block _ (lt_heap hS0.2.1)).trans hS0.2.1, (hb3.block _ (lt_heap hS0.2.2.1)).trans hS0.2.2.1, (hb3.block _ (lt_heap hS0.2.2.2.1)).trans hS0.2.2.2.1, (hb3.block _ (lt_heap hS0.2.2.2.2)).trans hS0.2.2.2.2⟩) (fun hS3c => ?_)
    clear hK K
    refine wpAnyH_ready (rs := [6, 7]) (by kernel_rfl) (by simp) ?_
    refine AllReadyH.cons rfl (fun K hK => ?_) (AllReadyH.cons rfl (fun K hK => ?_) AllReadyH.nil)
    · skip
      go_simp
      go_wp2_with (go_at_call 34; refine (hC _).mono ?_; rintro e y4 ⟨rfl, hb4⟩)
      have hr4_0 := (hb4.block _ (lt_heap hr3_0)).trans hr3_0
      have hr4_1 := (hb4.block _ (lt_heap hr3_1)).trans hr3_1
      have hr4_2 := (hb4.block _ (lt_heap hr3_2)).trans hr3_2
      have hr4_3 := (hb4.block _ (lt_heap hr3_3)).trans hr3_3
      have hr4_4 := (hb4.block _ (lt_heap hr3_4)).trans hr3_4
      have HU4 := Lib.hid (HU3.out.trans (hb4.mono HU3.out.size))
      refine hK.out _ _ (⟨(hb4.block _ (lt_heap hS3c.1)).trans hS3c.1, (hb4.block _ (lt_heap hS3c.2.1)).trans hS3c.2.1, (hb4.block _ (lt_heap hS3c.2.2.1)).trans hS3c.2.2.1, (hb4.block _ (lt_heap hS3c.2.2.2.1)).trans hS3c.2.2.2.1, (hb4.block _ (lt_heap hS3c.2.2.2.2)).trans hS3c.2.2.2.2⟩) (fun hS4c => ?_)
      clear hK K
      refine wpAnyH_ready (rs := [7]) (by kernel_rfl) (by simp) ?_
      refine AllReadyH.cons rfl (fun K hK => ?_) AllReadyH.nil
      go_simp
      have hb5 := below_n1 y4 (.cells #[.int .i64 0, .int .i64 0, .int .i64 0] 39)
      have hN := heap_alloc_last y4 (.cells #[.int .i64 0, .int .i64 0, .int .i64 0] 39)
      obtain ⟨y5, hy5⟩ : ∃ y, y4.alloc (.cells #[.int .i64 0, .int .i64 0, .int .i64 0] 39) = y := ⟨_, rfl⟩
      rw [hy5] at hb5 hN ⊢
      clear hy5
      have hl5_0 := lt_heap hr4_0
      have hr5_0 := (hb5.block _ (lt_heap hr4_0)).trans hr4_0
      have hl5_1 := lt_heap hr4_1
      have hr5_1 := (hb5.block _ (lt_heap hr4_1)).trans hr4_1
      have hl5_2 := lt_heap hr4_2
      have hr5_2 := (hb5.block _ (lt_heap hr4_2)).trans hr4_2
      have hl5_3 := lt_heap hr4_3
      have hr5_3 := (hb5.block _ (lt_heap hr4_3)).trans hr4_3
      have hl5_4 := lt_heap hr4_4
      have hr5_4 := (hb5.block _ (lt_heap hr4_4)).trans hr4_4
      have hr5_5 := hN
      clear hN
      have HU5 := Lib.hid (HU4.out.trans (hb5.mono HU4.out.size))
      refine hK.out _ _ (⟨(hb5.block _ (lt_heap hS4c.1)).trans hS4c.1, (hb5.block _ (lt_heap hS4c.2.1)).trans hS4c.2.1, (hb5.block _ (lt_heap hS4c.2.2.1)).trans hS4c.2.2.1, (hb5.block _ (lt_heap hS4c.2.2.2.1)).trans hS4c.2.2.2.1, (hb5.block _ (lt_heap hS4c.2.2.2.2)).trans hS4c.2.2.2.2⟩) (fun hS5a => ?_)
      clear hK K
      refine wpAnyH_ready (rs := [8]) (by kernel_rfl) (by simp) ?_
      refine AllReadyH.cons rfl (fun K hK => ?_) AllReadyH.nil
      refine step_store_row rfl 39 (.tmp 12) (.tmp 42) rfl #[.int .i64 0, .int .i64 0, .int .i64 0] #[.int .i64 p1, .int .i64 p2, .int .i64 p3] _ 39 hr5_5 rfl (by first | rfl | (go_simp; done) | (go_simp; rfl)) (by kernel_rfl) rfl (by simp [Value.oneCell']) ?_
      have hN := setRow_heap _ (y4.heap.size) _ #[.int .i64 p1, .int .i64 p2, .int .i64 p3] _ _ hr5_5
      have hsz := HU5.out.size
      have HUx := below_setRow (g := y4.heap.size) HU5.out (by first | omega | (simp at *; omega)) #[.int .i64 p1, .int .i64 p2, .int .i64 p3]
      obtain ⟨y6, hy6⟩ : ∃ y, y5.setRow (y4.heap.size) #[.int .i64 p1, .int .i64 p2, .int .i64 p3] = y := ⟨_, rfl⟩
      have hO : ∀ k, k ≠ y4.heap.size → y6.heap[k]? = y5.heap[k]? := fun k hk => by rw [← hy6]; exact setRow_other _ _ _ _ hk
      rw [hy6] at hN HUx ⊢
      clear hy6
      have HU6 := Lib.hid HUx
      clear HUx
      have hr6_0 := (hO _ (by omega)).trans hr5_0
      have hr6_1 := (hO _ (by omega)).trans hr5_1
      have hr6_2 := (hO _ (by omega)).trans hr5_2
      have hr6_3 := (hO _ (by omega)).trans hr5_3
      have hr6_4 := (hO _ (by omega)).trans hr5_4
      have hr6_5 := hN
      clear hN
      refine hK.out _ _ (⟨(hO _ (by omega)).trans hS5a.1, (hO _ (by omega)).trans hS5a.2.1, (hO _ (by omega)).trans hS5a.2.2.1, (hO _ (by omega)).trans hS5a.2.2.2.1, (hO _ (by omega)).trans hS5a.2.2.2.2⟩) (fun hS6s => ?_)
      clear hK K
      refine wpAnyH_done (by kernel_rfl) ?_ _
      go_upto_region 10 with fail
      refine wp_region_held_drew (S := fun y => y.heap[w.heap.size + 1]? = some (.cells #[.int .i64 d1_, .int .i64 d2_, .int .i64 d3_] 39 (0, 0)) ∧ y.heap[w.heap.size + 1 + 1]? = some (.cells #[.int .i64 n1, .int .i64 n2, .int .i64 n3] 39 (0, 0)) ∧ y.heap[y4.heap.size]? = some (.cells #[.int .i64 p1, .int .i64 p2, .int .i64 p3] 39 (0, 0))) (by kernel_rfl) (⟨hr6_1, hr6_2, hr6_5⟩) (fun hS0 => ?_)
      obtain ⟨y7, hy7⟩ : ∃ y, y6.drew = y := ⟨_, rfl⟩
      have HU7 := Lib.hid (show Below w.heap.size w y7 by rw [← hy7]; exact HU6.out.drew)
      have hr7_0 : y7.heap[w.heap.size]? = some (.cells #[.int .i64 2, .int .i64 c1, .int .i64 c2, .int .i64 c3, .int .i64 ro] 66 (0, 0)) := by rw [← hy7]; exact hr6_0
      have hr7_1 : y7.heap[w.heap.size + 1]? = some (.cells #[.int .i64 d1_, .int .i64 d2_, .int .i64 d3_] 39 (0, 0)) := by rw [← hy7]; exact hr6_1
      have hr7_2 : y7.heap[w.heap.size + 1 + 1]? = some (.cells #[.int .i64 n1, .int .i64 n2, .int .i64 n3] 39 (0, 0)) := by rw [← hy7]; exact hr6_2
      have hr7_3 : y7.heap[w.heap.size + 1 + 1 + 1]? = some (.cells #[.int .i64 0, .int .i64 0, .int .i64 0, .int .i64 0, .int .i64 0, .int .i64 0, .bool false, .bool false] 63 (0, 0)) := by rw [← hy7]; exact hr6_3
      have hr7_4 : y7.heap[y0.heap.size]? = some (.cells #[.int .i64 0, .int .i64 0, .int .i64 0, .int .i64 c1, .int .i64 c2, .int .i64 c3, .bool true, .bool false] 63 (0, 0)) := by rw [← hy7]; exact hr6_4
      have hr7_5 : y7.heap[y4.heap.size]? = some (.cells #[.int .i64 p1, .int .i64 p2, .int .i64 p3] 39 (0, 0)) := by rw [← hy7]; exact hr6_5
      rw [hy7] at hS0 ⊢
      clear hy7
      refine wpAnyH_take (i := 0) (v := ?_) rfl (by kernel_rfl) (by kernel_rfl) (by kernel_rfl) (fun _ _ _ h => h) (Or.inl ⟨by kernel_rfl, by (intro wz hSz; have c1_0 := cell_of_row _ _ 0 _ _ _ hSz.1; have c1_1 := cell_of_row _ _ 1 _ _ _ hSz.1; have c1_2 := cell_of_row _ _ 2 _ _ _ hSz.1; have c2_0 := cell_of_row _ _ 0 _ _ _ hSz.2.1; have c2_1 := cell_of_row _ _ 1 _ _ _ hSz.2.1; have c2_2 := cell_of_row _ _ 2 _ _ _ hSz.2.1; have c5_0 := cell_of_row _ _ 0 _ _ _ hSz.2.2; have c5_1 := cell_of_row _ _ 1 _ _ _ hSz.2.2; have c5_2 := cell_of_row _ _ 2 _ _ _ hSz.2.2; simp at c1_0 c1_1 c1_2 c2_0 c2_1 c2_2 c5_0 c5_1 c5_2; go_simp; try with_reducible rfl)⟩) hS0 ?_
      go_simp
      refine wpAnyH_take (i := 1) (v := ?_) rfl (by kernel_rfl) (by kernel_rfl) (by kernel_rfl) (fun _ _ _ h => h) (Or.inl ⟨by kernel_rfl, by (intro wz hSz; have c1_0 := cell_of_row _ _ 0 _ _ _ hSz.1; have c1_1 := cell_of_row _ _ 1 _ _ _ hSz.1; have c1_2 := cell_of_row _ _ 2 _ _ _ hSz.1; have c2_0 := cell_of_row _ _ 0 _ _ _ hSz.2.1; have c2_1 := cell_of_row _ _ 1 _ _ _ hSz.2.1; have c2_2 := cell_of_row _ _ 2 _ _ _ hSz.2.1; have c5_0 := cell_of_row _ _ 0 _ _ _ hSz.2.2; have c5_1 := cell_of_row _ _ 1 _ _ _ hSz.2.2; have c5_2 := cell_of_row _ _ 2 _ _ _ hSz.2.2; simp at c1_0 c1_1 c1_2 c2_0 c2_1 c2_2 c5_0 c5_1 c5_2; go_simp; try with_reducible rfl)⟩) hS0 ?_
      go_simp
      refine wpAnyH_take (i := 3) (v := ?_) rfl (by kernel_rfl) (by kernel_rfl) (by kernel_rfl) (fun _ _ _ h => h) (Or.inl ⟨by kernel_rfl, by (intro wz hSz; have c1_0 := cell_of_row _ _ 0 _ _ _ hSz.1; have c1_1 := cell_of_row _ _ 1 _ _ _ hSz.1; have c1_2 := cell_of_row _ _ 2 _ _ _ hSz.1; have c2_0 := cell_of_row _ _ 0 _ _ _ hSz.2.1; have c2_1 := cell_of_row _ _ 1 _ _ _ hSz.2.1; have c2_2 := cell_of_row _ _ 2 _ _ _ hSz.2.1; have c5_0 := cell_of_row _ _ 0 _ _ _ hSz.2.2; have c5_1 := cell_of_row _ _ 1 _ _ _ hSz.2.2; have c5_2 := cell_of_row _ _ 2 _ _ _ hSz.2.2; simp at c1_0 c1_1 c1_2 c2_0 c2_1 c2_2 c5_0 c5_1 c5_2; go_simp; try with_reducible rfl)⟩) hS0 ?_
      go_simp
      refine wpAnyH_ready (rs := [2]) (by kernel_rfl) (by simp) ?_
      refine AllReadyH.cons rfl (fun K hK => ?_) AllReadyH.nil
      go_simp
      go_wp2_with (go_at_call 33; refine (hM _).mono ?_; rintro e y8 ⟨rfl, hb8⟩)
      have hr8_0 := (hb8.block _ (lt_heap hr7_0)).trans hr7_0
      have hr8_1 := (hb8.block _ (lt_heap hr7_1)).trans hr7_1
      have hr8_2 := (hb8.block _ (lt_heap hr7_2)).trans hr7_2
      have hr8_3 := (hb8.block _ (lt_heap hr7_3)).trans hr7_3
      have hr8_4 := (hb8.block _ (lt_heap hr7_4)).trans hr7_4
      have hr8_5 := (hb8.block _ (lt_heap hr7_5)).trans hr7_5
      have HU8 := Lib.hid (HU7.out.trans (hb8.mono HU7.out.size))
      refine hK.out _ _ (⟨(hb8.block _ (lt_heap hS0.1)).trans hS0.1, (hb8.block _ (lt_heap hS0.2.1)).trans hS0.2.1, (hb8.block _ (lt_heap hS0.2.2)).trans hS0.2.2⟩) (fun hS8c => ?_)
      clear hK K
      refine wpAnyH_ready (rs := [4]) (by kernel_rfl) (by simp) ?_
      refine AllReadyH.cons rfl (fun K hK => ?_) AllReadyH.nil
      go_simp
      go_wp2_with (go_at_call 35; refine (hA _).mono ?_; rintro e y9 ⟨rfl, hb9⟩)
      have hr9_0 := (hb9.block _ (lt_heap hr8_0)).trans hr8_0
      have hr9_1 := (hb9.block _ (lt_heap hr8_1)).trans hr8_1
      have hr9_2 := (hb9.block _ (lt_heap hr8_2)).trans hr8_2
      have hr9_3 := (hb9.block _ (lt_heap hr8_3)).trans hr8_3
      have hr9_4 := (hb9.block _ (lt_heap hr8_4)).trans hr8_4
      have hr9_5 := (hb9.block _ (lt_heap hr8_5)).trans hr8_5
      have HU9 := Lib.hid (HU8.out.trans (hb9.mono HU8.out.size))
      refine hK.out _ _ (⟨(hb9.block _ (lt_heap hS8c.1)).trans hS8c.1, (hb9.block _ (lt_heap hS8c.2.1)).trans hS8c.2.1, (hb9.block _ (lt_heap hS8c.2.2)).trans hS8c.2.2⟩) (fun hS9c => ?_)
      clear hK K
      refine wpAnyH_ready (rs := [5]) (by kernel_rfl) (by simp) ?_
      refine AllReadyH.cons rfl (fun K hK => ?_) AllReadyH.nil
      go_simp
      go_wp2_with (go_at_call 32; refine (hV _).mono ?_; rintro e y10 ⟨rfl, hb10⟩)
      have hr10_0 := (hb10.block _ (lt_heap hr9_0)).trans hr9_0
      have hr10_1 := (hb10.block _ (lt_heap hr9_1)).trans hr9_1
      have hr10_2 := (hb10.block _ (lt_heap hr9_2)).trans hr9_2
      have hr10_3 := (hb10.block _ (lt_heap hr9_3)).trans hr9_3
      have hr10_4 := (hb10.block _ (lt_heap hr9_4)).trans hr9_4
      have hr10_5 := (hb10.block _ (lt_heap hr9_5)).trans hr9_5
      have HU10 := Lib.hid (HU9.out.trans (hb10.mono HU9.out.size))
      refine hK.out _ _ (⟨(hb10.block _ (lt_heap hS9c.1)).trans hS9c.1, (hb10.block _ (lt_heap hS9c.2.1)).trans hS9c.2.1, (hb10.block _ (lt_heap hS9c.2.2)).trans hS9c.2.2⟩) (fun hS10c => ?_)
      clear hK K
      refine wpAnyH_take (i := 6) (v := ?_) rfl (by kernel_rfl) (by kernel_rfl) (by kernel_rfl) (fun _ _ _ h => h) (Or.inl ⟨by kernel_rfl, by (intro wz hSz; go_simp; try with_reducible rfl)⟩) hS10c ?_
      go_simp
      refine wpAnyH_ready (rs := [7]) (by kernel_rfl) (by simp) ?_
      refine AllReadyH.cons rfl (fun K hK => ?_) AllReadyH.nil
      have p0 := cell_of_row _ _ 0 _ _ _ hr10_4
      have p1 := cell_of_row _ _ 1 _ _ _ hr10_4
      have p2 := cell_of_row _ _ 2 _ _ _ hr10_4
      have p3 := cell_of_row _ _ 3 _ _ _ hr10_4
      have p4 := cell_of_row _ _ 4 _ _ _ hr10_4
      have p5 := cell_of_row _ _ 5 _ _ _ hr10_4
      have p6 := cell_of_row _ _ 6 _ _ _ hr10_4
      have p7 := cell_of_row _ _ 7 _ _ _ hr10_4
      simp at p0 p1 p2 p3 p4 p5 p6 p7
      have fz : ∀ j, y10.frozen? ⟨y0.heap.size, j, none⟩ = false := fun j => by simp [World.frozen?, hr10_4]
      go_simp
      clear fz p0 p1 p2 p3 p4 p5 p6 p7
      have hN : (((y10.setCell ⟨y0.heap.size, 0, none⟩ (.int .i64 x1)).setCell ⟨y0.heap.size, 1, none⟩ (.int .i64 x2)).setCell ⟨y0.heap.size, 2, none⟩ (.int .i64 x3)).heap[y0.heap.size]? = some (.cells #[.int .i64 x1, .int .i64 x2, .int .i64 x3, .int .i64 c1, .int .i64 c2, .int .i64 c3, .bool true, .bool false] 63 (0, 0)) := part3 hr10_4 _ _ _ rfl
      have hsz := HU10.out.size
      have HUx := below_put3 (k := y0.heap.size) HU10.out (by first | omega | (simp at *; omega)) (.int .i64 x1) (.int .i64 x2) (.int .i64 x3)
      have hO : ∀ kk, kk ≠ y0.heap.size → (((y10.setCell ⟨y0.heap.size, 0, none⟩ (.int .i64 x1)).setCell ⟨y0.heap.size, 1, none⟩ (.int .i64 x2)).setCell ⟨y0.heap.size, 2, none⟩ (.int .i64 x3)).heap[kk]? = y10.heap[kk]? := fun kk hk => put3_other _ _ _ _ _ hk
      obtain ⟨y11, hy11⟩ : ∃ y, ((y10.setCell ⟨y0.heap.size, 0, none⟩ (.int .i64 x1)).setCell ⟨y0.heap.size, 1, none⟩ (.int .i64 x2)).setCell ⟨y0.heap.size, 2, none⟩ (.int .i64 x3) = y := ⟨_, rfl⟩
      rw [hy11] at hN HUx hO ⊢
      clear hy11
      have HU11 := Lib.hid HUx
      clear HUx
      have hr11_0 := (hO _ (by omega)).trans hr10_0
      have hr11_1 := (hO _ (by omega)).trans hr10_1
      have hr11_2 := (hO _ (by omega)).trans hr10_2
      have hr11_3 := (hO _ (by omega)).trans hr10_3
      have hr11_4 := hN
      have hr11_5 := (hO _ (by omega)).trans hr10_5
      clear hN
      refine hK.out _ _ (⟨(hO _ (by omega)).trans hS10c.1, (hO _ (by omega)).trans hS10c.2.1, (hO _ (by omega)).trans hS10c.2.2⟩) (fun hS11p => ?_)
      clear hK K
      refine wpAnyH_take (i := 8) (v := ?_) rfl (by kernel_rfl) (by kernel_rfl) (by kernel_rfl) (fun _ _ _ h => h) (Or.inl ⟨by kernel_rfl, by (intro wz hSz; go_simp; try with_reducible rfl)⟩) hS11p ?_
      go_simp
      refine wpAnyH_ready (rs := [9]) (by kernel_rfl) (by simp) ?_
      refine AllReadyH.cons rfl (fun K hK => ?_) AllReadyH.nil
      have p0 := cell_of_row _ _ 7 _ _ _ hr11_4
      simp at p0
      have fz : ∀ j, y11.frozen? ⟨y0.heap.size, j, none⟩ = false := fun j => by simp [World.frozen?, hr11_4]
      go_simp
      clear fz p0
      have hN : (y11.setCell ⟨y0.heap.size, 7, none⟩ (.bool true)).heap[y0.heap.size]? = some (.cells #[.int .i64 x1, .int .i64 x2, .int .i64 x3, .int .i64 c1, .int .i64 c2, .int .i64 c3, .bool true, .bool true] 63 (0, 0)) := heap_setCell_same _ _ 7 _ _ _ hr11_4
      have hsz := HU11.out.size
      have HUx : Below w.heap.size w (y11.setCell ⟨y0.heap.size, 7, none⟩ (.bool true)) := HU11.out.setCell (by show w.heap.size ≤ y0.heap.size; omega) _
      have hO : ∀ kk, kk ≠ y0.heap.size → (y11.setCell ⟨y0.heap.size, 7, none⟩ (.bool true)).heap[kk]? = y11.heap[kk]? := fun kk hk => Below.heap_setCell _ _ _ _ hk
      obtain ⟨y12, hy12⟩ : ∃ y, y11.setCell ⟨y0.heap.size, 7, none⟩ (.bool true) = y := ⟨_, rfl⟩
      rw [hy12] at hN HUx hO ⊢
      clear hy12
      have HU12 := Lib.hid HUx
      clear HUx
      have hr12_0 := (hO _ (by omega)).trans hr11_0
      have hr12_1 := (hO _ (by omega)).trans hr11_1
      have hr12_2 := (hO _ (by omega)).trans hr11_2
      have hr12_3 := (hO _ (by omega)).trans hr11_3
      have hr12_4 := hN
      have hr12_5 := (hO _ (by omega)).trans hr11_5
      clear hN
      refine hK.out _ _ (⟨(hO _ (by omega)).trans hS11p.1, (hO _ (by omega)).trans hS11p.2.1, (hO _ (by omega)).trans hS11p.2.2⟩) (fun hS12k => ?_)
      clear hK K
      refine wpAnyH_done (by kernel_rfl) ?_ _
      go_upto_region 11 with fail
      have c2_0 := cell_of_row _ _ 0 _ _ _ hr12_2
      have c2_1 := cell_of_row _ _ 1 _ _ _ hr12_2
      have c2_2 := cell_of_row _ _ 2 _ _ _ hr12_2
      have c4_0 := cell_of_row _ _ 0 _ _ _ hr12_4
      have c4_1 := cell_of_row _ _ 1 _ _ _ hr12_4
      have c4_2 := cell_of_row _ _ 2 _ _ _ hr12_4
      have c4_3 := cell_of_row _ _ 3 _ _ _ hr12_4
      have c4_4 := cell_of_row _ _ 4 _ _ _ hr12_4
      have c4_5 := cell_of_row _ _ 5 _ _ _ hr12_4
      have c4_6 := cell_of_row _ _ 6 _ _ _ hr12_4
      have c4_7 := cell_of_row _ _ 7 _ _ _ hr12_4
      simp at c2_0 c2_1 c2_2 c4_0 c4_1 c4_2 c4_3 c4_4 c4_5 c4_6 c4_7
      go_wp2_with fail
      refine (hT _).mono ?_
      rintro e y13 ⟨rfl, hb13⟩
      clear c2_0 c2_1 c2_2 c4_0 c4_1 c4_2 c4_3 c4_4 c4_5 c4_6 c4_7
      have hr13_0 := (hb13.block _ (lt_heap hr12_0)).trans hr12_0
      have hr13_1 := (hb13.block _ (lt_heap hr12_1)).trans hr12_1
      have hr13_2 := (hb13.block _ (lt_heap hr12_2)).trans hr12_2
      have hr13_3 := (hb13.block _ (lt_heap hr12_3)).trans hr12_3
      have hr13_4 := (hb13.block _ (lt_heap hr12_4)).trans hr12_4
      have hr13_5 := (hb13.block _ (lt_heap hr12_5)).trans hr12_5
      have HU13 := Lib.hid (HU12.out.trans (hb13.mono HU12.out.size))
      clear hr12_0 hr12_1 hr12_2 hr12_3 hr12_4 hr12_5 HU12
      have c4_0 := cell_of_row _ _ 0 _ _ _ hr13_4
      have c4_1 := cell_of_row _ _ 1 _ _ _ hr13_4
      have c4_2 := cell_of_row _ _ 2 _ _ _ hr13_4
      have c4_3 := cell_of_row _ _ 3 _ _ _ hr13_4
      have c4_4 := cell_of_row _ _ 4 _ _ _ hr13_4
      have c4_5 := cell_of_row _ _ 5 _ _ _ hr13_4
      have c4_6 := cell_of_row _ _ 6 _ _ _ hr13_4
      have c4_7 := cell_of_row _ _ 7 _ _ _ hr13_4
      simp at c4_0 c4_1 c4_2 c4_3 c4_4 c4_5 c4_6 c4_7
      go_upto_region 13 with fail
      clear c4_0 c4_1 c4_2 c4_3 c4_4 c4_5 c4_6 c4_7
      have c4_0 := cell_of_row _ _ 0 _ _ _ hr13_4
      have c4_1 := cell_of_row _ _ 1 _ _ _ hr13_4
      have c4_2 := cell_of_row _ _ 2 _ _ _ hr13_4
      have c4_3 := cell_of_row _ _ 3 _ _ _ hr13_4
      have c4_4 := cell_of_row _ _ 4 _ _ _ hr13_4
      have c4_5 := cell_of_row _ _ 5 _ _ _ hr13_4
      have c4_6 := cell_of_row _ _ 6 _ _ _ hr13_4
      have c4_7 := cell_of_row _ _ 7 _ _ _ hr13_4
      simp at c4_0 c4_1 c4_2 c4_3 c4_4 c4_5 c4_6 c4_7
      have hHr := Lib.hid hr13_3
      have hHi := Lib.hid (show (Try.prog.info? 63).map (·.size) = some (#[.int .i64 x1, .int .i64 x2, .int .i64 x3, .int .i64 c1, .int .i64 c2, .int .i64 c3, .bool true, .bool true] : Array Value).size by kernel_rfl)
      have hHz := Lib.hid (show (#[.int .i64 0, .int .i64 0, .int .i64 0, .int .i64 0, .int .i64 0, .int .i64 0, .bool false, .bool false] : Array Value).size = (#[.int .i64 x1, .int .i64 x2, .int .i64 x3, .int .i64 c1, .int .i64 c2, .int .i64 c3, .bool true, .bool true] : Array Value).size from rfl)
      have hHo := Lib.hid (show (#[.int .i64 x1, .int .i64 x2, .int .i64 x3, .int .i64 c1, .int .i64 c2, .int .i64 c3, .bool true, .bool true] : Array Value).all (·.oneCell') = true by simp [Value.oneCell'])
      go_wp2_with (first | (refine Au.wpList_store_row rfl 63 (.tmp 10) (.tmp 57) rfl y13 #[.int .i64 0, .int .i64 0, .int .i64 0, .int .i64 0, .int .i64 0, .int .i64 0, .bool false, .bool false] #[.int .i64 x1, .int .i64 x2, .int .i64 x3, .int .i64 c1, .int .i64 c2, .int .i64 c3, .bool true, .bool true] (w.heap.size + 1 + 1 + 1) 63 hHr.out rfl rfl hHi.out hHz.out hHo.out ?_))
      clear c4_0 c4_1 c4_2 c4_3 c4_4 c4_5 c4_6 c4_7
      clear hHr hHi hHz hHo
      have hN := setRow_heap _ (w.heap.size + 1 + 1 + 1) _ #[.int .i64 x1, .int .i64 x2, .int .i64 x3, .int .i64 c1, .int .i64 c2, .int .i64 c3, .bool true, .bool true] _ _ hr13_3
      have hsz := HU13.out.size
      have HUx := below_setRow (g := w.heap.size + 1 + 1 + 1) HU13.out (by first | omega | (simp at *; omega)) #[.int .i64 x1, .int .i64 x2, .int .i64 x3, .int .i64 c1, .int .i64 c2, .int .i64 c3, .bool true, .bool true]
      have hO : ∀ kk, kk ≠ w.heap.size + 1 + 1 + 1 → (y13.setRow (w.heap.size + 1 + 1 + 1) #[.int .i64 x1, .int .i64 x2, .int .i64 x3, .int .i64 c1, .int .i64 c2, .int .i64 c3, .bool true, .bool true]).heap[kk]? = y13.heap[kk]? := fun kk hk => setRow_other _ _ _ _ hk
      obtain ⟨y14, hy14⟩ : ∃ y, y13.setRow (w.heap.size + 1 + 1 + 1) #[.int .i64 x1, .int .i64 x2, .int .i64 x3, .int .i64 c1, .int .i64 c2, .int .i64 c3, .bool true, .bool true] = y := ⟨_, rfl⟩
      rw [hy14] at hN HUx hO ⊢
      clear hy14 hsz
      have HU14 := Lib.hid HUx
      clear HUx
      have hr14_0 := (hO _ (by omega)).trans hr13_0
      have hr14_1 := (hO _ (by omega)).trans hr13_1
      have hr14_2 := (hO _ (by omega)).trans hr13_2
      have hr14_3 := hN
      have hr14_4 := (hO _ (by omega)).trans hr13_4
      have hr14_5 := (hO _ (by omega)).trans hr13_5
      clear hN hO
      clear hr13_0 hr13_1 hr13_2 hr13_3 hr13_4 hr13_5 HU13
      have c3_0 := cell_of_row _ _ 0 _ _ _ hr14_3
      have c3_1 := cell_of_row _ _ 1 _ _ _ hr14_3
      have c3_2 := cell_of_row _ _ 2 _ _ _ hr14_3
      have c3_3 := cell_of_row _ _ 3 _ _ _ hr14_3
      have c3_4 := cell_of_row _ _ 4 _ _ _ hr14_3
      have c3_5 := cell_of_row _ _ 5 _ _ _ hr14_3
      have c3_6 := cell_of_row _ _ 6 _ _ _ hr14_3
      have c3_7 := cell_of_row _ _ 7 _ _ _ hr14_3
      simp at c3_0 c3_1 c3_2 c3_3 c3_4 c3_5 c3_6 c3_7
      go_wp2
      exact bodyPost_ret (v := .agg #[.int .i64 x1, .int .i64 x2, .int .i64 x3, .int .i64 c1, .int .i64 c2, .int .i64 c3, .bool true, .bool true]) (by simp [results, Try.results16, go_sem, c3_0, c3_1, c3_2, c3_3, c3_4, c3_5, c3_6, c3_7]) rfl ⟨rfl, HU14.out⟩
    · skip
      go_simp
      have hb4 := below_n1 y3 (.cells #[.int .i64 0, .int .i64 0, .int .i64 0] 39)
      have hN := heap_alloc_last y3 (.cells #[.int .i64 0, .int .i64 0, .int .i64 0] 39)
      obtain ⟨y4, hy4⟩ : ∃ y, y3.alloc (.cells #[.int .i64 0, .int .i64 0, .int .i64 0] 39) = y := ⟨_, rfl⟩
      rw [hy4] at hb4 hN ⊢
      clear hy4
      have hl4_0 := lt_heap hr3_0
      have hr4_0 := (hb4.block _ (lt_heap hr3_0)).trans hr3_0
      have hl4_1 := lt_heap hr3_1
      have hr4_1 := (hb4.block _ (lt_heap hr3_1)).trans hr3_1
      have hl4_2 := lt_heap hr3_2
      have hr4_2 := (hb4.block _ (lt_heap hr3_2)).trans hr3_2
      have hl4_3 := lt_heap hr3_3
      have hr4_3 := (hb4.block _ (lt_heap hr3_3)).trans hr3_3
      have hl4_4 := lt_heap hr3_4
      have hr4_4 := (hb4.block _ (lt_heap hr3_4)).trans hr3_4
      have hr4_5 := hN
      clear hN
      have HU4 := Lib.hid (HU3.out.trans (hb4.mono HU3.out.size))
      refine hK.out _ _ (⟨(hb4.block _ (lt_heap hS3c.1)).trans hS3c.1, (hb4.block _ (lt_heap hS3c.2.1)).trans hS3c.2.1, (hb4.block _ (lt_heap hS3c.2.2.1)).trans hS3c.2.2.1, (hb4.block _ (lt_heap hS3c.2.2.2.1)).trans hS3c.2.2.2.1, (hb4.block _ (lt_heap hS3c.2.2.2.2)).trans hS3c.2.2.2.2⟩) (fun hS4a => ?_)
      clear hK K
      refine wpAnyH_ready (rs := [6]) (by kernel_rfl) (by simp) ?_
      refine AllReadyH.cons rfl (fun K hK => ?_) AllReadyH.nil
      go_simp
      go_wp2_with (go_at_call 34; refine (hC _).mono ?_; rintro e y5 ⟨rfl, hb5⟩)
      have hr5_0 := (hb5.block _ (lt_heap hr4_0)).trans hr4_0
      have hr5_1 := (hb5.block _ (lt_heap hr4_1)).trans hr4_1
      have hr5_2 := (hb5.block _ (lt_heap hr4_2)).trans hr4_2
      have hr5_3 := (hb5.block _ (lt_heap hr4_3)).trans hr4_3
      have hr5_4 := (hb5.block _ (lt_heap hr4_4)).trans hr4_4
      have hr5_5 := (hb5.block _ (lt_heap hr4_5)).trans hr4_5
      have HU5 := Lib.hid (HU4.out.trans (hb5.mono HU4.out.size))
      refine hK.out _ _ (⟨(hb5.block _ (lt_heap hS4a.1)).trans hS4a.1, (hb5.block _ (lt_heap hS4a.2.1)).trans hS4a.2.1, (hb5.block _ (lt_heap hS4a.2.2.1)).trans hS4a.2.2.1, (hb5.block _ (lt_heap hS4a.2.2.2.1)).trans hS4a.2.2.2.1, (hb5.block _ (lt_heap hS4a.2.2.2.2)).trans hS4a.2.2.2.2⟩) (fun hS5c => ?_)
      clear hK K
      refine wpAnyH_ready (rs := [8]) (by kernel_rfl) (by simp) ?_
      refine AllReadyH.cons rfl (fun K hK => ?_) AllReadyH.nil
      refine step_store_row rfl 39 (.tmp 12) (.tmp 42) rfl #[.int .i64 0, .int .i64 0, .int .i64 0] #[.int .i64 p1, .int .i64 p2, .int .i64 p3] _ 39 hr5_5 rfl (by first | rfl | (go_simp; done) | (go_simp; rfl)) (by kernel_rfl) rfl (by simp [Value.oneCell']) ?_
      have hN := setRow_heap _ (y3.heap.size) _ #[.int .i64 p1, .int .i64 p2, .int .i64 p3] _ _ hr5_5
      have hsz := HU5.out.size
      have HUx := below_setRow (g := y3.heap.size) HU5.out (by first | omega | (simp at *; omega)) #[.int .i64 p1, .int .i64 p2, .int .i64 p3]
      obtain ⟨y6, hy6⟩ : ∃ y, y5.setRow (y3.heap.size) #[.int .i64 p1, .int .i64 p2, .int .i64 p3] = y := ⟨_, rfl⟩
      have hO : ∀ k, k ≠ y3.heap.size → y6.heap[k]? = y5.heap[k]? := fun k hk => by rw [← hy6]; exact setRow_other _ _ _ _ hk
      rw [hy6] at hN HUx ⊢
      clear hy6
      have HU6 := Lib.hid HUx
      clear HUx
      have hr6_0 := (hO _ (by omega)).trans hr5_0
      have hr6_1 := (hO _ (by omega)).trans hr5_1
      have hr6_2 := (hO _ (by omega)).trans hr5_2
      have hr6_3 := (hO _ (by omega)).trans hr5_3
      have hr6_4 := (hO _ (by omega)).trans hr5_4
      have hr6_5 := hN
      clear hN
      refine hK.out _ _ (⟨(hO _ (by omega)).trans hS5c.1, (hO _ (by omega)).trans hS5c.2.1, (hO _ (by omega)).trans hS5c.2.2.1, (hO _ (by omega)).trans hS5c.2.2.2.1, (hO _ (by omega)).trans hS5c.2.2.2.2⟩) (fun hS6s => ?_)
      clear hK K
      refine wpAnyH_done (by kernel_rfl) ?_ _
      go_upto_region 10 with fail
      refine wp_region_held_drew (S := fun y => y.heap[w.heap.size + 1]? = some (.cells #[.int .i64 d1_, .int .i64 d2_, .int .i64 d3_] 39 (0, 0)) ∧ y.heap[w.heap.size + 1 + 1]? = some (.cells #[.int .i64 n1, .int .i64 n2, .int .i64 n3] 39 (0, 0)) ∧ y.heap[y3.heap.size]? = some (.cells #[.int .i64 p1, .int .i64 p2, .int .i64 p3] 39 (0, 0))) (by kernel_rfl) (⟨hr6_1, hr6_2, hr6_5⟩) (fun hS0 => ?_)
      obtain ⟨y7, hy7⟩ : ∃ y, y6.drew = y := ⟨_, rfl⟩
      have HU7 := Lib.hid (show Below w.heap.size w y7 by rw [← hy7]; exact HU6.out.drew)
      have hr7_0 : y7.heap[w.heap.size]? = some (.cells #[.int .i64 2, .int .i64 c1, .int .i64 c2, .int .i64 c3, .int .i64 ro] 66 (0, 0)) := by rw [← hy7]; exact hr6_0
      have hr7_1 : y7.heap[w.heap.size + 1]? = some (.cells #[.int .i64 d1_, .int .i64 d2_, .int .i64 d3_] 39 (0, 0)) := by rw [← hy7]; exact hr6_1
      have hr7_2 : y7.heap[w.heap.size + 1 + 1]? = some (.cells #[.int .i64 n1, .int .i64 n2, .int .i64 n3] 39 (0, 0)) := by rw [← hy7]; exact hr6_2
      have hr7_3 : y7.heap[w.heap.size + 1 + 1 + 1]? = some (.cells #[.int .i64 0, .int .i64 0, .int .i64 0, .int .i64 0, .int .i64 0, .int .i64 0, .bool false, .bool false] 63 (0, 0)) := by rw [← hy7]; exact hr6_3
      have hr7_4 : y7.heap[y0.heap.size]? = some (.cells #[.int .i64 0, .int .i64 0, .int .i64 0, .int .i64 c1, .int .i64 c2, .int .i64 c3, .bool true, .bool false] 63 (0, 0)) := by rw [← hy7]; exact hr6_4
      have hr7_5 : y7.heap[y3.heap.size]? = some (.cells #[.int .i64 p1, .int .i64 p2, .int .i64 p3] 39 (0, 0)) := by rw [← hy7]; exact hr6_5
      rw [hy7] at hS0 ⊢
      clear hy7
      refine wpAnyH_take (i := 0) (v := ?_) rfl (by kernel_rfl) (by kernel_rfl) (by kernel_rfl) (fun _ _ _ h => h) (Or.inl ⟨by kernel_rfl, by (intro wz hSz; have c1_0 := cell_of_row _ _ 0 _ _ _ hSz.1; have c1_1 := cell_of_row _ _ 1 _ _ _ hSz.1; have c1_2 := cell_of_row _ _ 2 _ _ _ hSz.1; have c2_0 := cell_of_row _ _ 0 _ _ _ hSz.2.1; have c2_1 := cell_of_row _ _ 1 _ _ _ hSz.2.1; have c2_2 := cell_of_row _ _ 2 _ _ _ hSz.2.1; have c5_0 := cell_of_row _ _ 0 _ _ _ hSz.2.2; have c5_1 := cell_of_row _ _ 1 _ _ _ hSz.2.2; have c5_2 := cell_of_row _ _ 2 _ _ _ hSz.2.2; simp at c1_0 c1_1 c1_2 c2_0 c2_1 c2_2 c5_0 c5_1 c5_2; go_simp; try with_reducible rfl)⟩) hS0 ?_
      go_simp
      refine wpAnyH_take (i := 1) (v := ?_) rfl (by kernel_rfl) (by kernel_rfl) (by kernel_rfl) (fun _ _ _ h => h) (Or.inl ⟨by kernel_rfl, by (intro wz hSz; have c1_0 := cell_of_row _ _ 0 _ _ _ hSz.1; have c1_1 := cell_of_row _ _ 1 _ _ _ hSz.1; have c1_2 := cell_of_row _ _ 2 _ _ _ hSz.1; have c2_0 := cell_of_row _ _ 0 _ _ _ hSz.2.1; have c2_1 := cell_of_row _ _ 1 _ _ _ hSz.2.1; have c2_2 := cell_of_row _ _ 2 _ _ _ hSz.2.1; have c5_0 := cell_of_row _ _ 0 _ _ _ hSz.2.2; have c5_1 := cell_of_row _ _ 1 _ _ _ hSz.2.2; have c5_2 := cell_of_row _ _ 2 _ _ _ hSz.2.2; simp at c1_0 c1_1 c1_2 c2_0 c2_1 c2_2 c5_0 c5_1 c5_2; go_simp; try with_reducible rfl)⟩) hS0 ?_
      go_simp
      refine wpAnyH_take (i := 3) (v := ?_) rfl (by kernel_rfl) (by kernel_rfl) (by kernel_rfl) (fun _ _ _ h => h) (Or.inl ⟨by kernel_rfl, by (intro wz hSz; have c1_0 := cell_of_row _ _ 0 _ _ _ hSz.1; have c1_1 := cell_of_row _ _ 1 _ _ _ hSz.1; have c1_2 := cell_of_row _ _ 2 _ _ _ hSz.1; have c2_0 := cell_of_row _ _ 0 _ _ _ hSz.2.1; have c2_1 := cell_of_row _ _ 1 _ _ _ hSz.2.1; have c2_2 := cell_of_row _ _ 2 _ _ _ hSz.2.1; have c5_0 := cell_of_row _ _ 0 _ _ _ hSz.2.2; have c5_1 := cell_of_row _ _ 1 _ _ _ hSz.2.2; have c5_2 := cell_of_row _ _ 2 _ _ _ hSz.2.2; simp at c1_0 c1_1 c1_2 c2_0 c2_1 c2_2 c5_0 c5_1 c5_2; go_simp; try with_reducible rfl)⟩) hS0 ?_
      go_simp
      refine wpAnyH_ready (rs := [2]) (by kernel_rfl) (by simp) ?_
      refine AllReadyH.cons rfl (fun K hK => ?_) AllReadyH.nil
      go_simp
      go_wp2_with (go_at_call 33; refine (hM _).mono ?_; rintro e y8 ⟨rfl, hb8⟩)
      have hr8_0 := (hb8.block _ (lt_heap hr7_0)).trans hr7_0
      have hr8_1 := (hb8.block _ (lt_heap hr7_1)).trans hr7_1
      have hr8_2 := (hb8.block _ (lt_heap hr7_2)).trans hr7_2
      have hr8_3 := (hb8.block _ (lt_heap hr7_3)).trans hr7_3
      have hr8_4 := (hb8.block _ (lt_heap hr7_4)).trans hr7_4
      have hr8_5 := (hb8.block _ (lt_heap hr7_5)).trans hr7_5
      have HU8 := Lib.hid (HU7.out.trans (hb8.mono HU7.out.size))
      refine hK.out _ _ (⟨(hb8.block _ (lt_heap hS0.1)).trans hS0.1, (hb8.block _ (lt_heap hS0.2.1)).trans hS0.2.1, (hb8.block _ (lt_heap hS0.2.2)).trans hS0.2.2⟩) (fun hS8c => ?_)
      clear hK K
      refine wpAnyH_ready (rs := [4]) (by kernel_rfl) (by simp) ?_
      refine AllReadyH.cons rfl (fun K hK => ?_) AllReadyH.nil
      go_simp
      go_wp2_with (go_at_call 35; refine (hA _).mono ?_; rintro e y9 ⟨rfl, hb9⟩)
      have hr9_0 := (hb9.block _ (lt_heap hr8_0)).trans hr8_0
      have hr9_1 := (hb9.block _ (lt_heap hr8_1)).trans hr8_1
      have hr9_2 := (hb9.block _ (lt_heap hr8_2)).trans hr8_2
      have hr9_3 := (hb9.block _ (lt_heap hr8_3)).trans hr8_3
      have hr9_4 := (hb9.block _ (lt_heap hr8_4)).trans hr8_4
      have hr9_5 := (hb9.block _ (lt_heap hr8_5)).trans hr8_5
      have HU9 := Lib.hid (HU8.out.trans (hb9.mono HU8.out.size))
      refine hK.out _ _ (⟨(hb9.block _ (lt_heap hS8c.1)).trans hS8c.1, (hb9.block _ (lt_heap hS8c.2.1)).trans hS8c.2.1, (hb9.block _ (lt_heap hS8c.2.2)).trans hS8c.2.2⟩) (fun hS9c => ?_)
      clear hK K
      refine wpAnyH_ready (rs := [5]) (by kernel_rfl) (by simp) ?_
      refine AllReadyH.cons rfl (fun K hK => ?_) AllReadyH.nil
      go_simp
      go_wp2_with (go_at_call 32; refine (hV _).mono ?_; rintro e y10 ⟨rfl, hb10⟩)
      have hr10_0 := (hb10.block _ (lt_heap hr9_0)).trans hr9_0
      have hr10_1 := (hb10.block _ (lt_heap hr9_1)).trans hr9_1
      have hr10_2 := (hb10.block _ (lt_heap hr9_2)).trans hr9_2
      have hr10_3 := (hb10.block _ (lt_heap hr9_3)).trans hr9_3
      have hr10_4 := (hb10.block _ (lt_heap hr9_4)).trans hr9_4
      have hr10_5 := (hb10.block _ (lt_heap hr9_5)).trans hr9_5
      have HU10 := Lib.hid (HU9.out.trans (hb10.mono HU9.out.size))
      refine hK.out _ _ (⟨(hb10.block _ (lt_heap hS9c.1)).trans hS9c.1, (hb10.block _ (lt_heap hS9c.2.1)).trans hS9c.2.1, (hb10.block _ (lt_heap hS9c.2.2)).trans hS9c.2.2⟩) (fun hS10c => ?_)
      clear hK K
      refine wpAnyH_take (i := 6) (v := ?_) rfl (by kernel_rfl) (by kernel_rfl) (by kernel_rfl) (fun _ _ _ h => h) (Or.inl ⟨by kernel_rfl, by (intro wz hSz; go_simp; try with_reducible rfl)⟩) hS10c ?_
      go_simp
      refine wpAnyH_ready (rs := [7]) (by kernel_rfl) (by simp) ?_
      refine AllReadyH.cons rfl (fun K hK => ?_) AllReadyH.nil
      have p0 := cell_of_row _ _ 0 _ _ _ hr10_4
      have p1 := cell_of_row _ _ 1 _ _ _ hr10_4
      have p2 := cell_of_row _ _ 2 _ _ _ hr10_4
      have p3 := cell_of_row _ _ 3 _ _ _ hr10_4
      have p4 := cell_of_row _ _ 4 _ _ _ hr10_4
      have p5 := cell_of_row _ _ 5 _ _ _ hr10_4
      have p6 := cell_of_row _ _ 6 _ _ _ hr10_4
      have p7 := cell_of_row _ _ 7 _ _ _ hr10_4
      simp at p0 p1 p2 p3 p4 p5 p6 p7
      have fz : ∀ j, y10.frozen? ⟨y0.heap.size, j, none⟩ = false := fun j => by simp [World.frozen?, hr10_4]
      go_simp
      clear fz p0 p1 p2 p3 p4 p5 p6 p7
      have hN : (((y10.setCell ⟨y0.heap.size, 0, none⟩ (.int .i64 x1)).setCell ⟨y0.heap.size, 1, none⟩ (.int .i64 x2)).setCell ⟨y0.heap.size, 2, none⟩ (.int .i64 x3)).heap[y0.heap.size]? = some (.cells #[.int .i64 x1, .int .i64 x2, .int .i64 x3, .int .i64 c1, .int .i64 c2, .int .i64 c3, .bool true, .bool false] 63 (0, 0)) := part3 hr10_4 _ _ _ rfl
      have hsz := HU10.out.size
      have HUx := below_put3 (k := y0.heap.size) HU10.out (by first | omega | (simp at *; omega)) (.int .i64 x1) (.int .i64 x2) (.int .i64 x3)
      have hO : ∀ kk, kk ≠ y0.heap.size → (((y10.setCell ⟨y0.heap.size, 0, none⟩ (.int .i64 x1)).setCell ⟨y0.heap.size, 1, none⟩ (.int .i64 x2)).setCell ⟨y0.heap.size, 2, none⟩ (.int .i64 x3)).heap[kk]? = y10.heap[kk]? := fun kk hk => put3_other _ _ _ _ _ hk
      obtain ⟨y11, hy11⟩ : ∃ y, ((y10.setCell ⟨y0.heap.size, 0, none⟩ (.int .i64 x1)).setCell ⟨y0.heap.size, 1, none⟩ (.int .i64 x2)).setCell ⟨y0.heap.size, 2, none⟩ (.int .i64 x3) = y := ⟨_, rfl⟩
      rw [hy11] at hN HUx hO ⊢
      clear hy11
      have HU11 := Lib.hid HUx
      clear HUx
      have hr11_0 := (hO _ (by omega)).trans hr10_0
      have hr11_1 := (hO _ (by omega)).trans hr10_1
      have hr11_2 := (hO _ (by omega)).trans hr10_2
      have hr11_3 := (hO _ (by omega)).trans hr10_3
      have hr11_4 := hN
      have hr11_5 := (hO _ (by omega)).trans hr10_5
      clear hN
      refine hK.out _ _ (⟨(hO _ (by omega)).trans hS10c.1, (hO _ (by omega)).trans hS10c.2.1, (hO _ (by omega)).trans hS10c.2.2⟩) (fun hS11p => ?_)
      clear hK K
      refine wpAnyH_take (i := 8) (v := ?_) rfl (by kernel_rfl) (by kernel_rfl) (by kernel_rfl) (fun _ _ _ h => h) (Or.inl ⟨by kernel_rfl, by (intro wz hSz; go_simp; try with_reducible rfl)⟩) hS11p ?_
      go_simp
      refine wpAnyH_ready (rs := [9]) (by kernel_rfl) (by simp) ?_
      refine AllReadyH.cons rfl (fun K hK => ?_) AllReadyH.nil
      have p0 := cell_of_row _ _ 7 _ _ _ hr11_4
      simp at p0
      have fz : ∀ j, y11.frozen? ⟨y0.heap.size, j, none⟩ = false := fun j => by simp [World.frozen?, hr11_4]
      go_simp
      clear fz p0
      have hN : (y11.setCell ⟨y0.heap.size, 7, none⟩ (.bool true)).heap[y0.heap.size]? = some (.cells #[.int .i64 x1, .int .i64 x2, .int .i64 x3, .int .i64 c1, .int .i64 c2, .int .i64 c3, .bool true, .bool true] 63 (0, 0)) := heap_setCell_same _ _ 7 _ _ _ hr11_4
      have hsz := HU11.out.size
      have HUx : Below w.heap.size w (y11.setCell ⟨y0.heap.size, 7, none⟩ (.bool true)) := HU11.out.setCell (by show w.heap.size ≤ y0.heap.size; omega) _
      have hO : ∀ kk, kk ≠ y0.heap.size → (y11.setCell ⟨y0.heap.size, 7, none⟩ (.bool true)).heap[kk]? = y11.heap[kk]? := fun kk hk => Below.heap_setCell _ _ _ _ hk
      obtain ⟨y12, hy12⟩ : ∃ y, y11.setCell ⟨y0.heap.size, 7, none⟩ (.bool true) = y := ⟨_, rfl⟩
      rw [hy12] at hN HUx hO ⊢
      clear hy12
      have HU12 := Lib.hid HUx
      clear HUx
      have hr12_0 := (hO _ (by omega)).trans hr11_0
      have hr12_1 := (hO _ (by omega)).trans hr11_1
      have hr12_2 := (hO _ (by omega)).trans hr11_2
      have hr12_3 := (hO _ (by omega)).trans hr11_3
      have hr12_4 := hN
      have hr12_5 := (hO _ (by omega)).trans hr11_5
      clear hN
      refine hK.out _ _ (⟨(hO _ (by omega)).trans hS11p.1, (hO _ (by omega)).trans hS11p.2.1, (hO _ (by omega)).trans hS11p.2.2⟩) (fun hS12k => ?_)
      clear hK K
      refine wpAnyH_done (by kernel_rfl) ?_ _
      go_upto_region 11 with fail
      have c2_0 := cell_of_row _ _ 0 _ _ _ hr12_2
      have c2_1 := cell_of_row _ _ 1 _ _ _ hr12_2
      have c2_2 := cell_of_row _ _ 2 _ _ _ hr12_2
      have c4_0 := cell_of_row _ _ 0 _ _ _ hr12_4
      have c4_1 := cell_of_row _ _ 1 _ _ _ hr12_4
      have c4_2 := cell_of_row _ _ 2 _ _ _ hr12_4
      have c4_3 := cell_of_row _ _ 3 _ _ _ hr12_4
      have c4_4 := cell_of_row _ _ 4 _ _ _ hr12_4
      have c4_5 := cell_of_row _ _ 5 _ _ _ hr12_4
      have c4_6 := cell_of_row _ _ 6 _ _ _ hr12_4
      have c4_7 := cell_of_row _ _ 7 _ _ _ hr12_4
      simp at c2_0 c2_1 c2_2 c4_0 c4_1 c4_2 c4_3 c4_4 c4_5 c4_6 c4_7
      go_wp2_with fail
      refine (hT _).mono ?_
      rintro e y13 ⟨rfl, hb13⟩
      clear c2_0 c2_1 c2_2 c4_0 c4_1 c4_2 c4_3 c4_4 c4_5 c4_6 c4_7
      have hr13_0 := (hb13.block _ (lt_heap hr12_0)).trans hr12_0
      have hr13_1 := (hb13.block _ (lt_heap hr12_1)).trans hr12_1
      have hr13_2 := (hb13.block _ (lt_heap hr12_2)).trans hr12_2
      have hr13_3 := (hb13.block _ (lt_heap hr12_3)).trans hr12_3
      have hr13_4 := (hb13.block _ (lt_heap hr12_4)).trans hr12_4
      have hr13_5 := (hb13.block _ (lt_heap hr12_5)).trans hr12_5
      have HU13 := Lib.hid (HU12.out.trans (hb13.mono HU12.out.size))
      clear hr12_0 hr12_1 hr12_2 hr12_3 hr12_4 hr12_5 HU12
      have c4_0 := cell_of_row _ _ 0 _ _ _ hr13_4
      have c4_1 := cell_of_row _ _ 1 _ _ _ hr13_4
      have c4_2 := cell_of_row _ _ 2 _ _ _ hr13_4
      have c4_3 := cell_of_row _ _ 3 _ _ _ hr13_4
      have c4_4 := cell_of_row _ _ 4 _ _ _ hr13_4
      have c4_5 := cell_of_row _ _ 5 _ _ _ hr13_4
      have c4_6 := cell_of_row _ _ 6 _ _ _ hr13_4
      have c4_7 := cell_of_row _ _ 7 _ _ _ hr13_4
      simp at c4_0 c4_1 c4_2 c4_3 c4_4 c4_5 c4_6 c4_7
      go_upto_region 13 with fail
      clear c4_0 c4_1 c4_2 c4_3 c4_4 c4_5 c4_6 c4_7
      have c4_0 := cell_of_row _ _ 0 _ _ _ hr13_4
      have c4_1 := cell_of_row _ _ 1 _ _ _ hr13_4
      have c4_2 := cell_of_row _ _ 2 _ _ _ hr13_4
      have c4_3 := cell_of_row _ _ 3 _ _ _ hr13_4
      have c4_4 := cell_of_row _ _ 4 _ _ _ hr13_4
      have c4_5 := cell_of_row _ _ 5 _ _ _ hr13_4
      have c4_6 := cell_of_row _ _ 6 _ _ _ hr13_4
      have c4_7 := cell_of_row _ _ 7 _ _ _ hr13_4
      simp at c4_0 c4_1 c4_2 c4_3 c4_4 c4_5 c4_6 c4_7
      have hHr := Lib.hid hr13_3
      have hHi := Lib.hid (show (Try.prog.info? 63).map (·.size) = some (#[.int .i64 x1, .int .i64 x2, .int .i64 x3, .int .i64 c1, .int .i64 c2, .int .i64 c3, .bool true, .bool true] : Array Value).size by kernel_rfl)
      have hHz := Lib.hid (show (#[.int .i64 0, .int .i64 0, .int .i64 0, .int .i64 0, .int .i64 0, .int .i64 0, .bool false, .bool false] : Array Value).size = (#[.int .i64 x1, .int .i64 x2, .int .i64 x3, .int .i64 c1, .int .i64 c2, .int .i64 c3, .bool true, .bool true] : Array Value).size from rfl)
      have hHo := Lib.hid (show (#[.int .i64 x1, .int .i64 x2, .int .i64 x3, .int .i64 c1, .int .i64 c2, .int .i64 c3, .bool true, .bool true] : Array Value).all (·.oneCell') = true by simp [Value.oneCell'])
      go_wp2_with (first | (refine Au.wpList_store_row rfl 63 (.tmp 10) (.tmp 57) rfl y13 #[.int .i64 0, .int .i64 0, .int .i64 0, .int .i64 0, .int .i64 0, .int .i64 0, .bool false, .bool false] #[.int .i64 x1, .int .i64 x2, .int .i64 x3, .int .i64 c1, .int .i64 c2, .int .i64 c3, .bool true, .bool true] (w.heap.size + 1 + 1 + 1) 63 hHr.out rfl rfl hHi.out hHz.out hHo.out ?_))
      clear c4_0 c4_1 c4_2 c4_3 c4_4 c4_5 c4_6 c4_7
      clear hHr hHi hHz hHo
      have hN := setRow_heap _ (w.heap.size + 1 + 1 + 1) _ #[.int .i64 x1, .int .i64 x2, .int .i64 x3, .int .i64 c1, .int .i64 c2, .int .i64 c3, .bool true, .bool true] _ _ hr13_3
      have hsz := HU13.out.size
      have HUx := below_setRow (g := w.heap.size + 1 + 1 + 1) HU13.out (by first | omega | (simp at *; omega)) #[.int .i64 x1, .int .i64 x2, .int .i64 x3, .int .i64 c1, .int .i64 c2, .int .i64 c3, .bool true, .bool true]
      have hO : ∀ kk, kk ≠ w.heap.size + 1 + 1 + 1 → (y13.setRow (w.heap.size + 1 + 1 + 1) #[.int .i64 x1, .int .i64 x2, .int .i64 x3, .int .i64 c1, .int .i64 c2, .int .i64 c3, .bool true, .bool true]).heap[kk]? = y13.heap[kk]? := fun kk hk => setRow_other _ _ _ _ hk
      obtain ⟨y14, hy14⟩ : ∃ y, y13.setRow (w.heap.size + 1 + 1 + 1) #[.int .i64 x1, .int .i64 x2, .int .i64 x3, .int .i64 c1, .int .i64 c2, .int .i64 c3, .bool true, .bool true] = y := ⟨_, rfl⟩
      rw [hy14] at hN HUx hO ⊢
      clear hy14 hsz
      have HU14 := Lib.hid HUx
      clear HUx
      have hr14_0 := (hO _ (by omega)).trans hr13_0
      have hr14_1 := (hO _ (by omega)).trans hr13_1
      have hr14_2 := (hO _ (by omega)).trans hr13_2
      have hr14_3 := hN
      have hr14_4 := (hO _ (by omega)).trans hr13_4
      have hr14_5 := (hO _ (by omega)).trans hr13_5
      clear hN hO
      clear hr13_0 hr13_1 hr13_2 hr13_3 hr13_4 hr13_5 HU13
      have c3_0 := cell_of_row _ _ 0 _ _ _ hr14_3
      have c3_1 := cell_of_row _ _ 1 _ _ _ hr14_3
      have c3_2 := cell_of_row _ _ 2 _ _ _ hr14_3
      have c3_3 := cell_of_row _ _ 3 _ _ _ hr14_3
      have c3_4 := cell_of_row _ _ 4 _ _ _ hr14_3
      have c3_5 := cell_of_row _ _ 5 _ _ _ hr14_3
      have c3_6 := cell_of_row _ _ 6 _ _ _ hr14_3
      have c3_7 := cell_of_row _ _ 7 _ _ _ hr14_3
      simp at c3_0 c3_1 c3_2 c3_3 c3_4 c3_5 c3_6 c3_7
      go_wp2
      exact bodyPost_ret (v := .agg #[.int .i64 x1, .int .i64 x2, .int .i64 x3, .int .i64 c1, .int .i64 c2, .int .i64 c3, .bool true, .bool true]) (by simp [results, Try.results16, go_sem, c3_0, c3_1, c3_2, c3_3, c3_4, c3_5, c3_6, c3_7]) rfl ⟨rfl, HU14.out⟩
  · skip
    go_simp
    have hb3 := below_n1 y2 (.cells #[.int .i64 0, .int .i64 0, .int .i64 0] 39)
    have hN := heap_alloc_last y2 (.cells #[.int .i64 0, .int .i64 0, .int .i64 0] 39)
    obtain ⟨y3, hy3⟩ : ∃ y, y2.alloc (.cells #[.int .i64 0, .int .i64 0, .int .i64 0] 39) = y := ⟨_, rfl⟩
    rw [hy3] at hb3 hN ⊢
    clear hy3
    have hl3_0 := lt_heap hr2_0
    have hr3_0 := (hb3.block _ (lt_heap hr2_0)).trans hr2_0
    have hl3_1 := lt_heap hr2_1
    have hr3_1 := (hb3.block _ (lt_heap hr2_1)).trans hr2_1
    have hl3_2 := lt_heap hr2_2
    have hr3_2 := (hb3.block _ (lt_heap hr2_2)).trans hr2_2
    have hl3_3 := lt_heap hr2_3
    have hr3_3 := (hb3.block _ (lt_heap hr2_3)).trans hr2_3
    have hl3_4 := lt_heap hr2_4
    have hr3_4 := (hb3.block _ (lt_heap hr2_4)).trans hr2_4
    have hr3_5 := hN
    clear hN
    have HU3 := Lib.hid (HU2.out.trans (hb3.mono HU2.out.size))
    refine hK.out _ _ (⟨(hb3.block _ (lt_heap hS0.1)).trans hS0.1, (hb3.block _ (lt_heap hS0.2.1)).trans hS0.2.1, (hb3.block _ (lt_heap hS0.2.2.1)).trans hS0.2.2.1, (hb3.block _ (lt_heap hS0.2.2.2.1)).trans hS0.2.2.2.1, (hb3.block _ (lt_heap hS0.2.2.2.2)).trans hS0.2.2.2.2⟩) (fun hS3a => ?_)
    clear hK K
    refine wpAnyH_ready (rs := [3]) (by kernel_rfl) (by simp) ?_
    refine AllReadyH.cons rfl (fun K hK => ?_) AllReadyH.nil
    go_simp
    go_wp2_with (go_at_call 31; refine (hD _).mono ?_; rintro e y4 ⟨rfl, hb4⟩)
    have hr4_0 := (hb4.block _ (lt_heap hr3_0)).trans hr3_0
    have hr4_1 := (hb4.block _ (lt_heap hr3_1)).trans hr3_1
    have hr4_2 := (hb4.block _ (lt_heap hr3_2)).trans hr3_2
    have hr4_3 := (hb4.block _ (lt_heap hr3_3)).trans hr3_3
    have hr4_4 := (hb4.block _ (lt_heap hr3_4)).trans hr3_4
    have hr4_5 := (hb4.block _ (lt_heap hr3_5)).trans hr3_5
    have HU4 := Lib.hid (HU3.out.trans (hb4.mono HU3.out.size))
    refine hK.out _ _ (⟨(hb4.block _ (lt_heap hS3a.1)).trans hS3a.1, (hb4.block _ (lt_heap hS3a.2.1)).trans hS3a.2.1, (hb4.block _ (lt_heap hS3a.2.2.1)).trans hS3a.2.2.1, (hb4.block _ (lt_heap hS3a.2.2.2.1)).trans hS3a.2.2.2.1, (hb4.block _ (lt_heap hS3a.2.2.2.2)).trans hS3a.2.2.2.2⟩) (fun hS4c => ?_)
    clear hK K
    refine wpAnyH_ready (rs := [6]) (by kernel_rfl) (by simp) ?_
    refine AllReadyH.cons rfl (fun K hK => ?_) AllReadyH.nil
    go_simp
    go_wp2_with (go_at_call 34; refine (hC _).mono ?_; rintro e y5 ⟨rfl, hb5⟩)
    have hr5_0 := (hb5.block _ (lt_heap hr4_0)).trans hr4_0
    have hr5_1 := (hb5.block _ (lt_heap hr4_1)).trans hr4_1
    have hr5_2 := (hb5.block _ (lt_heap hr4_2)).trans hr4_2
    have hr5_3 := (hb5.block _ (lt_heap hr4_3)).trans hr4_3
    have hr5_4 := (hb5.block _ (lt_heap hr4_4)).trans hr4_4
    have hr5_5 := (hb5.block _ (lt_heap hr4_5)).trans hr4_5
    have HU5 := Lib.hid (HU4.out.trans (hb5.mono HU4.out.size))
    refine hK.out _ _ (⟨(hb5.block _ (lt_heap hS4c.1)).trans hS4c.1, (hb5.block _ (lt_heap hS4c.2.1)).trans hS4c.2.1, (hb5.block _ (lt_heap hS4c.2.2.1)).trans hS4c.2.2.1, (hb5.block _ (lt_heap hS4c.2.2.2.1)).trans hS4c.2.2.2.1, (hb5.block _ (lt_heap hS4c.2.2.2.2)).trans hS4c.2.2.2.2⟩) (fun hS5c => ?_)
    clear hK K
    refine wpAnyH_ready (rs := [8]) (by kernel_rfl) (by simp) ?_
    refine AllReadyH.cons rfl (fun K hK => ?_) AllReadyH.nil
    refine step_store_row rfl 39 (.tmp 12) (.tmp 42) rfl #[.int .i64 0, .int .i64 0, .int .i64 0] #[.int .i64 p1, .int .i64 p2, .int .i64 p3] _ 39 hr5_5 rfl (by first | rfl | (go_simp; done) | (go_simp; rfl)) (by kernel_rfl) rfl (by simp [Value.oneCell']) ?_
    have hN := setRow_heap _ (y2.heap.size) _ #[.int .i64 p1, .int .i64 p2, .int .i64 p3] _ _ hr5_5
    have hsz := HU5.out.size
    have HUx := below_setRow (g := y2.heap.size) HU5.out (by first | omega | (simp at *; omega)) #[.int .i64 p1, .int .i64 p2, .int .i64 p3]
    obtain ⟨y6, hy6⟩ : ∃ y, y5.setRow (y2.heap.size) #[.int .i64 p1, .int .i64 p2, .int .i64 p3] = y := ⟨_, rfl⟩
    have hO : ∀ k, k ≠ y2.heap.size → y6.heap[k]? = y5.heap[k]? := fun k hk => by rw [← hy6]; exact setRow_other _ _ _ _ hk
    rw [hy6] at hN HUx ⊢
    clear hy6
    have HU6 := Lib.hid HUx
    clear HUx
    have hr6_0 := (hO _ (by omega)).trans hr5_0
    have hr6_1 := (hO _ (by omega)).trans hr5_1
    have hr6_2 := (hO _ (by omega)).trans hr5_2
    have hr6_3 := (hO _ (by omega)).trans hr5_3
    have hr6_4 := (hO _ (by omega)).trans hr5_4
    have hr6_5 := hN
    clear hN
    refine hK.out _ _ (⟨(hO _ (by omega)).trans hS5c.1, (hO _ (by omega)).trans hS5c.2.1, (hO _ (by omega)).trans hS5c.2.2.1, (hO _ (by omega)).trans hS5c.2.2.2.1, (hO _ (by omega)).trans hS5c.2.2.2.2⟩) (fun hS6s => ?_)
    clear hK K
    refine wpAnyH_done (by kernel_rfl) ?_ _
    go_upto_region 10 with fail
    refine wp_region_held_drew (S := fun y => y.heap[w.heap.size + 1]? = some (.cells #[.int .i64 d1_, .int .i64 d2_, .int .i64 d3_] 39 (0, 0)) ∧ y.heap[w.heap.size + 1 + 1]? = some (.cells #[.int .i64 n1, .int .i64 n2, .int .i64 n3] 39 (0, 0)) ∧ y.heap[y2.heap.size]? = some (.cells #[.int .i64 p1, .int .i64 p2, .int .i64 p3] 39 (0, 0))) (by kernel_rfl) (⟨hr6_1, hr6_2, hr6_5⟩) (fun hS0 => ?_)
    obtain ⟨y7, hy7⟩ : ∃ y, y6.drew = y := ⟨_, rfl⟩
    have HU7 := Lib.hid (show Below w.heap.size w y7 by rw [← hy7]; exact HU6.out.drew)
    have hr7_0 : y7.heap[w.heap.size]? = some (.cells #[.int .i64 2, .int .i64 c1, .int .i64 c2, .int .i64 c3, .int .i64 ro] 66 (0, 0)) := by rw [← hy7]; exact hr6_0
    have hr7_1 : y7.heap[w.heap.size + 1]? = some (.cells #[.int .i64 d1_, .int .i64 d2_, .int .i64 d3_] 39 (0, 0)) := by rw [← hy7]; exact hr6_1
    have hr7_2 : y7.heap[w.heap.size + 1 + 1]? = some (.cells #[.int .i64 n1, .int .i64 n2, .int .i64 n3] 39 (0, 0)) := by rw [← hy7]; exact hr6_2
    have hr7_3 : y7.heap[w.heap.size + 1 + 1 + 1]? = some (.cells #[.int .i64 0, .int .i64 0, .int .i64 0, .int .i64 0, .int .i64 0, .int .i64 0, .bool false, .bool false] 63 (0, 0)) := by rw [← hy7]; exact hr6_3
    have hr7_4 : y7.heap[y0.heap.size]? = some (.cells #[.int .i64 0, .int .i64 0, .int .i64 0, .int .i64 c1, .int .i64 c2, .int .i64 c3, .bool true, .bool false] 63 (0, 0)) := by rw [← hy7]; exact hr6_4
    have hr7_5 : y7.heap[y2.heap.size]? = some (.cells #[.int .i64 p1, .int .i64 p2, .int .i64 p3] 39 (0, 0)) := by rw [← hy7]; exact hr6_5
    rw [hy7] at hS0 ⊢
    clear hy7
    refine wpAnyH_take (i := 0) (v := ?_) rfl (by kernel_rfl) (by kernel_rfl) (by kernel_rfl) (fun _ _ _ h => h) (Or.inl ⟨by kernel_rfl, by (intro wz hSz; have c1_0 := cell_of_row _ _ 0 _ _ _ hSz.1; have c1_1 := cell_of_row _ _ 1 _ _ _ hSz.1; have c1_2 := cell_of_row _ _ 2 _ _ _ hSz.1; have c2_0 := cell_of_row _ _ 0 _ _ _ hSz.2.1; have c2_1 := cell_of_row _ _ 1 _ _ _ hSz.2.1; have c2_2 := cell_of_row _ _ 2 _ _ _ hSz.2.1; have c5_0 := cell_of_row _ _ 0 _ _ _ hSz.2.2; have c5_1 := cell_of_row _ _ 1 _ _ _ hSz.2.2; have c5_2 := cell_of_row _ _ 2 _ _ _ hSz.2.2; simp at c1_0 c1_1 c1_2 c2_0 c2_1 c2_2 c5_0 c5_1 c5_2; go_simp; try with_reducible rfl)⟩) hS0 ?_
    go_simp
    refine wpAnyH_take (i := 1) (v := ?_) rfl (by kernel_rfl) (by kernel_rfl) (by kernel_rfl) (fun _ _ _ h => h) (Or.inl ⟨by kernel_rfl, by (intro wz hSz; have c1_0 := cell_of_row _ _ 0 _ _ _ hSz.1; have c1_1 := cell_of_row _ _ 1 _ _ _ hSz.1; have c1_2 := cell_of_row _ _ 2 _ _ _ hSz.1; have c2_0 := cell_of_row _ _ 0 _ _ _ hSz.2.1; have c2_1 := cell_of_row _ _ 1 _ _ _ hSz.2.1; have c2_2 := cell_of_row _ _ 2 _ _ _ hSz.2.1; have c5_0 := cell_of_row _ _ 0 _ _ _ hSz.2.2; have c5_1 := cell_of_row _ _ 1 _ _ _ hSz.2.2; have c5_2 := cell_of_row _ _ 2 _ _ _ hSz.2.2; simp at c1_0 c1_1 c1_2 c2_0 c2_1 c2_2 c5_0 c5_1 c5_2; go_simp; try with_reducible rfl)⟩) hS0 ?_
    go_simp
    refine wpAnyH_take (i := 3) (v := ?_) rfl (by kernel_rfl) (by kernel_rfl) (by kernel_rfl) (fun _ _ _ h => h) (Or.inl ⟨by kernel_rfl, by (intro wz hSz; have c1_0 := cell_of_row _ _ 0 _ _ _ hSz.1; have c1_1 := cell_of_row _ _ 1 _ _ _ hSz.1; have c1_2 := cell_of_row _ _ 2 _ _ _ hSz.1; have c2_0 := cell_of_row _ _ 0 _ _ _ hSz.2.1; have c2_1 := cell_of_row _ _ 1 _ _ _ hSz.2.1; have c2_2 := cell_of_row _ _ 2 _ _ _ hSz.2.1; have c5_0 := cell_of_row _ _ 0 _ _ _ hSz.2.2; have c5_1 := cell_of_row _ _ 1 _ _ _ hSz.2.2; have c5_2 := cell_of_row _ _ 2 _ _ _ hSz.2.2; simp at c1_0 c1_1 c1_2 c2_0 c2_1 c2_2 c5_0 c5_1 c5_2; go_simp; try with_reducible rfl)⟩) hS0 ?_
    go_simp
    refine wpAnyH_ready (rs := [2]) (by kernel_rfl) (by simp) ?_
    refine AllReadyH.cons rfl (fun K hK => ?_) AllReadyH.nil
    go_simp
    go_wp2_with (go_at_call 33; refine (hM _).mono ?_; rintro e y8 ⟨rfl, hb8⟩)
    have hr8_0 := (hb8.block _ (lt_heap hr7_0)).trans hr7_0
    have hr8_1 := (hb8.block _ (lt_heap hr7_1)).trans hr7_1
    have hr8_2 := (hb8.block _ (lt_heap hr7_2)).trans hr7_2
    have hr8_3 := (hb8.block _ (lt_heap hr7_3)).trans hr7_3
    have hr8_4 := (hb8.block _ (lt_heap hr7_4)).trans hr7_4
    have hr8_5 := (hb8.block _ (lt_heap hr7_5)).trans hr7_5
    have HU8 := Lib.hid (HU7.out.trans (hb8.mono HU7.out.size))
    refine hK.out _ _ (⟨(hb8.block _ (lt_heap hS0.1)).trans hS0.1, (hb8.block _ (lt_heap hS0.2.1)).trans hS0.2.1, (hb8.block _ (lt_heap hS0.2.2)).trans hS0.2.2⟩) (fun hS8c => ?_)
    clear hK K
    refine wpAnyH_ready (rs := [4]) (by kernel_rfl) (by simp) ?_
    refine AllReadyH.cons rfl (fun K hK => ?_) AllReadyH.nil
    go_simp
    go_wp2_with (go_at_call 35; refine (hA _).mono ?_; rintro e y9 ⟨rfl, hb9⟩)
    have hr9_0 := (hb9.block _ (lt_heap hr8_0)).trans hr8_0
    have hr9_1 := (hb9.block _ (lt_heap hr8_1)).trans hr8_1
    have hr9_2 := (hb9.block _ (lt_heap hr8_2)).trans hr8_2
    have hr9_3 := (hb9.block _ (lt_heap hr8_3)).trans hr8_3
    have hr9_4 := (hb9.block _ (lt_heap hr8_4)).trans hr8_4
    have hr9_5 := (hb9.block _ (lt_heap hr8_5)).trans hr8_5
    have HU9 := Lib.hid (HU8.out.trans (hb9.mono HU8.out.size))
    refine hK.out _ _ (⟨(hb9.block _ (lt_heap hS8c.1)).trans hS8c.1, (hb9.block _ (lt_heap hS8c.2.1)).trans hS8c.2.1, (hb9.block _ (lt_heap hS8c.2.2)).trans hS8c.2.2⟩) (fun hS9c => ?_)
    clear hK K
    refine wpAnyH_ready (rs := [5]) (by kernel_rfl) (by simp) ?_
    refine AllReadyH.cons rfl (fun K hK => ?_) AllReadyH.nil
    go_simp
    go_wp2_with (go_at_call 32; refine (hV _).mono ?_; rintro e y10 ⟨rfl, hb10⟩)
    have hr10_0 := (hb10.block _ (lt_heap hr9_0)).trans hr9_0
    have hr10_1 := (hb10.block _ (lt_heap hr9_1)).trans hr9_1
    have hr10_2 := (hb10.block _ (lt_heap hr9_2)).trans hr9_2
    have hr10_3 := (hb10.block _ (lt_heap hr9_3)).trans hr9_3
    have hr10_4 := (hb10.block _ (lt_heap hr9_4)).trans hr9_4
    have hr10_5 := (hb10.block _ (lt_heap hr9_5)).trans hr9_5
    have HU10 := Lib.hid (HU9.out.trans (hb10.mono HU9.out.size))
    refine hK.out _ _ (⟨(hb10.block _ (lt_heap hS9c.1)).trans hS9c.1, (hb10.block _ (lt_heap hS9c.2.1)).trans hS9c.2.1, (hb10.block _ (lt_heap hS9c.2.2)).trans hS9c.2.2⟩) (fun hS10c => ?_)
    clear hK K
    refine wpAnyH_take (i := 6) (v := ?_) rfl (by kernel_rfl) (by kernel_rfl) (by kernel_rfl) (fun _ _ _ h => h) (Or.inl ⟨by kernel_rfl, by (intro wz hSz; go_simp; try with_reducible rfl)⟩) hS10c ?_
    go_simp
    refine wpAnyH_ready (rs := [7]) (by kernel_rfl) (by simp) ?_
    refine AllReadyH.cons rfl (fun K hK => ?_) AllReadyH.nil
    have p0 := cell_of_row _ _ 0 _ _ _ hr10_4
    have p1 := cell_of_row _ _ 1 _ _ _ hr10_4
    have p2 := cell_of_row _ _ 2 _ _ _ hr10_4
    have p3 := cell_of_row _ _ 3 _ _ _ hr10_4
    have p4 := cell_of_row _ _ 4 _ _ _ hr10_4
    have p5 := cell_of_row _ _ 5 _ _ _ hr10_4
    have p6 := cell_of_row _ _ 6 _ _ _ hr10_4
    have p7 := cell_of_row _ _ 7 _ _ _ hr10_4
    simp at p0 p1 p2 p3 p4 p5 p6 p7
    have fz : ∀ j, y10.frozen? ⟨y0.heap.size, j, none⟩ = false := fun j => by simp [World.frozen?, hr10_4]
    go_simp
    clear fz p0 p1 p2 p3 p4 p5 p6 p7
    have hN : (((y10.setCell ⟨y0.heap.size, 0, none⟩ (.int .i64 x1)).setCell ⟨y0.heap.size, 1, none⟩ (.int .i64 x2)).setCell ⟨y0.heap.size, 2, none⟩ (.int .i64 x3)).heap[y0.heap.size]? = some (.cells #[.int .i64 x1, .int .i64 x2, .int .i64 x3, .int .i64 c1, .int .i64 c2, .int .i64 c3, .bool true, .bool false] 63 (0, 0)) := part3 hr10_4 _ _ _ rfl
    have hsz := HU10.out.size
    have HUx := below_put3 (k := y0.heap.size) HU10.out (by first | omega | (simp at *; omega)) (.int .i64 x1) (.int .i64 x2) (.int .i64 x3)
    have hO : ∀ kk, kk ≠ y0.heap.size → (((y10.setCell ⟨y0.heap.size, 0, none⟩ (.int .i64 x1)).setCell ⟨y0.heap.size, 1, none⟩ (.int .i64 x2)).setCell ⟨y0.heap.size, 2, none⟩ (.int .i64 x3)).heap[kk]? = y10.heap[kk]? := fun kk hk => put3_other _ _ _ _ _ hk
    obtain ⟨y11, hy11⟩ : ∃ y, ((y10.setCell ⟨y0.heap.size, 0, none⟩ (.int .i64 x1)).setCell ⟨y0.heap.size, 1, none⟩ (.int .i64 x2)).setCell ⟨y0.heap.size, 2, none⟩ (.int .i64 x3) = y := ⟨_, rfl⟩
    rw [hy11] at hN HUx hO ⊢
    clear hy11
    have HU11 := Lib.hid HUx
    clear HUx
    have hr11_0 := (hO _ (by omega)).trans hr10_0
    have hr11_1 := (hO _ (by omega)).trans hr10_1
    have hr11_2 := (hO _ (by omega)).trans hr10_2
    have hr11_3 := (hO _ (by omega)).trans hr10_3
    have hr11_4 := hN
    have hr11_5 := (hO _ (by omega)).trans hr10_5
    clear hN
    refine hK.out _ _ (⟨(hO _ (by omega)).trans hS10c.1, (hO _ (by omega)).trans hS10c.2.1, (hO _ (by omega)).trans hS10c.2.2⟩) (fun hS11p => ?_)
    clear hK K
    refine wpAnyH_take (i := 8) (v := ?_) rfl (by kernel_rfl) (by kernel_rfl) (by kernel_rfl) (fun _ _ _ h => h) (Or.inl ⟨by kernel_rfl, by (intro wz hSz; go_simp; try with_reducible rfl)⟩) hS11p ?_
    go_simp
    refine wpAnyH_ready (rs := [9]) (by kernel_rfl) (by simp) ?_
    refine AllReadyH.cons rfl (fun K hK => ?_) AllReadyH.nil
    have p0 := cell_of_row _ _ 7 _ _ _ hr11_4
    simp at p0
    have fz : ∀ j, y11.frozen? ⟨y0.heap.size, j, none⟩ = false := fun j => by simp [World.frozen?, hr11_4]
    go_simp
    clear fz p0
    have hN : (y11.setCell ⟨y0.heap.size, 7, none⟩ (.bool true)).heap[y0.heap.size]? = some (.cells #[.int .i64 x1, .int .i64 x2, .int .i64 x3, .int .i64 c1, .int .i64 c2, .int .i64 c3, .bool true, .bool true] 63 (0, 0)) := heap_setCell_same _ _ 7 _ _ _ hr11_4
    have hsz := HU11.out.size
    have HUx : Below w.heap.size w (y11.setCell ⟨y0.heap.size, 7, none⟩ (.bool true)) := HU11.out.setCell (by show w.heap.size ≤ y0.heap.size; omega) _
    have hO : ∀ kk, kk ≠ y0.heap.size → (y11.setCell ⟨y0.heap.size, 7, none⟩ (.bool true)).heap[kk]? = y11.heap[kk]? := fun kk hk => Below.heap_setCell _ _ _ _ hk
    obtain ⟨y12, hy12⟩ : ∃ y, y11.setCell ⟨y0.heap.size, 7, none⟩ (.bool true) = y := ⟨_, rfl⟩
    rw [hy12] at hN HUx hO ⊢
    clear hy12
    have HU12 := Lib.hid HUx
    clear HUx
    have hr12_0 := (hO _ (by omega)).trans hr11_0
    have hr12_1 := (hO _ (by omega)).trans hr11_1
    have hr12_2 := (hO _ (by omega)).trans hr11_2
    have hr12_3 := (hO _ (by omega)).trans hr11_3
    have hr12_4 := hN
    have hr12_5 := (hO _ (by omega)).trans hr11_5
    clear hN
    refine hK.out _ _ (⟨(hO _ (by omega)).trans hS11p.1, (hO _ (by omega)).trans hS11p.2.1, (hO _ (by omega)).trans hS11p.2.2⟩) (fun hS12k => ?_)
    clear hK K
    refine wpAnyH_done (by kernel_rfl) ?_ _
    go_upto_region 11 with fail
    have c2_0 := cell_of_row _ _ 0 _ _ _ hr12_2
    have c2_1 := cell_of_row _ _ 1 _ _ _ hr12_2
    have c2_2 := cell_of_row _ _ 2 _ _ _ hr12_2
    have c4_0 := cell_of_row _ _ 0 _ _ _ hr12_4
    have c4_1 := cell_of_row _ _ 1 _ _ _ hr12_4
    have c4_2 := cell_of_row _ _ 2 _ _ _ hr12_4
    have c4_3 := cell_of_row _ _ 3 _ _ _ hr12_4
    have c4_4 := cell_of_row _ _ 4 _ _ _ hr12_4
    have c4_5 := cell_of_row _ _ 5 _ _ _ hr12_4
    have c4_6 := cell_of_row _ _ 6 _ _ _ hr12_4
    have c4_7 := cell_of_row _ _ 7 _ _ _ hr12_4
    simp at c2_0 c2_1 c2_2 c4_0 c4_1 c4_2 c4_3 c4_4 c4_5 c4_6 c4_7
    go_wp2_with fail
    refine (hT _).mono ?_
    rintro e y13 ⟨rfl, hb13⟩
    clear c2_0 c2_1 c2_2 c4_0 c4_1 c4_2 c4_3 c4_4 c4_5 c4_6 c4_7
    have hr13_0 := (hb13.block _ (lt_heap hr12_0)).trans hr12_0
    have hr13_1 := (hb13.block _ (lt_heap hr12_1)).trans hr12_1
    have hr13_2 := (hb13.block _ (lt_heap hr12_2)).trans hr12_2
    have hr13_3 := (hb13.block _ (lt_heap hr12_3)).trans hr12_3
    have hr13_4 := (hb13.block _ (lt_heap hr12_4)).trans hr12_4
    have hr13_5 := (hb13.block _ (lt_heap hr12_5)).trans hr12_5
    have HU13 := Lib.hid (HU12.out.trans (hb13.mono HU12.out.size))
    clear hr12_0 hr12_1 hr12_2 hr12_3 hr12_4 hr12_5 HU12
    have c4_0 := cell_of_row _ _ 0 _ _ _ hr13_4
    have c4_1 := cell_of_row _ _ 1 _ _ _ hr13_4
    have c4_2 := cell_of_row _ _ 2 _ _ _ hr13_4
    have c4_3 := cell_of_row _ _ 3 _ _ _ hr13_4
    have c4_4 := cell_of_row _ _ 4 _ _ _ hr13_4
    have c4_5 := cell_of_row _ _ 5 _ _ _ hr13_4
    have c4_6 := cell_of_row _ _ 6 _ _ _ hr13_4
    have c4_7 := cell_of_row _ _ 7 _ _ _ hr13_4
    simp at c4_0 c4_1 c4_2 c4_3 c4_4 c4_5 c4_6 c4_7
    go_upto_region 13 with fail
    clear c4_0 c4_1 c4_2 c4_3 c4_4 c4_5 c4_6 c4_7
    have c4_0 := cell_of_row _ _ 0 _ _ _ hr13_4
    have c4_1 := cell_of_row _ _ 1 _ _ _ hr13_4
    have c4_2 := cell_of_row _ _ 2 _ _ _ hr13_4
    have c4_3 := cell_of_row _ _ 3 _ _ _ hr13_4
    have c4_4 := cell_of_row _ _ 4 _ _ _ hr13_4
    have c4_5 := cell_of_row _ _ 5 _ _ _ hr13_4
    have c4_6 := cell_of_row _ _ 6 _ _ _ hr13_4
    have c4_7 := cell_of_row _ _ 7 _ _ _ hr13_4
    simp at c4_0 c4_1 c4_2 c4_3 c4_4 c4_5 c4_6 c4_7
    have hHr := Lib.hid hr13_3
    have hHi := Lib.hid (show (Try.prog.info? 63).map (·.size) = some (#[.int .i64 x1, .int .i64 x2, .int .i64 x3, .int .i64 c1, .int .i64 c2, .int .i64 c3, .bool true, .bool true] : Array Value).size by kernel_rfl)
    have hHz := Lib.hid (show (#[.int .i64 0, .int .i64 0, .int .i64 0, .int .i64 0, .int .i64 0, .int .i64 0, .bool false, .bool false] : Array Value).size = (#[.int .i64 x1, .int .i64 x2, .int .i64 x3, .int .i64 c1, .int .i64 c2, .int .i64 c3, .bool true, .bool true] : Array Value).size from rfl)
    have hHo := Lib.hid (show (#[.int .i64 x1, .int .i64 x2, .int .i64 x3, .int .i64 c1, .int .i64 c2, .int .i64 c3, .bool true, .bool true] : Array Value).all (·.oneCell') = true by simp [Value.oneCell'])
    go_wp2_with (first | (refine Au.wpList_store_row rfl 63 (.tmp 10) (.tmp 57) rfl y13 #[.int .i64 0, .int .i64 0, .int .i64 0, .int .i64 0, .int .i64 0, .int .i64 0, .bool false, .bool false] #[.int .i64 x1, .int .i64 x2, .int .i64 x3, .int .i64 c1, .int .i64 c2, .int .i64 c3, .bool true, .bool true] (w.heap.size + 1 + 1 + 1) 63 hHr.out rfl rfl hHi.out hHz.out hHo.out ?_))
    clear c4_0 c4_1 c4_2 c4_3 c4_4 c4_5 c4_6 c4_7
    clear hHr hHi hHz hHo
    have hN := setRow_heap _ (w.heap.size + 1 + 1 + 1) _ #[.int .i64 x1, .int .i64 x2, .int .i64 x3, .int .i64 c1, .int .i64 c2, .int .i64 c3, .bool true, .bool true] _ _ hr13_3
    have hsz := HU13.out.size
    have HUx := below_setRow (g := w.heap.size + 1 + 1 + 1) HU13.out (by first | omega | (simp at *; omega)) #[.int .i64 x1, .int .i64 x2, .int .i64 x3, .int .i64 c1, .int .i64 c2, .int .i64 c3, .bool true, .bool true]
    have hO : ∀ kk, kk ≠ w.heap.size + 1 + 1 + 1 → (y13.setRow (w.heap.size + 1 + 1 + 1) #[.int .i64 x1, .int .i64 x2, .int .i64 x3, .int .i64 c1, .int .i64 c2, .int .i64 c3, .bool true, .bool true]).heap[kk]? = y13.heap[kk]? := fun kk hk => setRow_other _ _ _ _ hk
    obtain ⟨y14, hy14⟩ : ∃ y, y13.setRow (w.heap.size + 1 + 1 + 1) #[.int .i64 x1, .int .i64 x2, .int .i64 x3, .int .i64 c1, .int .i64 c2, .int .i64 c3, .bool true, .bool true] = y := ⟨_, rfl⟩
    rw [hy14] at hN HUx hO ⊢
    clear hy14 hsz
    have HU14 := Lib.hid HUx
    clear HUx
    have hr14_0 := (hO _ (by omega)).trans hr13_0
    have hr14_1 := (hO _ (by omega)).trans hr13_1
    have hr14_2 := (hO _ (by omega)).trans hr13_2
    have hr14_3 := hN
    have hr14_4 := (hO _ (by omega)).trans hr13_4
    have hr14_5 := (hO _ (by omega)).trans hr13_5
    clear hN hO
    clear hr13_0 hr13_1 hr13_2 hr13_3 hr13_4 hr13_5 HU13
    have c3_0 := cell_of_row _ _ 0 _ _ _ hr14_3
    have c3_1 := cell_of_row _ _ 1 _ _ _ hr14_3
    have c3_2 := cell_of_row _ _ 2 _ _ _ hr14_3
    have c3_3 := cell_of_row _ _ 3 _ _ _ hr14_3
    have c3_4 := cell_of_row _ _ 4 _ _ _ hr14_3
    have c3_5 := cell_of_row _ _ 5 _ _ _ hr14_3
    have c3_6 := cell_of_row _ _ 6 _ _ _ hr14_3
    have c3_7 := cell_of_row _ _ 7 _ _ _ hr14_3
    simp at c3_0 c3_1 c3_2 c3_3 c3_4 c3_5 c3_6 c3_7
    go_wp2
    exact bodyPost_ret (v := .agg #[.int .i64 x1, .int .i64 x2, .int .i64 x3, .int .i64 c1, .int .i64 c2, .int .i64 c3, .bool true, .bool true]) (by simp [results, Try.results16, go_sem, c3_0, c3_1, c3_2, c3_3, c3_4, c3_5, c3_6, c3_7]) rfl ⟨rfl, HU14.out⟩

set_option maxHeartbeats 4000000 in
set_option maxRecDepth 100000 in
theorem bounce2_neg (c1 c2 c3 ro d1_ d2_ d3_ n1 n2 n3 u v x1 x2 x3 m1 m2 m3 s1 s2 s3 e1 e2 e3 p1 p2 p3 z : Int)
    (hD : ∀ W : World, Calls Try.prog 31 #[.agg #[.int .i64 n1, .int .i64 n2, .int .i64 n3], .int .i64 u, .int .i64 v] W fun e' w' => e' = .returned (.agg #[.int .i64 e1, .int .i64 e2, .int .i64 e3]) ∧ Below W.heap.size W w')
    (hM : ∀ W : World, Calls Try.prog 33 #[.agg #[.int .i64 d1_, .int .i64 d2_, .int .i64 d3_], .agg #[.int .i64 n1, .int .i64 n2, .int .i64 n3]] W fun e' w' => e' = .returned (.agg #[.int .i64 m1, .int .i64 m2, .int .i64 m3]) ∧ Below W.heap.size W w')
    (hC : ∀ W : World, Calls Try.prog 34 #[.agg #[.int .i64 e1, .int .i64 e2, .int .i64 e3], .int .i64 ro] W fun e' w' => e' = .returned (.agg #[.int .i64 p1, .int .i64 p2, .int .i64 p3]) ∧ Below W.heap.size W w')
    (hA : ∀ W : World, Calls Try.prog 35 #[.agg #[.int .i64 m1, .int .i64 m2, .int .i64 m3], .agg #[.int .i64 p1, .int .i64 p2, .int .i64 p3]] W fun e' w' => e' = .returned (.agg #[.int .i64 s1, .int .i64 s2, .int .i64 s3]) ∧ Below W.heap.size W w')
    (hV : ∀ W : World, Calls Try.prog 32 #[.agg #[.int .i64 s1, .int .i64 s2, .int .i64 s3]] W fun e' w' => e' = .returned (.agg #[.int .i64 x1, .int .i64 x2, .int .i64 x3]) ∧ Below W.heap.size W w')
    (hT : ∀ W : World, Calls Try.prog 23 #[.agg #[.int .i64 x1, .int .i64 x2, .int .i64 x3], .agg #[.int .i64 n1, .int .i64 n2, .int .i64 n3]] W fun e' w' => e' = .returned (.int .i64 z) ∧ Below W.heap.size W w')
    (hz : z ≤ 0) (w : World)  : Calls Try.prog 16 #[.agg #[.int .i64 2, .int .i64 c1, .int .i64 c2, .int .i64 c3, .int .i64 ro], .agg #[.int .i64 d1_, .int .i64 d2_, .int .i64 d3_], .agg #[.int .i64 n1, .int .i64 n2, .int .i64 n3], .int .i64 u, .int .i64 v] w fun e' w' => e' = .returned (.agg #[.int .i64 0, .int .i64 0, .int .i64 0, .int .i64 0, .int .i64 0, .int .i64 0, .bool false, .bool false]) ∧ Below w.heap.size w w' := by
  have dz := decide_eq_true hz
  go_enter Try.func16, Try.ntmps16
  go_upto_region 1 with fail
  have hR := Au.rows4 w (.cells #[.int .i64 2, .int .i64 c1, .int .i64 c2, .int .i64 c3, .int .i64 ro] 66) (.cells #[.int .i64 d1_, .int .i64 d2_, .int .i64 d3_] 39) (.cells #[.int .i64 n1, .int .i64 n2, .int .i64 n3] 39) (.cells #[.int .i64 0, .int .i64 0, .int .i64 0, .int .i64 0, .int .i64 0, .int .i64 0, .bool false, .bool false] 63)
  have HUx := below_n4 w (.cells #[.int .i64 2, .int .i64 c1, .int .i64 c2, .int .i64 c3, .int .i64 ro] 66) (.cells #[.int .i64 d1_, .int .i64 d2_, .int .i64 d3_] 39) (.cells #[.int .i64 n1, .int .i64 n2, .int .i64 n3] 39) (.cells #[.int .i64 0, .int .i64 0, .int .i64 0, .int .i64 0, .int .i64 0, .int .i64 0, .bool false, .bool false] 63)
  obtain ⟨y0, hy0⟩ : ∃ y0, (((w.alloc (.cells #[.int .i64 2, .int .i64 c1, .int .i64 c2, .int .i64 c3, .int .i64 ro] 66)).alloc (.cells #[.int .i64 d1_, .int .i64 d2_, .int .i64 d3_] 39)).alloc (.cells #[.int .i64 n1, .int .i64 n2, .int .i64 n3] 39)).alloc (.cells #[.int .i64 0, .int .i64 0, .int .i64 0, .int .i64 0, .int .i64 0, .int .i64 0, .bool false, .bool false] 63) = y0 := ⟨_, rfl⟩
  rw [hy0] at hR HUx ⊢
  clear hy0
  have HU0 := Lib.hid HUx
  clear HUx
  obtain ⟨hr0_0, hr0_1, hr0_2, hr0_3⟩ := hR
  have c0_0 := cell_of_row _ _ 0 _ _ _ hr0_0
  have c0_1 := cell_of_row _ _ 1 _ _ _ hr0_0
  have c0_2 := cell_of_row _ _ 2 _ _ _ hr0_0
  have c0_3 := cell_of_row _ _ 3 _ _ _ hr0_0
  have c0_4 := cell_of_row _ _ 4 _ _ _ hr0_0
  simp at c0_0 c0_1 c0_2 c0_3 c0_4
  have HA := Lib.hid (heap_alloc_last y0 (.cells #[.int .i64 0, .int .i64 0, .int .i64 0, .int .i64 0, .int .i64 0, .int .i64 0, .bool false, .bool false] 63))
  have hHi := Lib.hid (show (Try.prog.info? 63).map (·.size) = some (#[.int .i64 0, .int .i64 0, .int .i64 0, .int .i64 c1, .int .i64 c2, .int .i64 c3, .bool true, .bool false] : Array Value).size by kernel_rfl)
  have hHz := Lib.hid (show (#[.int .i64 0, .int .i64 0, .int .i64 0, .int .i64 0, .int .i64 0, .int .i64 0, .bool false, .bool false] : Array Value).size = (#[.int .i64 0, .int .i64 0, .int .i64 0, .int .i64 c1, .int .i64 c2, .int .i64 c3, .bool true, .bool false] : Array Value).size from rfl)
  have hHo := Lib.hid (show (#[.int .i64 0, .int .i64 0, .int .i64 0, .int .i64 c1, .int .i64 c2, .int .i64 c3, .bool true, .bool false] : Array Value).all (·.oneCell') = true by simp [Value.oneCell'])
  go_upto_region 2 with (refine Au.wpList_store_row rfl 63 (.tmp 11) (.tmp 15) rfl (y0.alloc (.cells #[.int .i64 0, .int .i64 0, .int .i64 0, .int .i64 0, .int .i64 0, .int .i64 0, .bool false, .bool false] 63)) #[.int .i64 0, .int .i64 0, .int .i64 0, .int .i64 0, .int .i64 0, .int .i64 0, .bool false, .bool false] #[.int .i64 0, .int .i64 0, .int .i64 0, .int .i64 c1, .int .i64 c2, .int .i64 c3, .bool true, .bool false] (y0.heap.size) 63 HA.out rfl rfl hHi.out hHz.out hHo.out ?_)
  clear c0_0 c0_1 c0_2 c0_3 c0_4
  clear hHi hHz hHo
  have hN := setRow_heap _ (y0.heap.size) _ #[.int .i64 0, .int .i64 0, .int .i64 0, .int .i64 c1, .int .i64 c2, .int .i64 c3, .bool true, .bool false] _ _ HA.out
  clear HA
  have hsz := HU0.out.size
  have hb := below_n1 y0 (.cells #[.int .i64 0, .int .i64 0, .int .i64 0, .int .i64 0, .int .i64 0, .int .i64 0, .bool false, .bool false] 63)
  have HUx := below_setRow (g := y0.heap.size) (HU0.out.trans (hb.mono HU0.out.size)) (by omega) #[.int .i64 0, .int .i64 0, .int .i64 0, .int .i64 c1, .int .i64 c2, .int .i64 c3, .bool true, .bool false]
  have hO : ∀ kk, kk < y0.heap.size → ((y0.alloc (.cells #[.int .i64 0, .int .i64 0, .int .i64 0, .int .i64 0, .int .i64 0, .int .i64 0, .bool false, .bool false] 63)).setRow (y0.heap.size) #[.int .i64 0, .int .i64 0, .int .i64 0, .int .i64 c1, .int .i64 c2, .int .i64 c3, .bool true, .bool false]).heap[kk]? = y0.heap[kk]? := fun kk hk => (setRow_other _ _ _ _ (by omega)).trans (hb.block _ hk)
  obtain ⟨y1, hy1⟩ : ∃ y, (y0.alloc (.cells #[.int .i64 0, .int .i64 0, .int .i64 0, .int .i64 0, .int .i64 0, .int .i64 0, .bool false, .bool false] 63)).setRow (y0.heap.size) #[.int .i64 0, .int .i64 0, .int .i64 0, .int .i64 c1, .int .i64 c2, .int .i64 c3, .bool true, .bool false] = y := ⟨_, rfl⟩
  have hs1 : y1.heap.size = y0.heap.size + 1 := by rw [← hy1]; simp [World.setRow]
  rw [hy1] at hN HUx hO ⊢
  clear hy1 hsz hb
  have HU1 := Lib.hid HUx
  clear HUx
  have hl1_0 := lt_heap hr0_0
  have hr1_0 := (hO _ hl1_0).trans hr0_0
  have hl1_1 := lt_heap hr0_1
  have hr1_1 := (hO _ hl1_1).trans hr0_1
  have hl1_2 := lt_heap hr0_2
  have hr1_2 := (hO _ hl1_2).trans hr0_2
  have hl1_3 := lt_heap hr0_3
  have hr1_3 := (hO _ hl1_3).trans hr0_3
  have hr1_4 := hN
  clear hN hO
  clear hr0_0 hr0_1 hr0_2 hr0_3 HU0
  have c0_0 := cell_of_row _ _ 0 _ _ _ hr1_0
  have c0_1 := cell_of_row _ _ 1 _ _ _ hr1_0
  have c0_2 := cell_of_row _ _ 2 _ _ _ hr1_0
  have c0_3 := cell_of_row _ _ 3 _ _ _ hr1_0
  have c0_4 := cell_of_row _ _ 4 _ _ _ hr1_0
  simp at c0_0 c0_1 c0_2 c0_3 c0_4
  go_upto_region 9 with fail
  clear c0_0 c0_1 c0_2 c0_3 c0_4
  refine wp_region_held_drew (S := fun y => y.heap[w.heap.size]? = some (.cells #[.int .i64 2, .int .i64 c1, .int .i64 c2, .int .i64 c3, .int .i64 ro] 66 (0, 0)) ∧ y.heap[w.heap.size + 1]? = some (.cells #[.int .i64 d1_, .int .i64 d2_, .int .i64 d3_] 39 (0, 0)) ∧ y.heap[w.heap.size + 1 + 1]? = some (.cells #[.int .i64 n1, .int .i64 n2, .int .i64 n3] 39 (0, 0)) ∧ y.heap[w.heap.size + 1 + 1 + 1]? = some (.cells #[.int .i64 0, .int .i64 0, .int .i64 0, .int .i64 0, .int .i64 0, .int .i64 0, .bool false, .bool false] 63 (0, 0)) ∧ y.heap[y0.heap.size]? = some (.cells #[.int .i64 0, .int .i64 0, .int .i64 0, .int .i64 c1, .int .i64 c2, .int .i64 c3, .bool true, .bool false] 63 (0, 0))) (by kernel_rfl) (⟨hr1_0, hr1_1, hr1_2, hr1_3, hr1_4⟩) (fun hS0 => ?_)
  obtain ⟨y2, hy2⟩ : ∃ y, y1.drew = y := ⟨_, rfl⟩
  have HU2 := Lib.hid (show Below w.heap.size w y2 by rw [← hy2]; exact HU1.out.drew)
  have hr2_0 : y2.heap[w.heap.size]? = some (.cells #[.int .i64 2, .int .i64 c1, .int .i64 c2, .int .i64 c3, .int .i64 ro] 66 (0, 0)) := by rw [← hy2]; exact hr1_0
  have hr2_1 : y2.heap[w.heap.size + 1]? = some (.cells #[.int .i64 d1_, .int .i64 d2_, .int .i64 d3_] 39 (0, 0)) := by rw [← hy2]; exact hr1_1
  have hr2_2 : y2.heap[w.heap.size + 1 + 1]? = some (.cells #[.int .i64 n1, .int .i64 n2, .int .i64 n3] 39 (0, 0)) := by rw [← hy2]; exact hr1_2
  have hr2_3 : y2.heap[w.heap.size + 1 + 1 + 1]? = some (.cells #[.int .i64 0, .int .i64 0, .int .i64 0, .int .i64 0, .int .i64 0, .int .i64 0, .bool false, .bool false] 63 (0, 0)) := by rw [← hy2]; exact hr1_3
  have hr2_4 : y2.heap[y0.heap.size]? = some (.cells #[.int .i64 0, .int .i64 0, .int .i64 0, .int .i64 c1, .int .i64 c2, .int .i64 c3, .bool true, .bool false] 63 (0, 0)) := by rw [← hy2]; exact hr1_4
  rw [hy2] at hS0 ⊢
  clear hy2
  refine wpAnyH_take (i := 0) (v := ?_) rfl (by kernel_rfl) (by kernel_rfl) (by kernel_rfl) (fun _ _ _ h => h) (Or.inl ⟨by kernel_rfl, by (intro wz hSz; have c0_0 := cell_of_row _ _ 0 _ _ _ hSz.1; have c0_1 := cell_of_row _ _ 1 _ _ _ hSz.1; have c0_2 := cell_of_row _ _ 2 _ _ _ hSz.1; have c0_3 := cell_of_row _ _ 3 _ _ _ hSz.1; have c0_4 := cell_of_row _ _ 4 _ _ _ hSz.1; have c1_0 := cell_of_row _ _ 0 _ _ _ hSz.2.1; have c1_1 := cell_of_row _ _ 1 _ _ _ hSz.2.1; have c1_2 := cell_of_row _ _ 2 _ _ _ hSz.2.1; have c2_0 := cell_of_row _ _ 0 _ _ _ hSz.2.2.1; have c2_1 := cell_of_row _ _ 1 _ _ _ hSz.2.2.1; have c2_2 := cell_of_row _ _ 2 _ _ _ hSz.2.2.1; have c3_0 := cell_of_row _ _ 0 _ _ _ hSz.2.2.2.1; have c3_1 := cell_of_row _ _ 1 _ _ _ hSz.2.2.2.1; have c3_2 := cell_of_row _ _ 2 _ _ _ hSz.2.2.2.1; have c3_3 := cell_of_row _ _ 3 _ _ _ hSz.2.2.2.1; have c3_4 := cell_of_row _ _ 4 _ _ _ hSz.2.2.2.1; have c3_5 := cell_of_row _ _ 5 _ _ _ hSz.2.2.2.1; have c3_6 := cell_of_row _ _ 6 _ _ _ hSz.2.2.2.1; have c3_7 := cell_of_row _ _ 7 _ _ _ hSz.2.2.2.1; have c4_0 := cell_of_row _ _ 0 _ _ _ hSz.2.2.2.2; have c4_1 := cell_of_row _ _ 1 _ _ _ hSz.2.2.2.2; have c4_2 := cell_of_row _ _ 2 _ _ _ hSz.2.2.2.2; have c4_3 := cell_of_row _ _ 3 _ _ _ hSz.2.2.2.2; have c4_4 := cell_of_row _ _ 4 _ _ _ hSz.2.2.2.2; have c4_5 := cell_of_row _ _ 5 _ _ _ hSz.2.2.2.2; have c4_6 := cell_of_row _ _ 6 _ _ _ hSz.2.2.2.2; have c4_7 := cell_of_row _ _ 7 _ _ _ hSz.2.2.2.2; simp at c0_0 c0_1 c0_2 c0_3 c0_4 c1_0 c1_1 c1_2 c2_0 c2_1 c2_2 c3_0 c3_1 c3_2 c3_3 c3_4 c3_5 c3_6 c3_7 c4_0 c4_1 c4_2 c4_3 c4_4 c4_5 c4_6 c4_7; go_simp; try with_reducible rfl)⟩) hS0 ?_
  go_simp
  refine wpAnyH_take (i := 1) (v := ?_) rfl (by kernel_rfl) (by kernel_rfl) (by kernel_rfl) (fun _ _ _ h => h) (Or.inl ⟨by kernel_rfl, by (intro wz hSz; go_simp; try with_reducible rfl)⟩) hS0 ?_
  go_simp
  refine wpAnyH_take (i := 2) (v := ?_) rfl (by kernel_rfl) (by kernel_rfl) (by kernel_rfl) (fun _ _ _ h => h) (Or.inl ⟨by kernel_rfl, by (intro wz hSz; go_simp; try with_reducible rfl)⟩) hS0 ?_
  go_simp
  refine wpAnyH_take (i := 4) (v := ?_) rfl (by kernel_rfl) (by kernel_rfl) (by kernel_rfl) (fun _ _ _ h => h) (Or.inl ⟨by kernel_rfl, by (intro wz hSz; go_simp; try with_reducible rfl)⟩) hS0 ?_
  go_simp
  refine wpAnyH_take (i := 5) (v := ?_) rfl (by kernel_rfl) (by kernel_rfl) (by kernel_rfl) (fun _ _ _ h => h) (Or.inl ⟨by kernel_rfl, by (intro wz hSz; have c0_0 := cell_of_row _ _ 0 _ _ _ hSz.1; have c0_1 := cell_of_row _ _ 1 _ _ _ hSz.1; have c0_2 := cell_of_row _ _ 2 _ _ _ hSz.1; have c0_3 := cell_of_row _ _ 3 _ _ _ hSz.1; have c0_4 := cell_of_row _ _ 4 _ _ _ hSz.1; have c1_0 := cell_of_row _ _ 0 _ _ _ hSz.2.1; have c1_1 := cell_of_row _ _ 1 _ _ _ hSz.2.1; have c1_2 := cell_of_row _ _ 2 _ _ _ hSz.2.1; have c2_0 := cell_of_row _ _ 0 _ _ _ hSz.2.2.1; have c2_1 := cell_of_row _ _ 1 _ _ _ hSz.2.2.1; have c2_2 := cell_of_row _ _ 2 _ _ _ hSz.2.2.1; have c3_0 := cell_of_row _ _ 0 _ _ _ hSz.2.2.2.1; have c3_1 := cell_of_row _ _ 1 _ _ _ hSz.2.2.2.1; have c3_2 := cell_of_row _ _ 2 _ _ _ hSz.2.2.2.1; have c3_3 := cell_of_row _ _ 3 _ _ _ hSz.2.2.2.1; have c3_4 := cell_of_row _ _ 4 _ _ _ hSz.2.2.2.1; have c3_5 := cell_of_row _ _ 5 _ _ _ hSz.2.2.2.1; have c3_6 := cell_of_row _ _ 6 _ _ _ hSz.2.2.2.1; have c3_7 := cell_of_row _ _ 7 _ _ _ hSz.2.2.2.1; have c4_0 := cell_of_row _ _ 0 _ _ _ hSz.2.2.2.2; have c4_1 := cell_of_row _ _ 1 _ _ _ hSz.2.2.2.2; have c4_2 := cell_of_row _ _ 2 _ _ _ hSz.2.2.2.2; have c4_3 := cell_of_row _ _ 3 _ _ _ hSz.2.2.2.2; have c4_4 := cell_of_row _ _ 4 _ _ _ hSz.2.2.2.2; have c4_5 := cell_of_row _ _ 5 _ _ _ hSz.2.2.2.2; have c4_6 := cell_of_row _ _ 6 _ _ _ hSz.2.2.2.2; have c4_7 := cell_of_row _ _ 7 _ _ _ hSz.2.2.2.2; simp at c0_0 c0_1 c0_2 c0_3 c0_4 c1_0 c1_1 c1_2 c2_0 c2_1 c2_2 c3_0 c3_1 c3_2 c3_3 c3_4 c3_5 c3_6 c3_7 c4_0 c4_1 c4_2 c4_3 c4_4 c4_5 c4_6 c4_7; go_simp; try with_reducible rfl)⟩) hS0 ?_
  go_simp
  refine wpAnyH_ready (rs := [3, 7]) (by kernel_rfl) (by simp) ?_
  refine AllReadyH.cons rfl (fun K hK => ?_) (AllReadyH.cons rfl (fun K hK => ?_) AllReadyH.nil)
  · skip
    go_simp
    go_wp2_with (go_at_call 31; refine (hD _).mono ?_; rintro e y3 ⟨rfl, hb3⟩)
    have hr3_0 := (hb3.block _ (lt_heap hr2_0)).trans hr2_0
    have hr3_1 := (hb3.block _ (lt_heap hr2_1)).trans hr2_1
    have hr3_2 := (hb3.block _ (lt_heap hr2_2)).trans hr2_2
    have hr3_3 := (hb3.block _ (lt_heap hr2_3)).trans hr2_3
    have hr3_4 := (hb3.block _ (lt_heap hr2_4)).trans hr2_4
    have HU3 := Lib.hid (HU2.out.trans (hb3.mono HU2.out.size))
    refine hK.out _ _ (⟨(hb3.block _ (lt_heap hS0.1)).trans hS0.1, (hb3.block _ (lt_heap hS0.2.1)).trans hS0.2.1, (hb3.block _ (lt_heap hS0.2.2.1)).trans hS0.2.2.1, (hb3.block _ (lt_heap hS0.2.2.2.1)).trans hS0.2.2.2.1, (hb3.block _ (lt_heap hS0.2.2.2.2)).trans hS0.2.2.2.2⟩) (fun hS3c => ?_)
    clear hK K
    refine wpAnyH_ready (rs := [6, 7]) (by kernel_rfl) (by simp) ?_
    refine AllReadyH.cons rfl (fun K hK => ?_) (AllReadyH.cons rfl (fun K hK => ?_) AllReadyH.nil)
    · skip
      go_simp
      go_wp2_with (go_at_call 34; refine (hC _).mono ?_; rintro e y4 ⟨rfl, hb4⟩)
      have hr4_0 := (hb4.block _ (lt_heap hr3_0)).trans hr3_0
      have hr4_1 := (hb4.block _ (lt_heap hr3_1)).trans hr3_1
      have hr4_2 := (hb4.block _ (lt_heap hr3_2)).trans hr3_2
      have hr4_3 := (hb4.block _ (lt_heap hr3_3)).trans hr3_3
      have hr4_4 := (hb4.block _ (lt_heap hr3_4)).trans hr3_4
      have HU4 := Lib.hid (HU3.out.trans (hb4.mono HU3.out.size))
      refine hK.out _ _ (⟨(hb4.block _ (lt_heap hS3c.1)).trans hS3c.1, (hb4.block _ (lt_heap hS3c.2.1)).trans hS3c.2.1, (hb4.block _ (lt_heap hS3c.2.2.1)).trans hS3c.2.2.1, (hb4.block _ (lt_heap hS3c.2.2.2.1)).trans hS3c.2.2.2.1, (hb4.block _ (lt_heap hS3c.2.2.2.2)).trans hS3c.2.2.2.2⟩) (fun hS4c => ?_)
      clear hK K
      refine wpAnyH_ready (rs := [7]) (by kernel_rfl) (by simp) ?_
      refine AllReadyH.cons rfl (fun K hK => ?_) AllReadyH.nil
      go_simp
      have hb5 := below_n1 y4 (.cells #[.int .i64 0, .int .i64 0, .int .i64 0] 39)
      have hN := heap_alloc_last y4 (.cells #[.int .i64 0, .int .i64 0, .int .i64 0] 39)
      obtain ⟨y5, hy5⟩ : ∃ y, y4.alloc (.cells #[.int .i64 0, .int .i64 0, .int .i64 0] 39) = y := ⟨_, rfl⟩
      rw [hy5] at hb5 hN ⊢
      clear hy5
      have hl5_0 := lt_heap hr4_0
      have hr5_0 := (hb5.block _ (lt_heap hr4_0)).trans hr4_0
      have hl5_1 := lt_heap hr4_1
      have hr5_1 := (hb5.block _ (lt_heap hr4_1)).trans hr4_1
      have hl5_2 := lt_heap hr4_2
      have hr5_2 := (hb5.block _ (lt_heap hr4_2)).trans hr4_2
      have hl5_3 := lt_heap hr4_3
      have hr5_3 := (hb5.block _ (lt_heap hr4_3)).trans hr4_3
      have hl5_4 := lt_heap hr4_4
      have hr5_4 := (hb5.block _ (lt_heap hr4_4)).trans hr4_4
      have hr5_5 := hN
      clear hN
      have HU5 := Lib.hid (HU4.out.trans (hb5.mono HU4.out.size))
      refine hK.out _ _ (⟨(hb5.block _ (lt_heap hS4c.1)).trans hS4c.1, (hb5.block _ (lt_heap hS4c.2.1)).trans hS4c.2.1, (hb5.block _ (lt_heap hS4c.2.2.1)).trans hS4c.2.2.1, (hb5.block _ (lt_heap hS4c.2.2.2.1)).trans hS4c.2.2.2.1, (hb5.block _ (lt_heap hS4c.2.2.2.2)).trans hS4c.2.2.2.2⟩) (fun hS5a => ?_)
      clear hK K
      refine wpAnyH_ready (rs := [8]) (by kernel_rfl) (by simp) ?_
      refine AllReadyH.cons rfl (fun K hK => ?_) AllReadyH.nil
      refine step_store_row rfl 39 (.tmp 12) (.tmp 42) rfl #[.int .i64 0, .int .i64 0, .int .i64 0] #[.int .i64 p1, .int .i64 p2, .int .i64 p3] _ 39 hr5_5 rfl (by first | rfl | (go_simp; done) | (go_simp; rfl)) (by kernel_rfl) rfl (by simp [Value.oneCell']) ?_
      have hN := setRow_heap _ (y4.heap.size) _ #[.int .i64 p1, .int .i64 p2, .int .i64 p3] _ _ hr5_5
      have hsz := HU5.out.size
      have HUx := below_setRow (g := y4.heap.size) HU5.out (by first | omega | (simp at *; omega)) #[.int .i64 p1, .int .i64 p2, .int .i64 p3]
      obtain ⟨y6, hy6⟩ : ∃ y, y5.setRow (y4.heap.size) #[.int .i64 p1, .int .i64 p2, .int .i64 p3] = y := ⟨_, rfl⟩
      have hO : ∀ k, k ≠ y4.heap.size → y6.heap[k]? = y5.heap[k]? := fun k hk => by rw [← hy6]; exact setRow_other _ _ _ _ hk
      rw [hy6] at hN HUx ⊢
      clear hy6
      have HU6 := Lib.hid HUx
      clear HUx
      have hr6_0 := (hO _ (by omega)).trans hr5_0
      have hr6_1 := (hO _ (by omega)).trans hr5_1
      have hr6_2 := (hO _ (by omega)).trans hr5_2
      have hr6_3 := (hO _ (by omega)).trans hr5_3
      have hr6_4 := (hO _ (by omega)).trans hr5_4
      have hr6_5 := hN
      clear hN
      refine hK.out _ _ (⟨(hO _ (by omega)).trans hS5a.1, (hO _ (by omega)).trans hS5a.2.1, (hO _ (by omega)).trans hS5a.2.2.1, (hO _ (by omega)).trans hS5a.2.2.2.1, (hO _ (by omega)).trans hS5a.2.2.2.2⟩) (fun hS6s => ?_)
      clear hK K
      refine wpAnyH_done (by kernel_rfl) ?_ _
      go_upto_region 10 with fail
      refine wp_region_held_drew (S := fun y => y.heap[w.heap.size + 1]? = some (.cells #[.int .i64 d1_, .int .i64 d2_, .int .i64 d3_] 39 (0, 0)) ∧ y.heap[w.heap.size + 1 + 1]? = some (.cells #[.int .i64 n1, .int .i64 n2, .int .i64 n3] 39 (0, 0)) ∧ y.heap[y4.heap.size]? = some (.cells #[.int .i64 p1, .int .i64 p2, .int .i64 p3] 39 (0, 0))) (by kernel_rfl) (⟨hr6_1, hr6_2, hr6_5⟩) (fun hS0 => ?_)
      obtain ⟨y7, hy7⟩ : ∃ y, y6.drew = y := ⟨_, rfl⟩
      have HU7 := Lib.hid (show Below w.heap.size w y7 by rw [← hy7]; exact HU6.out.drew)
      have hr7_0 : y7.heap[w.heap.size]? = some (.cells #[.int .i64 2, .int .i64 c1, .int .i64 c2, .int .i64 c3, .int .i64 ro] 66 (0, 0)) := by rw [← hy7]; exact hr6_0
      have hr7_1 : y7.heap[w.heap.size + 1]? = some (.cells #[.int .i64 d1_, .int .i64 d2_, .int .i64 d3_] 39 (0, 0)) := by rw [← hy7]; exact hr6_1
      have hr7_2 : y7.heap[w.heap.size + 1 + 1]? = some (.cells #[.int .i64 n1, .int .i64 n2, .int .i64 n3] 39 (0, 0)) := by rw [← hy7]; exact hr6_2
      have hr7_3 : y7.heap[w.heap.size + 1 + 1 + 1]? = some (.cells #[.int .i64 0, .int .i64 0, .int .i64 0, .int .i64 0, .int .i64 0, .int .i64 0, .bool false, .bool false] 63 (0, 0)) := by rw [← hy7]; exact hr6_3
      have hr7_4 : y7.heap[y0.heap.size]? = some (.cells #[.int .i64 0, .int .i64 0, .int .i64 0, .int .i64 c1, .int .i64 c2, .int .i64 c3, .bool true, .bool false] 63 (0, 0)) := by rw [← hy7]; exact hr6_4
      have hr7_5 : y7.heap[y4.heap.size]? = some (.cells #[.int .i64 p1, .int .i64 p2, .int .i64 p3] 39 (0, 0)) := by rw [← hy7]; exact hr6_5
      rw [hy7] at hS0 ⊢
      clear hy7
      refine wpAnyH_take (i := 0) (v := ?_) rfl (by kernel_rfl) (by kernel_rfl) (by kernel_rfl) (fun _ _ _ h => h) (Or.inl ⟨by kernel_rfl, by (intro wz hSz; have c1_0 := cell_of_row _ _ 0 _ _ _ hSz.1; have c1_1 := cell_of_row _ _ 1 _ _ _ hSz.1; have c1_2 := cell_of_row _ _ 2 _ _ _ hSz.1; have c2_0 := cell_of_row _ _ 0 _ _ _ hSz.2.1; have c2_1 := cell_of_row _ _ 1 _ _ _ hSz.2.1; have c2_2 := cell_of_row _ _ 2 _ _ _ hSz.2.1; have c5_0 := cell_of_row _ _ 0 _ _ _ hSz.2.2; have c5_1 := cell_of_row _ _ 1 _ _ _ hSz.2.2; have c5_2 := cell_of_row _ _ 2 _ _ _ hSz.2.2; simp at c1_0 c1_1 c1_2 c2_0 c2_1 c2_2 c5_0 c5_1 c5_2; go_simp; try with_reducible rfl)⟩) hS0 ?_
      go_simp
      refine wpAnyH_take (i := 1) (v := ?_) rfl (by kernel_rfl) (by kernel_rfl) (by kernel_rfl) (fun _ _ _ h => h) (Or.inl ⟨by kernel_rfl, by (intro wz hSz; have c1_0 := cell_of_row _ _ 0 _ _ _ hSz.1; have c1_1 := cell_of_row _ _ 1 _ _ _ hSz.1; have c1_2 := cell_of_row _ _ 2 _ _ _ hSz.1; have c2_0 := cell_of_row _ _ 0 _ _ _ hSz.2.1; have c2_1 := cell_of_row _ _ 1 _ _ _ hSz.2.1; have c2_2 := cell_of_row _ _ 2 _ _ _ hSz.2.1; have c5_0 := cell_of_row _ _ 0 _ _ _ hSz.2.2; have c5_1 := cell_of_row _ _ 1 _ _ _ hSz.2.2; have c5_2 := cell_of_row _ _ 2 _ _ _ hSz.2.2; simp at c1_0 c1_1 c1_2 c2_0 c2_1 c2_2 c5_0 c5_1 c5_2; go_simp; try with_reducible rfl)⟩) hS0 ?_
      go_simp
      refine wpAnyH_take (i := 3) (v := ?_) rfl (by kernel_rfl) (by kernel_rfl) (by kernel_rfl) (fun _ _ _ h => h) (Or.inl ⟨by kernel_rfl, by (intro wz hSz; have c1_0 := cell_of_row _ _ 0 _ _ _ hSz.1; have c1_1 := cell_of_row _ _ 1 _ _ _ hSz.1; have c1_2 := cell_of_row _ _ 2 _ _ _ hSz.1; have c2_0 := cell_of_row _ _ 0 _ _ _ hSz.2.1; have c2_1 := cell_of_row _ _ 1 _ _ _ hSz.2.1; have c2_2 := cell_of_row _ _ 2 _ _ _ hSz.2.1; have c5_0 := cell_of_row _ _ 0 _ _ _ hSz.2.2; have c5_1 := cell_of_row _ _ 1 _ _ _ hSz.2.2; have c5_2 := cell_of_row _ _ 2 _ _ _ hSz.2.2; simp at c1_0 c1_1 c1_2 c2_0 c2_1 c2_2 c5_0 c5_1 c5_2; go_simp; try with_reducible rfl)⟩) hS0 ?_
      go_simp
      refine wpAnyH_ready (rs := [2]) (by kernel_rfl) (by simp) ?_
      refine AllReadyH.cons rfl (fun K hK => ?_) AllReadyH.nil
      go_simp
      go_wp2_with (go_at_call 33; refine (hM _).mono ?_; rintro e y8 ⟨rfl, hb8⟩)
      have hr8_0 := (hb8.block _ (lt_heap hr7_0)).trans hr7_0
      have hr8_1 := (hb8.block _ (lt_heap hr7_1)).trans hr7_1
      have hr8_2 := (hb8.block _ (lt_heap hr7_2)).trans hr7_2
      have hr8_3 := (hb8.block _ (lt_heap hr7_3)).trans hr7_3
      have hr8_4 := (hb8.block _ (lt_heap hr7_4)).trans hr7_4
      have hr8_5 := (hb8.block _ (lt_heap hr7_5)).trans hr7_5
      have HU8 := Lib.hid (HU7.out.trans (hb8.mono HU7.out.size))
      refine hK.out _ _ (⟨(hb8.block _ (lt_heap hS0.1)).trans hS0.1, (hb8.block _ (lt_heap hS0.2.1)).trans hS0.2.1, (hb8.block _ (lt_heap hS0.2.2)).trans hS0.2.2⟩) (fun hS8c => ?_)
      clear hK K
      refine wpAnyH_ready (rs := [4]) (by kernel_rfl) (by simp) ?_
      refine AllReadyH.cons rfl (fun K hK => ?_) AllReadyH.nil
      go_simp
      go_wp2_with (go_at_call 35; refine (hA _).mono ?_; rintro e y9 ⟨rfl, hb9⟩)
      have hr9_0 := (hb9.block _ (lt_heap hr8_0)).trans hr8_0
      have hr9_1 := (hb9.block _ (lt_heap hr8_1)).trans hr8_1
      have hr9_2 := (hb9.block _ (lt_heap hr8_2)).trans hr8_2
      have hr9_3 := (hb9.block _ (lt_heap hr8_3)).trans hr8_3
      have hr9_4 := (hb9.block _ (lt_heap hr8_4)).trans hr8_4
      have hr9_5 := (hb9.block _ (lt_heap hr8_5)).trans hr8_5
      have HU9 := Lib.hid (HU8.out.trans (hb9.mono HU8.out.size))
      refine hK.out _ _ (⟨(hb9.block _ (lt_heap hS8c.1)).trans hS8c.1, (hb9.block _ (lt_heap hS8c.2.1)).trans hS8c.2.1, (hb9.block _ (lt_heap hS8c.2.2)).trans hS8c.2.2⟩) (fun hS9c => ?_)
      clear hK K
      refine wpAnyH_ready (rs := [5]) (by kernel_rfl) (by simp) ?_
      refine AllReadyH.cons rfl (fun K hK => ?_) AllReadyH.nil
      go_simp
      go_wp2_with (go_at_call 32; refine (hV _).mono ?_; rintro e y10 ⟨rfl, hb10⟩)
      have hr10_0 := (hb10.block _ (lt_heap hr9_0)).trans hr9_0
      have hr10_1 := (hb10.block _ (lt_heap hr9_1)).trans hr9_1
      have hr10_2 := (hb10.block _ (lt_heap hr9_2)).trans hr9_2
      have hr10_3 := (hb10.block _ (lt_heap hr9_3)).trans hr9_3
      have hr10_4 := (hb10.block _ (lt_heap hr9_4)).trans hr9_4
      have hr10_5 := (hb10.block _ (lt_heap hr9_5)).trans hr9_5
      have HU10 := Lib.hid (HU9.out.trans (hb10.mono HU9.out.size))
      refine hK.out _ _ (⟨(hb10.block _ (lt_heap hS9c.1)).trans hS9c.1, (hb10.block _ (lt_heap hS9c.2.1)).trans hS9c.2.1, (hb10.block _ (lt_heap hS9c.2.2)).trans hS9c.2.2⟩) (fun hS10c => ?_)
      clear hK K
      refine wpAnyH_take (i := 6) (v := ?_) rfl (by kernel_rfl) (by kernel_rfl) (by kernel_rfl) (fun _ _ _ h => h) (Or.inl ⟨by kernel_rfl, by (intro wz hSz; go_simp; try with_reducible rfl)⟩) hS10c ?_
      go_simp
      refine wpAnyH_ready (rs := [7]) (by kernel_rfl) (by simp) ?_
      refine AllReadyH.cons rfl (fun K hK => ?_) AllReadyH.nil
      have p0 := cell_of_row _ _ 0 _ _ _ hr10_4
      have p1 := cell_of_row _ _ 1 _ _ _ hr10_4
      have p2 := cell_of_row _ _ 2 _ _ _ hr10_4
      have p3 := cell_of_row _ _ 3 _ _ _ hr10_4
      have p4 := cell_of_row _ _ 4 _ _ _ hr10_4
      have p5 := cell_of_row _ _ 5 _ _ _ hr10_4
      have p6 := cell_of_row _ _ 6 _ _ _ hr10_4
      have p7 := cell_of_row _ _ 7 _ _ _ hr10_4
      simp at p0 p1 p2 p3 p4 p5 p6 p7
      have fz : ∀ j, y10.frozen? ⟨y0.heap.size, j, none⟩ = false := fun j => by simp [World.frozen?, hr10_4]
      go_simp
      clear fz p0 p1 p2 p3 p4 p5 p6 p7
      have hN : (((y10.setCell ⟨y0.heap.size, 0, none⟩ (.int .i64 x1)).setCell ⟨y0.heap.size, 1, none⟩ (.int .i64 x2)).setCell ⟨y0.heap.size, 2, none⟩ (.int .i64 x3)).heap[y0.heap.size]? = some (.cells #[.int .i64 x1, .int .i64 x2, .int .i64 x3, .int .i64 c1, .int .i64 c2, .int .i64 c3, .bool true, .bool false] 63 (0, 0)) := part3 hr10_4 _ _ _ rfl
      have hsz := HU10.out.size
      have HUx := below_put3 (k := y0.heap.size) HU10.out (by first | omega | (simp at *; omega)) (.int .i64 x1) (.int .i64 x2) (.int .i64 x3)
      have hO : ∀ kk, kk ≠ y0.heap.size → (((y10.setCell ⟨y0.heap.size, 0, none⟩ (.int .i64 x1)).setCell ⟨y0.heap.size, 1, none⟩ (.int .i64 x2)).setCell ⟨y0.heap.size, 2, none⟩ (.int .i64 x3)).heap[kk]? = y10.heap[kk]? := fun kk hk => put3_other _ _ _ _ _ hk
      obtain ⟨y11, hy11⟩ : ∃ y, ((y10.setCell ⟨y0.heap.size, 0, none⟩ (.int .i64 x1)).setCell ⟨y0.heap.size, 1, none⟩ (.int .i64 x2)).setCell ⟨y0.heap.size, 2, none⟩ (.int .i64 x3) = y := ⟨_, rfl⟩
      rw [hy11] at hN HUx hO ⊢
      clear hy11
      have HU11 := Lib.hid HUx
      clear HUx
      have hr11_0 := (hO _ (by omega)).trans hr10_0
      have hr11_1 := (hO _ (by omega)).trans hr10_1
      have hr11_2 := (hO _ (by omega)).trans hr10_2
      have hr11_3 := (hO _ (by omega)).trans hr10_3
      have hr11_4 := hN
      have hr11_5 := (hO _ (by omega)).trans hr10_5
      clear hN
      refine hK.out _ _ (⟨(hO _ (by omega)).trans hS10c.1, (hO _ (by omega)).trans hS10c.2.1, (hO _ (by omega)).trans hS10c.2.2⟩) (fun hS11p => ?_)
      clear hK K
      refine wpAnyH_take (i := 8) (v := ?_) rfl (by kernel_rfl) (by kernel_rfl) (by kernel_rfl) (fun _ _ _ h => h) (Or.inl ⟨by kernel_rfl, by (intro wz hSz; go_simp; try with_reducible rfl)⟩) hS11p ?_
      go_simp
      refine wpAnyH_ready (rs := [9]) (by kernel_rfl) (by simp) ?_
      refine AllReadyH.cons rfl (fun K hK => ?_) AllReadyH.nil
      have p0 := cell_of_row _ _ 7 _ _ _ hr11_4
      simp at p0
      have fz : ∀ j, y11.frozen? ⟨y0.heap.size, j, none⟩ = false := fun j => by simp [World.frozen?, hr11_4]
      go_simp
      clear fz p0
      have hN : (y11.setCell ⟨y0.heap.size, 7, none⟩ (.bool true)).heap[y0.heap.size]? = some (.cells #[.int .i64 x1, .int .i64 x2, .int .i64 x3, .int .i64 c1, .int .i64 c2, .int .i64 c3, .bool true, .bool true] 63 (0, 0)) := heap_setCell_same _ _ 7 _ _ _ hr11_4
      have hsz := HU11.out.size
      have HUx : Below w.heap.size w (y11.setCell ⟨y0.heap.size, 7, none⟩ (.bool true)) := HU11.out.setCell (by show w.heap.size ≤ y0.heap.size; omega) _
      have hO : ∀ kk, kk ≠ y0.heap.size → (y11.setCell ⟨y0.heap.size, 7, none⟩ (.bool true)).heap[kk]? = y11.heap[kk]? := fun kk hk => Below.heap_setCell _ _ _ _ hk
      obtain ⟨y12, hy12⟩ : ∃ y, y11.setCell ⟨y0.heap.size, 7, none⟩ (.bool true) = y := ⟨_, rfl⟩
      rw [hy12] at hN HUx hO ⊢
      clear hy12
      have HU12 := Lib.hid HUx
      clear HUx
      have hr12_0 := (hO _ (by omega)).trans hr11_0
      have hr12_1 := (hO _ (by omega)).trans hr11_1
      have hr12_2 := (hO _ (by omega)).trans hr11_2
      have hr12_3 := (hO _ (by omega)).trans hr11_3
      have hr12_4 := hN
      have hr12_5 := (hO _ (by omega)).trans hr11_5
      clear hN
      refine hK.out _ _ (⟨(hO _ (by omega)).trans hS11p.1, (hO _ (by omega)).trans hS11p.2.1, (hO _ (by omega)).trans hS11p.2.2⟩) (fun hS12k => ?_)
      clear hK K
      refine wpAnyH_done (by kernel_rfl) ?_ _
      go_upto_region 11 with fail
      have c2_0 := cell_of_row _ _ 0 _ _ _ hr12_2
      have c2_1 := cell_of_row _ _ 1 _ _ _ hr12_2
      have c2_2 := cell_of_row _ _ 2 _ _ _ hr12_2
      have c4_0 := cell_of_row _ _ 0 _ _ _ hr12_4
      have c4_1 := cell_of_row _ _ 1 _ _ _ hr12_4
      have c4_2 := cell_of_row _ _ 2 _ _ _ hr12_4
      have c4_3 := cell_of_row _ _ 3 _ _ _ hr12_4
      have c4_4 := cell_of_row _ _ 4 _ _ _ hr12_4
      have c4_5 := cell_of_row _ _ 5 _ _ _ hr12_4
      have c4_6 := cell_of_row _ _ 6 _ _ _ hr12_4
      have c4_7 := cell_of_row _ _ 7 _ _ _ hr12_4
      simp at c2_0 c2_1 c2_2 c4_0 c4_1 c4_2 c4_3 c4_4 c4_5 c4_6 c4_7
      go_wp2_with fail
      refine (hT _).mono ?_
      rintro e y13 ⟨rfl, hb13⟩
      clear c2_0 c2_1 c2_2 c4_0 c4_1 c4_2 c4_3 c4_4 c4_5 c4_6 c4_7
      have hr13_0 := (hb13.block _ (lt_heap hr12_0)).trans hr12_0
      have hr13_1 := (hb13.block _ (lt_heap hr12_1)).trans hr12_1
      have hr13_2 := (hb13.block _ (lt_heap hr12_2)).trans hr12_2
      have hr13_3 := (hb13.block _ (lt_heap hr12_3)).trans hr12_3
      have hr13_4 := (hb13.block _ (lt_heap hr12_4)).trans hr12_4
      have hr13_5 := (hb13.block _ (lt_heap hr12_5)).trans hr12_5
      have HU13 := Lib.hid (HU12.out.trans (hb13.mono HU12.out.size))
      clear hr12_0 hr12_1 hr12_2 hr12_3 hr12_4 hr12_5 HU12
      have c4_0 := cell_of_row _ _ 0 _ _ _ hr13_4
      have c4_1 := cell_of_row _ _ 1 _ _ _ hr13_4
      have c4_2 := cell_of_row _ _ 2 _ _ _ hr13_4
      have c4_3 := cell_of_row _ _ 3 _ _ _ hr13_4
      have c4_4 := cell_of_row _ _ 4 _ _ _ hr13_4
      have c4_5 := cell_of_row _ _ 5 _ _ _ hr13_4
      have c4_6 := cell_of_row _ _ 6 _ _ _ hr13_4
      have c4_7 := cell_of_row _ _ 7 _ _ _ hr13_4
      simp at c4_0 c4_1 c4_2 c4_3 c4_4 c4_5 c4_6 c4_7
      go_upto_region 12 with fail
      clear c4_0 c4_1 c4_2 c4_3 c4_4 c4_5 c4_6 c4_7
      have hHr := Lib.hid hr13_3
      have hHi := Lib.hid (show (Try.prog.info? 63).map (·.size) = some (#[.int .i64 0, .int .i64 0, .int .i64 0, .int .i64 0, .int .i64 0, .int .i64 0, .bool false, .bool false] : Array Value).size by kernel_rfl)
      have hHz := Lib.hid (show (#[.int .i64 0, .int .i64 0, .int .i64 0, .int .i64 0, .int .i64 0, .int .i64 0, .bool false, .bool false] : Array Value).size = (#[.int .i64 0, .int .i64 0, .int .i64 0, .int .i64 0, .int .i64 0, .int .i64 0, .bool false, .bool false] : Array Value).size from rfl)
      have hHo := Lib.hid (show (#[.int .i64 0, .int .i64 0, .int .i64 0, .int .i64 0, .int .i64 0, .int .i64 0, .bool false, .bool false] : Array Value).all (·.oneCell') = true by simp [Value.oneCell'])
      go_wp2_with (first | (refine Au.wpList_store_row rfl 63 (.tmp 10) (.tmp 56) rfl y13 #[.int .i64 0, .int .i64 0, .int .i64 0, .int .i64 0, .int .i64 0, .int .i64 0, .bool false, .bool false] #[.int .i64 0, .int .i64 0, .int .i64 0, .int .i64 0, .int .i64 0, .int .i64 0, .bool false, .bool false] (w.heap.size + 1 + 1 + 1) 63 hHr.out rfl rfl hHi.out hHz.out hHo.out ?_))
      clear hHr hHi hHz hHo
      have hN := setRow_heap _ (w.heap.size + 1 + 1 + 1) _ #[.int .i64 0, .int .i64 0, .int .i64 0, .int .i64 0, .int .i64 0, .int .i64 0, .bool false, .bool false] _ _ hr13_3
      have hsz := HU13.out.size
      have HUx := below_setRow (g := w.heap.size + 1 + 1 + 1) HU13.out (by first | omega | (simp at *; omega)) #[.int .i64 0, .int .i64 0, .int .i64 0, .int .i64 0, .int .i64 0, .int .i64 0, .bool false, .bool false]
      have hO : ∀ kk, kk ≠ w.heap.size + 1 + 1 + 1 → (y13.setRow (w.heap.size + 1 + 1 + 1) #[.int .i64 0, .int .i64 0, .int .i64 0, .int .i64 0, .int .i64 0, .int .i64 0, .bool false, .bool false]).heap[kk]? = y13.heap[kk]? := fun kk hk => setRow_other _ _ _ _ hk
      obtain ⟨y14, hy14⟩ : ∃ y, y13.setRow (w.heap.size + 1 + 1 + 1) #[.int .i64 0, .int .i64 0, .int .i64 0, .int .i64 0, .int .i64 0, .int .i64 0, .bool false, .bool false] = y := ⟨_, rfl⟩
      rw [hy14] at hN HUx hO ⊢
      clear hy14 hsz
      have HU14 := Lib.hid HUx
      clear HUx
      have hr14_0 := (hO _ (by omega)).trans hr13_0
      have hr14_1 := (hO _ (by omega)).trans hr13_1
      have hr14_2 := (hO _ (by omega)).trans hr13_2
      have hr14_3 := hN
      have hr14_4 := (hO _ (by omega)).trans hr13_4
      have hr14_5 := (hO _ (by omega)).trans hr13_5
      clear hN hO
      clear hr13_0 hr13_1 hr13_2 hr13_3 hr13_4 hr13_5 HU13
      have c3_0 := cell_of_row _ _ 0 _ _ _ hr14_3
      have c3_1 := cell_of_row _ _ 1 _ _ _ hr14_3
      have c3_2 := cell_of_row _ _ 2 _ _ _ hr14_3
      have c3_3 := cell_of_row _ _ 3 _ _ _ hr14_3
      have c3_4 := cell_of_row _ _ 4 _ _ _ hr14_3
      have c3_5 := cell_of_row _ _ 5 _ _ _ hr14_3
      have c3_6 := cell_of_row _ _ 6 _ _ _ hr14_3
      have c3_7 := cell_of_row _ _ 7 _ _ _ hr14_3
      simp at c3_0 c3_1 c3_2 c3_3 c3_4 c3_5 c3_6 c3_7
      go_wp2
      exact bodyPost_ret (v := .agg #[.int .i64 0, .int .i64 0, .int .i64 0, .int .i64 0, .int .i64 0, .int .i64 0, .bool false, .bool false]) (by simp [results, Try.results16, go_sem, c3_0, c3_1, c3_2, c3_3, c3_4, c3_5, c3_6, c3_7]) rfl ⟨rfl, HU14.out⟩
    · skip
      go_simp
      have hb4 := below_n1 y3 (.cells #[.int .i64 0, .int .i64 0, .int .i64 0] 39)
      have hN := heap_alloc_last y3 (.cells #[.int .i64 0, .int .i64 0, .int .i64 0] 39)
      obtain ⟨y4, hy4⟩ : ∃ y, y3.alloc (.cells #[.int .i64 0, .int .i64 0, .int .i64 0] 39) = y := ⟨_, rfl⟩
      rw [hy4] at hb4 hN ⊢
      clear hy4
      have hl4_0 := lt_heap hr3_0
      have hr4_0 := (hb4.block _ (lt_heap hr3_0)).trans hr3_0
      have hl4_1 := lt_heap hr3_1
      have hr4_1 := (hb4.block _ (lt_heap hr3_1)).trans hr3_1
      have hl4_2 := lt_heap hr3_2
      have hr4_2 := (hb4.block _ (lt_heap hr3_2)).trans hr3_2
      have hl4_3 := lt_heap hr3_3
      have hr4_3 := (hb4.block _ (lt_heap hr3_3)).trans hr3_3
      have hl4_4 := lt_heap hr3_4
      have hr4_4 := (hb4.block _ (lt_heap hr3_4)).trans hr3_4
      have hr4_5 := hN
      clear hN
      have HU4 := Lib.hid (HU3.out.trans (hb4.mono HU3.out.size))
      refine hK.out _ _ (⟨(hb4.block _ (lt_heap hS3c.1)).trans hS3c.1, (hb4.block _ (lt_heap hS3c.2.1)).trans hS3c.2.1, (hb4.block _ (lt_heap hS3c.2.2.1)).trans hS3c.2.2.1, (hb4.block _ (lt_heap hS3c.2.2.2.1)).trans hS3c.2.2.2.1, (hb4.block _ (lt_heap hS3c.2.2.2.2)).trans hS3c.2.2.2.2⟩) (fun hS4a => ?_)
      clear hK K
      refine wpAnyH_ready (rs := [6]) (by kernel_rfl) (by simp) ?_
      refine AllReadyH.cons rfl (fun K hK => ?_) AllReadyH.nil
      go_simp
      go_wp2_with (go_at_call 34; refine (hC _).mono ?_; rintro e y5 ⟨rfl, hb5⟩)
      have hr5_0 := (hb5.block _ (lt_heap hr4_0)).trans hr4_0
      have hr5_1 := (hb5.block _ (lt_heap hr4_1)).trans hr4_1
      have hr5_2 := (hb5.block _ (lt_heap hr4_2)).trans hr4_2
      have hr5_3 := (hb5.block _ (lt_heap hr4_3)).trans hr4_3
      have hr5_4 := (hb5.block _ (lt_heap hr4_4)).trans hr4_4
      have hr5_5 := (hb5.block _ (lt_heap hr4_5)).trans hr4_5
      have HU5 := Lib.hid (HU4.out.trans (hb5.mono HU4.out.size))
      refine hK.out _ _ (⟨(hb5.block _ (lt_heap hS4a.1)).trans hS4a.1, (hb5.block _ (lt_heap hS4a.2.1)).trans hS4a.2.1, (hb5.block _ (lt_heap hS4a.2.2.1)).trans hS4a.2.2.1, (hb5.block _ (lt_heap hS4a.2.2.2.1)).trans hS4a.2.2.2.1, (hb5.block _ (lt_heap hS4a.2.2.2.2)).trans hS4a.2.2.2.2⟩) (fun hS5c => ?_)
      clear hK K
      refine wpAnyH_ready (rs := [8]) (by kernel_rfl) (by simp) ?_
      refine AllReadyH.cons rfl (fun K hK => ?_) AllReadyH.nil
      refine step_store_row rfl 39 (.tmp 12) (.tmp 42) rfl #[.int .i64 0, .int .i64 0, .int .i64 0] #[.int .i64 p1, .int .i64 p2, .int .i64 p3] _ 39 hr5_5 rfl (by first | rfl | (go_simp; done) | (go_simp; rfl)) (by kernel_rfl) rfl (by simp [Value.oneCell']) ?_
      have hN := setRow_heap _ (y3.heap.size) _ #[.int .i64 p1, .int .i64 p2, .int .i64 p3] _ _ hr5_5
      have hsz := HU5.out.size
      have HUx := below_setRow (g := y3.heap.size) HU5.out (by first | omega | (simp at *; omega)) #[.int .i64 p1, .int .i64 p2, .int .i64 p3]
      obtain ⟨y6, hy6⟩ : ∃ y, y5.setRow (y3.heap.size) #[.int .i64 p1, .int .i64 p2, .int .i64 p3] = y := ⟨_, rfl⟩
      have hO : ∀ k, k ≠ y3.heap.size → y6.heap[k]? = y5.heap[k]? := fun k hk => by rw [← hy6]; exact setRow_other _ _ _ _ hk
      rw [hy6] at hN HUx ⊢
      clear hy6
      have HU6 := Lib.hid HUx
      clear HUx
      have hr6_0 := (hO _ (by omega)).trans hr5_0
      have hr6_1 := (hO _ (by omega)).trans hr5_1
      have hr6_2 := (hO _ (by omega)).trans hr5_2
      have hr6_3 := (hO _ (by omega)).trans hr5_3
      have hr6_4 := (hO _ (by omega)).trans hr5_4
      have hr6_5 := hN
      clear hN
      refine hK.out _ _ (⟨(hO _ (by omega)).trans hS5c.1, (hO _ (by omega)).trans hS5c.2.1, (hO _ (by omega)).trans hS5c.2.2.1, (hO _ (by omega)).trans hS5c.2.2.2.1, (hO _ (by omega)).trans hS5c.2.2.2.2⟩) (fun hS6s => ?_)
      clear hK K
      refine wpAnyH_done (by kernel_rfl) ?_ _
      go_upto_region 10 with fail
      refine wp_region_held_drew (S := fun y => y.heap[w.heap.size + 1]? = some (.cells #[.int .i64 d1_, .int .i64 d2_, .int .i64 d3_] 39 (0, 0)) ∧ y.heap[w.heap.size + 1 + 1]? = some (.cells #[.int .i64 n1, .int .i64 n2, .int .i64 n3] 39 (0, 0)) ∧ y.heap[y3.heap.size]? = some (.cells #[.int .i64 p1, .int .i64 p2, .int .i64 p3] 39 (0, 0))) (by kernel_rfl) (⟨hr6_1, hr6_2, hr6_5⟩) (fun hS0 => ?_)
      obtain ⟨y7, hy7⟩ : ∃ y, y6.drew = y := ⟨_, rfl⟩
      have HU7 := Lib.hid (show Below w.heap.size w y7 by rw [← hy7]; exact HU6.out.drew)
      have hr7_0 : y7.heap[w.heap.size]? = some (.cells #[.int .i64 2, .int .i64 c1, .int .i64 c2, .int .i64 c3, .int .i64 ro] 66 (0, 0)) := by rw [← hy7]; exact hr6_0
      have hr7_1 : y7.heap[w.heap.size + 1]? = some (.cells #[.int .i64 d1_, .int .i64 d2_, .int .i64 d3_] 39 (0, 0)) := by rw [← hy7]; exact hr6_1
      have hr7_2 : y7.heap[w.heap.size + 1 + 1]? = some (.cells #[.int .i64 n1, .int .i64 n2, .int .i64 n3] 39 (0, 0)) := by rw [← hy7]; exact hr6_2
      have hr7_3 : y7.heap[w.heap.size + 1 + 1 + 1]? = some (.cells #[.int .i64 0, .int .i64 0, .int .i64 0, .int .i64 0, .int .i64 0, .int .i64 0, .bool false, .bool false] 63 (0, 0)) := by rw [← hy7]; exact hr6_3
      have hr7_4 : y7.heap[y0.heap.size]? = some (.cells #[.int .i64 0, .int .i64 0, .int .i64 0, .int .i64 c1, .int .i64 c2, .int .i64 c3, .bool true, .bool false] 63 (0, 0)) := by rw [← hy7]; exact hr6_4
      have hr7_5 : y7.heap[y3.heap.size]? = some (.cells #[.int .i64 p1, .int .i64 p2, .int .i64 p3] 39 (0, 0)) := by rw [← hy7]; exact hr6_5
      rw [hy7] at hS0 ⊢
      clear hy7
      refine wpAnyH_take (i := 0) (v := ?_) rfl (by kernel_rfl) (by kernel_rfl) (by kernel_rfl) (fun _ _ _ h => h) (Or.inl ⟨by kernel_rfl, by (intro wz hSz; have c1_0 := cell_of_row _ _ 0 _ _ _ hSz.1; have c1_1 := cell_of_row _ _ 1 _ _ _ hSz.1; have c1_2 := cell_of_row _ _ 2 _ _ _ hSz.1; have c2_0 := cell_of_row _ _ 0 _ _ _ hSz.2.1; have c2_1 := cell_of_row _ _ 1 _ _ _ hSz.2.1; have c2_2 := cell_of_row _ _ 2 _ _ _ hSz.2.1; have c5_0 := cell_of_row _ _ 0 _ _ _ hSz.2.2; have c5_1 := cell_of_row _ _ 1 _ _ _ hSz.2.2; have c5_2 := cell_of_row _ _ 2 _ _ _ hSz.2.2; simp at c1_0 c1_1 c1_2 c2_0 c2_1 c2_2 c5_0 c5_1 c5_2; go_simp; try with_reducible rfl)⟩) hS0 ?_
      go_simp
      refine wpAnyH_take (i := 1) (v := ?_) rfl (by kernel_rfl) (by kernel_rfl) (by kernel_rfl) (fun _ _ _ h => h) (Or.inl ⟨by kernel_rfl, by (intro wz hSz; have c1_0 := cell_of_row _ _ 0 _ _ _ hSz.1; have c1_1 := cell_of_row _ _ 1 _ _ _ hSz.1; have c1_2 := cell_of_row _ _ 2 _ _ _ hSz.1; have c2_0 := cell_of_row _ _ 0 _ _ _ hSz.2.1; have c2_1 := cell_of_row _ _ 1 _ _ _ hSz.2.1; have c2_2 := cell_of_row _ _ 2 _ _ _ hSz.2.1; have c5_0 := cell_of_row _ _ 0 _ _ _ hSz.2.2; have c5_1 := cell_of_row _ _ 1 _ _ _ hSz.2.2; have c5_2 := cell_of_row _ _ 2 _ _ _ hSz.2.2; simp at c1_0 c1_1 c1_2 c2_0 c2_1 c2_2 c5_0 c5_1 c5_2; go_simp; try with_reducible rfl)⟩) hS0 ?_
      go_simp
      refine wpAnyH_take (i := 3) (v := ?_) rfl (by kernel_rfl) (by kernel_rfl) (by kernel_rfl) (fun _ _ _ h => h) (Or.inl ⟨by kernel_rfl, by (intro wz hSz; have c1_0 := cell_of_row _ _ 0 _ _ _ hSz.1; have c1_1 := cell_of_row _ _ 1 _ _ _ hSz.1; have c1_2 := cell_of_row _ _ 2 _ _ _ hSz.1; have c2_0 := cell_of_row _ _ 0 _ _ _ hSz.2.1; have c2_1 := cell_of_row _ _ 1 _ _ _ hSz.2.1; have c2_2 := cell_of_row _ _ 2 _ _ _ hSz.2.1; have c5_0 := cell_of_row _ _ 0 _ _ _ hSz.2.2; have c5_1 := cell_of_row _ _ 1 _ _ _ hSz.2.2; have c5_2 := cell_of_row _ _ 2 _ _ _ hSz.2.2; simp at c1_0 c1_1 c1_2 c2_0 c2_1 c2_2 c5_0 c5_1 c5_2; go_simp; try with_reducible rfl)⟩) hS0 ?_
      go_simp
      refine wpAnyH_ready (rs := [2]) (by kernel_rfl) (by simp) ?_
      refine AllReadyH.cons rfl (fun K hK => ?_) AllReadyH.nil
      go_simp
      go_wp2_with (go_at_call 33; refine (hM _).mono ?_; rintro e y8 ⟨rfl, hb8⟩)
      have hr8_0 := (hb8.block _ (lt_heap hr7_0)).trans hr7_0
      have hr8_1 := (hb8.block _ (lt_heap hr7_1)).trans hr7_1
      have hr8_2 := (hb8.block _ (lt_heap hr7_2)).trans hr7_2
      have hr8_3 := (hb8.block _ (lt_heap hr7_3)).trans hr7_3
      have hr8_4 := (hb8.block _ (lt_heap hr7_4)).trans hr7_4
      have hr8_5 := (hb8.block _ (lt_heap hr7_5)).trans hr7_5
      have HU8 := Lib.hid (HU7.out.trans (hb8.mono HU7.out.size))
      refine hK.out _ _ (⟨(hb8.block _ (lt_heap hS0.1)).trans hS0.1, (hb8.block _ (lt_heap hS0.2.1)).trans hS0.2.1, (hb8.block _ (lt_heap hS0.2.2)).trans hS0.2.2⟩) (fun hS8c => ?_)
      clear hK K
      refine wpAnyH_ready (rs := [4]) (by kernel_rfl) (by simp) ?_
      refine AllReadyH.cons rfl (fun K hK => ?_) AllReadyH.nil
      go_simp
      go_wp2_with (go_at_call 35; refine (hA _).mono ?_; rintro e y9 ⟨rfl, hb9⟩)
      have hr9_0 := (hb9.block _ (lt_heap hr8_0)).trans hr8_0
      have hr9_1 := (hb9.block _ (lt_heap hr8_1)).trans hr8_1
      have hr9_2 := (hb9.block _ (lt_heap hr8_2)).trans hr8_2
      have hr9_3 := (hb9.block _ (lt_heap hr8_3)).trans hr8_3
      have hr9_4 := (hb9.block _ (lt_heap hr8_4)).trans hr8_4
      have hr9_5 := (hb9.block _ (lt_heap hr8_5)).trans hr8_5
      have HU9 := Lib.hid (HU8.out.trans (hb9.mono HU8.out.size))
      refine hK.out _ _ (⟨(hb9.block _ (lt_heap hS8c.1)).trans hS8c.1, (hb9.block _ (lt_heap hS8c.2.1)).trans hS8c.2.1, (hb9.block _ (lt_heap hS8c.2.2)).trans hS8c.2.2⟩) (fun hS9c => ?_)
      clear hK K
      refine wpAnyH_ready (rs := [5]) (by kernel_rfl) (by simp) ?_
      refine AllReadyH.cons rfl (fun K hK => ?_) AllReadyH.nil
      go_simp
      go_wp2_with (go_at_call 32; refine (hV _).mono ?_; rintro e y10 ⟨rfl, hb10⟩)
      have hr10_0 := (hb10.block _ (lt_heap hr9_0)).trans hr9_0
      have hr10_1 := (hb10.block _ (lt_heap hr9_1)).trans hr9_1
      have hr10_2 := (hb10.block _ (lt_heap hr9_2)).trans hr9_2
      have hr10_3 := (hb10.block _ (lt_heap hr9_3)).trans hr9_3
      have hr10_4 := (hb10.block _ (lt_heap hr9_4)).trans hr9_4
      have hr10_5 := (hb10.block _ (lt_heap hr9_5)).trans hr9_5
      have HU10 := Lib.hid (HU9.out.trans (hb10.mono HU9.out.size))
      refine hK.out _ _ (⟨(hb10.block _ (lt_heap hS9c.1)).trans hS9c.1, (hb10.block _ (lt_heap hS9c.2.1)).trans hS9c.2.1, (hb10.block _ (lt_heap hS9c.2.2)).trans hS9c.2.2⟩) (fun hS10c => ?_)
      clear hK K
      refine wpAnyH_take (i := 6) (v := ?_) rfl (by kernel_rfl) (by kernel_rfl) (by kernel_rfl) (fun _ _ _ h => h) (Or.inl ⟨by kernel_rfl, by (intro wz hSz; go_simp; try with_reducible rfl)⟩) hS10c ?_
      go_simp
      refine wpAnyH_ready (rs := [7]) (by kernel_rfl) (by simp) ?_
      refine AllReadyH.cons rfl (fun K hK => ?_) AllReadyH.nil
      have p0 := cell_of_row _ _ 0 _ _ _ hr10_4
      have p1 := cell_of_row _ _ 1 _ _ _ hr10_4
      have p2 := cell_of_row _ _ 2 _ _ _ hr10_4
      have p3 := cell_of_row _ _ 3 _ _ _ hr10_4
      have p4 := cell_of_row _ _ 4 _ _ _ hr10_4
      have p5 := cell_of_row _ _ 5 _ _ _ hr10_4
      have p6 := cell_of_row _ _ 6 _ _ _ hr10_4
      have p7 := cell_of_row _ _ 7 _ _ _ hr10_4
      simp at p0 p1 p2 p3 p4 p5 p6 p7
      have fz : ∀ j, y10.frozen? ⟨y0.heap.size, j, none⟩ = false := fun j => by simp [World.frozen?, hr10_4]
      go_simp
      clear fz p0 p1 p2 p3 p4 p5 p6 p7
      have hN : (((y10.setCell ⟨y0.heap.size, 0, none⟩ (.int .i64 x1)).setCell ⟨y0.heap.size, 1, none⟩ (.int .i64 x2)).setCell ⟨y0.heap.size, 2, none⟩ (.int .i64 x3)).heap[y0.heap.size]? = some (.cells #[.int .i64 x1, .int .i64 x2, .int .i64 x3, .int .i64 c1, .int .i64 c2, .int .i64 c3, .bool true, .bool false] 63 (0, 0)) := part3 hr10_4 _ _ _ rfl
      have hsz := HU10.out.size
      have HUx := below_put3 (k := y0.heap.size) HU10.out (by first | omega | (simp at *; omega)) (.int .i64 x1) (.int .i64 x2) (.int .i64 x3)
      have hO : ∀ kk, kk ≠ y0.heap.size → (((y10.setCell ⟨y0.heap.size, 0, none⟩ (.int .i64 x1)).setCell ⟨y0.heap.size, 1, none⟩ (.int .i64 x2)).setCell ⟨y0.heap.size, 2, none⟩ (.int .i64 x3)).heap[kk]? = y10.heap[kk]? := fun kk hk => put3_other _ _ _ _ _ hk
      obtain ⟨y11, hy11⟩ : ∃ y, ((y10.setCell ⟨y0.heap.size, 0, none⟩ (.int .i64 x1)).setCell ⟨y0.heap.size, 1, none⟩ (.int .i64 x2)).setCell ⟨y0.heap.size, 2, none⟩ (.int .i64 x3) = y := ⟨_, rfl⟩
      rw [hy11] at hN HUx hO ⊢
      clear hy11
      have HU11 := Lib.hid HUx
      clear HUx
      have hr11_0 := (hO _ (by omega)).trans hr10_0
      have hr11_1 := (hO _ (by omega)).trans hr10_1
      have hr11_2 := (hO _ (by omega)).trans hr10_2
      have hr11_3 := (hO _ (by omega)).trans hr10_3
      have hr11_4 := hN
      have hr11_5 := (hO _ (by omega)).trans hr10_5
      clear hN
      refine hK.out _ _ (⟨(hO _ (by omega)).trans hS10c.1, (hO _ (by omega)).trans hS10c.2.1, (hO _ (by omega)).trans hS10c.2.2⟩) (fun hS11p => ?_)
      clear hK K
      refine wpAnyH_take (i := 8) (v := ?_) rfl (by kernel_rfl) (by kernel_rfl) (by kernel_rfl) (fun _ _ _ h => h) (Or.inl ⟨by kernel_rfl, by (intro wz hSz; go_simp; try with_reducible rfl)⟩) hS11p ?_
      go_simp
      refine wpAnyH_ready (rs := [9]) (by kernel_rfl) (by simp) ?_
      refine AllReadyH.cons rfl (fun K hK => ?_) AllReadyH.nil
      have p0 := cell_of_row _ _ 7 _ _ _ hr11_4
      simp at p0
      have fz : ∀ j, y11.frozen? ⟨y0.heap.size, j, none⟩ = false := fun j => by simp [World.frozen?, hr11_4]
      go_simp
      clear fz p0
      have hN : (y11.setCell ⟨y0.heap.size, 7, none⟩ (.bool true)).heap[y0.heap.size]? = some (.cells #[.int .i64 x1, .int .i64 x2, .int .i64 x3, .int .i64 c1, .int .i64 c2, .int .i64 c3, .bool true, .bool true] 63 (0, 0)) := heap_setCell_same _ _ 7 _ _ _ hr11_4
      have hsz := HU11.out.size
      have HUx : Below w.heap.size w (y11.setCell ⟨y0.heap.size, 7, none⟩ (.bool true)) := HU11.out.setCell (by show w.heap.size ≤ y0.heap.size; omega) _
      have hO : ∀ kk, kk ≠ y0.heap.size → (y11.setCell ⟨y0.heap.size, 7, none⟩ (.bool true)).heap[kk]? = y11.heap[kk]? := fun kk hk => Below.heap_setCell _ _ _ _ hk
      obtain ⟨y12, hy12⟩ : ∃ y, y11.setCell ⟨y0.heap.size, 7, none⟩ (.bool true) = y := ⟨_, rfl⟩
      rw [hy12] at hN HUx hO ⊢
      clear hy12
      have HU12 := Lib.hid HUx
      clear HUx
      have hr12_0 := (hO _ (by omega)).trans hr11_0
      have hr12_1 := (hO _ (by omega)).trans hr11_1
      have hr12_2 := (hO _ (by omega)).trans hr11_2
      have hr12_3 := (hO _ (by omega)).trans hr11_3
      have hr12_4 := hN
      have hr12_5 := (hO _ (by omega)).trans hr11_5
      clear hN
      refine hK.out _ _ (⟨(hO _ (by omega)).trans hS11p.1, (hO _ (by omega)).trans hS11p.2.1, (hO _ (by omega)).trans hS11p.2.2⟩) (fun hS12k => ?_)
      clear hK K
      refine wpAnyH_done (by kernel_rfl) ?_ _
      go_upto_region 11 with fail
      have c2_0 := cell_of_row _ _ 0 _ _ _ hr12_2
      have c2_1 := cell_of_row _ _ 1 _ _ _ hr12_2
      have c2_2 := cell_of_row _ _ 2 _ _ _ hr12_2
      have c4_0 := cell_of_row _ _ 0 _ _ _ hr12_4
      have c4_1 := cell_of_row _ _ 1 _ _ _ hr12_4
      have c4_2 := cell_of_row _ _ 2 _ _ _ hr12_4
      have c4_3 := cell_of_row _ _ 3 _ _ _ hr12_4
      have c4_4 := cell_of_row _ _ 4 _ _ _ hr12_4
      have c4_5 := cell_of_row _ _ 5 _ _ _ hr12_4
      have c4_6 := cell_of_row _ _ 6 _ _ _ hr12_4
      have c4_7 := cell_of_row _ _ 7 _ _ _ hr12_4
      simp at c2_0 c2_1 c2_2 c4_0 c4_1 c4_2 c4_3 c4_4 c4_5 c4_6 c4_7
      go_wp2_with fail
      refine (hT _).mono ?_
      rintro e y13 ⟨rfl, hb13⟩
      clear c2_0 c2_1 c2_2 c4_0 c4_1 c4_2 c4_3 c4_4 c4_5 c4_6 c4_7
      have hr13_0 := (hb13.block _ (lt_heap hr12_0)).trans hr12_0
      have hr13_1 := (hb13.block _ (lt_heap hr12_1)).trans hr12_1
      have hr13_2 := (hb13.block _ (lt_heap hr12_2)).trans hr12_2
      have hr13_3 := (hb13.block _ (lt_heap hr12_3)).trans hr12_3
      have hr13_4 := (hb13.block _ (lt_heap hr12_4)).trans hr12_4
      have hr13_5 := (hb13.block _ (lt_heap hr12_5)).trans hr12_5
      have HU13 := Lib.hid (HU12.out.trans (hb13.mono HU12.out.size))
      clear hr12_0 hr12_1 hr12_2 hr12_3 hr12_4 hr12_5 HU12
      have c4_0 := cell_of_row _ _ 0 _ _ _ hr13_4
      have c4_1 := cell_of_row _ _ 1 _ _ _ hr13_4
      have c4_2 := cell_of_row _ _ 2 _ _ _ hr13_4
      have c4_3 := cell_of_row _ _ 3 _ _ _ hr13_4
      have c4_4 := cell_of_row _ _ 4 _ _ _ hr13_4
      have c4_5 := cell_of_row _ _ 5 _ _ _ hr13_4
      have c4_6 := cell_of_row _ _ 6 _ _ _ hr13_4
      have c4_7 := cell_of_row _ _ 7 _ _ _ hr13_4
      simp at c4_0 c4_1 c4_2 c4_3 c4_4 c4_5 c4_6 c4_7
      go_upto_region 12 with fail
      clear c4_0 c4_1 c4_2 c4_3 c4_4 c4_5 c4_6 c4_7
      have hHr := Lib.hid hr13_3
      have hHi := Lib.hid (show (Try.prog.info? 63).map (·.size) = some (#[.int .i64 0, .int .i64 0, .int .i64 0, .int .i64 0, .int .i64 0, .int .i64 0, .bool false, .bool false] : Array Value).size by kernel_rfl)
      have hHz := Lib.hid (show (#[.int .i64 0, .int .i64 0, .int .i64 0, .int .i64 0, .int .i64 0, .int .i64 0, .bool false, .bool false] : Array Value).size = (#[.int .i64 0, .int .i64 0, .int .i64 0, .int .i64 0, .int .i64 0, .int .i64 0, .bool false, .bool false] : Array Value).size from rfl)
      have hHo := Lib.hid (show (#[.int .i64 0, .int .i64 0, .int .i64 0, .int .i64 0, .int .i64 0, .int .i64 0, .bool false, .bool false] : Array Value).all (·.oneCell') = true by simp [Value.oneCell'])
      go_wp2_with (first | (refine Au.wpList_store_row rfl 63 (.tmp 10) (.tmp 56) rfl y13 #[.int .i64 0, .int .i64 0, .int .i64 0, .int .i64 0, .int .i64 0, .int .i64 0, .bool false, .bool false] #[.int .i64 0, .int .i64 0, .int .i64 0, .int .i64 0, .int .i64 0, .int .i64 0, .bool false, .bool false] (w.heap.size + 1 + 1 + 1) 63 hHr.out rfl rfl hHi.out hHz.out hHo.out ?_))
      clear hHr hHi hHz hHo
      have hN := setRow_heap _ (w.heap.size + 1 + 1 + 1) _ #[.int .i64 0, .int .i64 0, .int .i64 0, .int .i64 0, .int .i64 0, .int .i64 0, .bool false, .bool false] _ _ hr13_3
      have hsz := HU13.out.size
      have HUx := below_setRow (g := w.heap.size + 1 + 1 + 1) HU13.out (by first | omega | (simp at *; omega)) #[.int .i64 0, .int .i64 0, .int .i64 0, .int .i64 0, .int .i64 0, .int .i64 0, .bool false, .bool false]
      have hO : ∀ kk, kk ≠ w.heap.size + 1 + 1 + 1 → (y13.setRow (w.heap.size + 1 + 1 + 1) #[.int .i64 0, .int .i64 0, .int .i64 0, .int .i64 0, .int .i64 0, .int .i64 0, .bool false, .bool false]).heap[kk]? = y13.heap[kk]? := fun kk hk => setRow_other _ _ _ _ hk
      obtain ⟨y14, hy14⟩ : ∃ y, y13.setRow (w.heap.size + 1 + 1 + 1) #[.int .i64 0, .int .i64 0, .int .i64 0, .int .i64 0, .int .i64 0, .int .i64 0, .bool false, .bool false] = y := ⟨_, rfl⟩
      rw [hy14] at hN HUx hO ⊢
      clear hy14 hsz
      have HU14 := Lib.hid HUx
      clear HUx
      have hr14_0 := (hO _ (by omega)).trans hr13_0
      have hr14_1 := (hO _ (by omega)).trans hr13_1
      have hr14_2 := (hO _ (by omega)).trans hr13_2
      have hr14_3 := hN
      have hr14_4 := (hO _ (by omega)).trans hr13_4
      have hr14_5 := (hO _ (by omega)).trans hr13_5
      clear hN hO
      clear hr13_0 hr13_1 hr13_2 hr13_3 hr13_4 hr13_5 HU13
      have c3_0 := cell_of_row _ _ 0 _ _ _ hr14_3
      have c3_1 := cell_of_row _ _ 1 _ _ _ hr14_3
      have c3_2 := cell_of_row _ _ 2 _ _ _ hr14_3
      have c3_3 := cell_of_row _ _ 3 _ _ _ hr14_3
      have c3_4 := cell_of_row _ _ 4 _ _ _ hr14_3
      have c3_5 := cell_of_row _ _ 5 _ _ _ hr14_3
      have c3_6 := cell_of_row _ _ 6 _ _ _ hr14_3
      have c3_7 := cell_of_row _ _ 7 _ _ _ hr14_3
      simp at c3_0 c3_1 c3_2 c3_3 c3_4 c3_5 c3_6 c3_7
      go_wp2
      exact bodyPost_ret (v := .agg #[.int .i64 0, .int .i64 0, .int .i64 0, .int .i64 0, .int .i64 0, .int .i64 0, .bool false, .bool false]) (by simp [results, Try.results16, go_sem, c3_0, c3_1, c3_2, c3_3, c3_4, c3_5, c3_6, c3_7]) rfl ⟨rfl, HU14.out⟩
  · skip
    go_simp
    have hb3 := below_n1 y2 (.cells #[.int .i64 0, .int .i64 0, .int .i64 0] 39)
    have hN := heap_alloc_last y2 (.cells #[.int .i64 0, .int .i64 0, .int .i64 0] 39)
    obtain ⟨y3, hy3⟩ : ∃ y, y2.alloc (.cells #[.int .i64 0, .int .i64 0, .int .i64 0] 39) = y := ⟨_, rfl⟩
    rw [hy3] at hb3 hN ⊢
    clear hy3
    have hl3_0 := lt_heap hr2_0
    have hr3_0 := (hb3.block _ (lt_heap hr2_0)).trans hr2_0
    have hl3_1 := lt_heap hr2_1
    have hr3_1 := (hb3.block _ (lt_heap hr2_1)).trans hr2_1
    have hl3_2 := lt_heap hr2_2
    have hr3_2 := (hb3.block _ (lt_heap hr2_2)).trans hr2_2
    have hl3_3 := lt_heap hr2_3
    have hr3_3 := (hb3.block _ (lt_heap hr2_3)).trans hr2_3
    have hl3_4 := lt_heap hr2_4
    have hr3_4 := (hb3.block _ (lt_heap hr2_4)).trans hr2_4
    have hr3_5 := hN
    clear hN
    have HU3 := Lib.hid (HU2.out.trans (hb3.mono HU2.out.size))
    refine hK.out _ _ (⟨(hb3.block _ (lt_heap hS0.1)).trans hS0.1, (hb3.block _ (lt_heap hS0.2.1)).trans hS0.2.1, (hb3.block _ (lt_heap hS0.2.2.1)).trans hS0.2.2.1, (hb3.block _ (lt_heap hS0.2.2.2.1)).trans hS0.2.2.2.1, (hb3.block _ (lt_heap hS0.2.2.2.2)).trans hS0.2.2.2.2⟩) (fun hS3a => ?_)
    clear hK K
    refine wpAnyH_ready (rs := [3]) (by kernel_rfl) (by simp) ?_
    refine AllReadyH.cons rfl (fun K hK => ?_) AllReadyH.nil
    go_simp
    go_wp2_with (go_at_call 31; refine (hD _).mono ?_; rintro e y4 ⟨rfl, hb4⟩)
    have hr4_0 := (hb4.block _ (lt_heap hr3_0)).trans hr3_0
    have hr4_1 := (hb4.block _ (lt_heap hr3_1)).trans hr3_1
    have hr4_2 := (hb4.block _ (lt_heap hr3_2)).trans hr3_2
    have hr4_3 := (hb4.block _ (lt_heap hr3_3)).trans hr3_3
    have hr4_4 := (hb4.block _ (lt_heap hr3_4)).trans hr3_4
    have hr4_5 := (hb4.block _ (lt_heap hr3_5)).trans hr3_5
    have HU4 := Lib.hid (HU3.out.trans (hb4.mono HU3.out.size))
    refine hK.out _ _ (⟨(hb4.block _ (lt_heap hS3a.1)).trans hS3a.1, (hb4.block _ (lt_heap hS3a.2.1)).trans hS3a.2.1, (hb4.block _ (lt_heap hS3a.2.2.1)).trans hS3a.2.2.1, (hb4.block _ (lt_heap hS3a.2.2.2.1)).trans hS3a.2.2.2.1, (hb4.block _ (lt_heap hS3a.2.2.2.2)).trans hS3a.2.2.2.2⟩) (fun hS4c => ?_)
    clear hK K
    refine wpAnyH_ready (rs := [6]) (by kernel_rfl) (by simp) ?_
    refine AllReadyH.cons rfl (fun K hK => ?_) AllReadyH.nil
    go_simp
    go_wp2_with (go_at_call 34; refine (hC _).mono ?_; rintro e y5 ⟨rfl, hb5⟩)
    have hr5_0 := (hb5.block _ (lt_heap hr4_0)).trans hr4_0
    have hr5_1 := (hb5.block _ (lt_heap hr4_1)).trans hr4_1
    have hr5_2 := (hb5.block _ (lt_heap hr4_2)).trans hr4_2
    have hr5_3 := (hb5.block _ (lt_heap hr4_3)).trans hr4_3
    have hr5_4 := (hb5.block _ (lt_heap hr4_4)).trans hr4_4
    have hr5_5 := (hb5.block _ (lt_heap hr4_5)).trans hr4_5
    have HU5 := Lib.hid (HU4.out.trans (hb5.mono HU4.out.size))
    refine hK.out _ _ (⟨(hb5.block _ (lt_heap hS4c.1)).trans hS4c.1, (hb5.block _ (lt_heap hS4c.2.1)).trans hS4c.2.1, (hb5.block _ (lt_heap hS4c.2.2.1)).trans hS4c.2.2.1, (hb5.block _ (lt_heap hS4c.2.2.2.1)).trans hS4c.2.2.2.1, (hb5.block _ (lt_heap hS4c.2.2.2.2)).trans hS4c.2.2.2.2⟩) (fun hS5c => ?_)
    clear hK K
    refine wpAnyH_ready (rs := [8]) (by kernel_rfl) (by simp) ?_
    refine AllReadyH.cons rfl (fun K hK => ?_) AllReadyH.nil
    refine step_store_row rfl 39 (.tmp 12) (.tmp 42) rfl #[.int .i64 0, .int .i64 0, .int .i64 0] #[.int .i64 p1, .int .i64 p2, .int .i64 p3] _ 39 hr5_5 rfl (by first | rfl | (go_simp; done) | (go_simp; rfl)) (by kernel_rfl) rfl (by simp [Value.oneCell']) ?_
    have hN := setRow_heap _ (y2.heap.size) _ #[.int .i64 p1, .int .i64 p2, .int .i64 p3] _ _ hr5_5
    have hsz := HU5.out.size
    have HUx := below_setRow (g := y2.heap.size) HU5.out (by first | omega | (simp at *; omega)) #[.int .i64 p1, .int .i64 p2, .int .i64 p3]
    obtain ⟨y6, hy6⟩ : ∃ y, y5.setRow (y2.heap.size) #[.int .i64 p1, .int .i64 p2, .int .i64 p3] = y := ⟨_, rfl⟩
    have hO : ∀ k, k ≠ y2.heap.size → y6.heap[k]? = y5.heap[k]? := fun k hk => by rw [← hy6]; exact setRow_other _ _ _ _ hk
    rw [hy6] at hN HUx ⊢
    clear hy6
    have HU6 := Lib.hid HUx
    clear HUx
    have hr6_0 := (hO _ (by omega)).trans hr5_0
    have hr6_1 := (hO _ (by omega)).trans hr5_1
    have hr6_2 := (hO _ (by omega)).trans hr5_2
    have hr6_3 := (hO _ (by omega)).trans hr5_3
    have hr6_4 := (hO _ (by omega)).trans hr5_4
    have hr6_5 := hN
    clear hN
    refine hK.out _ _ (⟨(hO _ (by omega)).trans hS5c.1, (hO _ (by omega)).trans hS5c.2.1, (hO _ (by omega)).trans hS5c.2.2.1, (hO _ (by omega)).trans hS5c.2.2.2.1, (hO _ (by omega)).trans hS5c.2.2.2.2⟩) (fun hS6s => ?_)
    clear hK K
    refine wpAnyH_done (by kernel_rfl) ?_ _
    go_upto_region 10 with fail
    refine wp_region_held_drew (S := fun y => y.heap[w.heap.size + 1]? = some (.cells #[.int .i64 d1_, .int .i64 d2_, .int .i64 d3_] 39 (0, 0)) ∧ y.heap[w.heap.size + 1 + 1]? = some (.cells #[.int .i64 n1, .int .i64 n2, .int .i64 n3] 39 (0, 0)) ∧ y.heap[y2.heap.size]? = some (.cells #[.int .i64 p1, .int .i64 p2, .int .i64 p3] 39 (0, 0))) (by kernel_rfl) (⟨hr6_1, hr6_2, hr6_5⟩) (fun hS0 => ?_)
    obtain ⟨y7, hy7⟩ : ∃ y, y6.drew = y := ⟨_, rfl⟩
    have HU7 := Lib.hid (show Below w.heap.size w y7 by rw [← hy7]; exact HU6.out.drew)
    have hr7_0 : y7.heap[w.heap.size]? = some (.cells #[.int .i64 2, .int .i64 c1, .int .i64 c2, .int .i64 c3, .int .i64 ro] 66 (0, 0)) := by rw [← hy7]; exact hr6_0
    have hr7_1 : y7.heap[w.heap.size + 1]? = some (.cells #[.int .i64 d1_, .int .i64 d2_, .int .i64 d3_] 39 (0, 0)) := by rw [← hy7]; exact hr6_1
    have hr7_2 : y7.heap[w.heap.size + 1 + 1]? = some (.cells #[.int .i64 n1, .int .i64 n2, .int .i64 n3] 39 (0, 0)) := by rw [← hy7]; exact hr6_2
    have hr7_3 : y7.heap[w.heap.size + 1 + 1 + 1]? = some (.cells #[.int .i64 0, .int .i64 0, .int .i64 0, .int .i64 0, .int .i64 0, .int .i64 0, .bool false, .bool false] 63 (0, 0)) := by rw [← hy7]; exact hr6_3
    have hr7_4 : y7.heap[y0.heap.size]? = some (.cells #[.int .i64 0, .int .i64 0, .int .i64 0, .int .i64 c1, .int .i64 c2, .int .i64 c3, .bool true, .bool false] 63 (0, 0)) := by rw [← hy7]; exact hr6_4
    have hr7_5 : y7.heap[y2.heap.size]? = some (.cells #[.int .i64 p1, .int .i64 p2, .int .i64 p3] 39 (0, 0)) := by rw [← hy7]; exact hr6_5
    rw [hy7] at hS0 ⊢
    clear hy7
    refine wpAnyH_take (i := 0) (v := ?_) rfl (by kernel_rfl) (by kernel_rfl) (by kernel_rfl) (fun _ _ _ h => h) (Or.inl ⟨by kernel_rfl, by (intro wz hSz; have c1_0 := cell_of_row _ _ 0 _ _ _ hSz.1; have c1_1 := cell_of_row _ _ 1 _ _ _ hSz.1; have c1_2 := cell_of_row _ _ 2 _ _ _ hSz.1; have c2_0 := cell_of_row _ _ 0 _ _ _ hSz.2.1; have c2_1 := cell_of_row _ _ 1 _ _ _ hSz.2.1; have c2_2 := cell_of_row _ _ 2 _ _ _ hSz.2.1; have c5_0 := cell_of_row _ _ 0 _ _ _ hSz.2.2; have c5_1 := cell_of_row _ _ 1 _ _ _ hSz.2.2; have c5_2 := cell_of_row _ _ 2 _ _ _ hSz.2.2; simp at c1_0 c1_1 c1_2 c2_0 c2_1 c2_2 c5_0 c5_1 c5_2; go_simp; try with_reducible rfl)⟩) hS0 ?_
    go_simp
    refine wpAnyH_take (i := 1) (v := ?_) rfl (by kernel_rfl) (by kernel_rfl) (by kernel_rfl) (fun _ _ _ h => h) (Or.inl ⟨by kernel_rfl, by (intro wz hSz; have c1_0 := cell_of_row _ _ 0 _ _ _ hSz.1; have c1_1 := cell_of_row _ _ 1 _ _ _ hSz.1; have c1_2 := cell_of_row _ _ 2 _ _ _ hSz.1; have c2_0 := cell_of_row _ _ 0 _ _ _ hSz.2.1; have c2_1 := cell_of_row _ _ 1 _ _ _ hSz.2.1; have c2_2 := cell_of_row _ _ 2 _ _ _ hSz.2.1; have c5_0 := cell_of_row _ _ 0 _ _ _ hSz.2.2; have c5_1 := cell_of_row _ _ 1 _ _ _ hSz.2.2; have c5_2 := cell_of_row _ _ 2 _ _ _ hSz.2.2; simp at c1_0 c1_1 c1_2 c2_0 c2_1 c2_2 c5_0 c5_1 c5_2; go_simp; try with_reducible rfl)⟩) hS0 ?_
    go_simp
    refine wpAnyH_take (i := 3) (v := ?_) rfl (by kernel_rfl) (by kernel_rfl) (by kernel_rfl) (fun _ _ _ h => h) (Or.inl ⟨by kernel_rfl, by (intro wz hSz; have c1_0 := cell_of_row _ _ 0 _ _ _ hSz.1; have c1_1 := cell_of_row _ _ 1 _ _ _ hSz.1; have c1_2 := cell_of_row _ _ 2 _ _ _ hSz.1; have c2_0 := cell_of_row _ _ 0 _ _ _ hSz.2.1; have c2_1 := cell_of_row _ _ 1 _ _ _ hSz.2.1; have c2_2 := cell_of_row _ _ 2 _ _ _ hSz.2.1; have c5_0 := cell_of_row _ _ 0 _ _ _ hSz.2.2; have c5_1 := cell_of_row _ _ 1 _ _ _ hSz.2.2; have c5_2 := cell_of_row _ _ 2 _ _ _ hSz.2.2; simp at c1_0 c1_1 c1_2 c2_0 c2_1 c2_2 c5_0 c5_1 c5_2; go_simp; try with_reducible rfl)⟩) hS0 ?_
    go_simp
    refine wpAnyH_ready (rs := [2]) (by kernel_rfl) (by simp) ?_
    refine AllReadyH.cons rfl (fun K hK => ?_) AllReadyH.nil
    go_simp
    go_wp2_with (go_at_call 33; refine (hM _).mono ?_; rintro e y8 ⟨rfl, hb8⟩)
    have hr8_0 := (hb8.block _ (lt_heap hr7_0)).trans hr7_0
    have hr8_1 := (hb8.block _ (lt_heap hr7_1)).trans hr7_1
    have hr8_2 := (hb8.block _ (lt_heap hr7_2)).trans hr7_2
    have hr8_3 := (hb8.block _ (lt_heap hr7_3)).trans hr7_3
    have hr8_4 := (hb8.block _ (lt_heap hr7_4)).trans hr7_4
    have hr8_5 := (hb8.block _ (lt_heap hr7_5)).trans hr7_5
    have HU8 := Lib.hid (HU7.out.trans (hb8.mono HU7.out.size))
    refine hK.out _ _ (⟨(hb8.block _ (lt_heap hS0.1)).trans hS0.1, (hb8.block _ (lt_heap hS0.2.1)).trans hS0.2.1, (hb8.block _ (lt_heap hS0.2.2)).trans hS0.2.2⟩) (fun hS8c => ?_)
    clear hK K
    refine wpAnyH_ready (rs := [4]) (by kernel_rfl) (by simp) ?_
    refine AllReadyH.cons rfl (fun K hK => ?_) AllReadyH.nil
    go_simp
    go_wp2_with (go_at_call 35; refine (hA _).mono ?_; rintro e y9 ⟨rfl, hb9⟩)
    have hr9_0 := (hb9.block _ (lt_heap hr8_0)).trans hr8_0
    have hr9_1 := (hb9.block _ (lt_heap hr8_1)).trans hr8_1
    have hr9_2 := (hb9.block _ (lt_heap hr8_2)).trans hr8_2
    have hr9_3 := (hb9.block _ (lt_heap hr8_3)).trans hr8_3
    have hr9_4 := (hb9.block _ (lt_heap hr8_4)).trans hr8_4
    have hr9_5 := (hb9.block _ (lt_heap hr8_5)).trans hr8_5
    have HU9 := Lib.hid (HU8.out.trans (hb9.mono HU8.out.size))
    refine hK.out _ _ (⟨(hb9.block _ (lt_heap hS8c.1)).trans hS8c.1, (hb9.block _ (lt_heap hS8c.2.1)).trans hS8c.2.1, (hb9.block _ (lt_heap hS8c.2.2)).trans hS8c.2.2⟩) (fun hS9c => ?_)
    clear hK K
    refine wpAnyH_ready (rs := [5]) (by kernel_rfl) (by simp) ?_
    refine AllReadyH.cons rfl (fun K hK => ?_) AllReadyH.nil
    go_simp
    go_wp2_with (go_at_call 32; refine (hV _).mono ?_; rintro e y10 ⟨rfl, hb10⟩)
    have hr10_0 := (hb10.block _ (lt_heap hr9_0)).trans hr9_0
    have hr10_1 := (hb10.block _ (lt_heap hr9_1)).trans hr9_1
    have hr10_2 := (hb10.block _ (lt_heap hr9_2)).trans hr9_2
    have hr10_3 := (hb10.block _ (lt_heap hr9_3)).trans hr9_3
    have hr10_4 := (hb10.block _ (lt_heap hr9_4)).trans hr9_4
    have hr10_5 := (hb10.block _ (lt_heap hr9_5)).trans hr9_5
    have HU10 := Lib.hid (HU9.out.trans (hb10.mono HU9.out.size))
    refine hK.out _ _ (⟨(hb10.block _ (lt_heap hS9c.1)).trans hS9c.1, (hb10.block _ (lt_heap hS9c.2.1)).trans hS9c.2.1, (hb10.block _ (lt_heap hS9c.2.2)).trans hS9c.2.2⟩) (fun hS10c => ?_)
    clear hK K
    refine wpAnyH_take (i := 6) (v := ?_) rfl (by kernel_rfl) (by kernel_rfl) (by kernel_rfl) (fun _ _ _ h => h) (Or.inl ⟨by kernel_rfl, by (intro wz hSz; go_simp; try with_reducible rfl)⟩) hS10c ?_
    go_simp
    refine wpAnyH_ready (rs := [7]) (by kernel_rfl) (by simp) ?_
    refine AllReadyH.cons rfl (fun K hK => ?_) AllReadyH.nil
    have p0 := cell_of_row _ _ 0 _ _ _ hr10_4
    have p1 := cell_of_row _ _ 1 _ _ _ hr10_4
    have p2 := cell_of_row _ _ 2 _ _ _ hr10_4
    have p3 := cell_of_row _ _ 3 _ _ _ hr10_4
    have p4 := cell_of_row _ _ 4 _ _ _ hr10_4
    have p5 := cell_of_row _ _ 5 _ _ _ hr10_4
    have p6 := cell_of_row _ _ 6 _ _ _ hr10_4
    have p7 := cell_of_row _ _ 7 _ _ _ hr10_4
    simp at p0 p1 p2 p3 p4 p5 p6 p7
    have fz : ∀ j, y10.frozen? ⟨y0.heap.size, j, none⟩ = false := fun j => by simp [World.frozen?, hr10_4]
    go_simp
    clear fz p0 p1 p2 p3 p4 p5 p6 p7
    have hN : (((y10.setCell ⟨y0.heap.size, 0, none⟩ (.int .i64 x1)).setCell ⟨y0.heap.size, 1, none⟩ (.int .i64 x2)).setCell ⟨y0.heap.size, 2, none⟩ (.int .i64 x3)).heap[y0.heap.size]? = some (.cells #[.int .i64 x1, .int .i64 x2, .int .i64 x3, .int .i64 c1, .int .i64 c2, .int .i64 c3, .bool true, .bool false] 63 (0, 0)) := part3 hr10_4 _ _ _ rfl
    have hsz := HU10.out.size
    have HUx := below_put3 (k := y0.heap.size) HU10.out (by first | omega | (simp at *; omega)) (.int .i64 x1) (.int .i64 x2) (.int .i64 x3)
    have hO : ∀ kk, kk ≠ y0.heap.size → (((y10.setCell ⟨y0.heap.size, 0, none⟩ (.int .i64 x1)).setCell ⟨y0.heap.size, 1, none⟩ (.int .i64 x2)).setCell ⟨y0.heap.size, 2, none⟩ (.int .i64 x3)).heap[kk]? = y10.heap[kk]? := fun kk hk => put3_other _ _ _ _ _ hk
    obtain ⟨y11, hy11⟩ : ∃ y, ((y10.setCell ⟨y0.heap.size, 0, none⟩ (.int .i64 x1)).setCell ⟨y0.heap.size, 1, none⟩ (.int .i64 x2)).setCell ⟨y0.heap.size, 2, none⟩ (.int .i64 x3) = y := ⟨_, rfl⟩
    rw [hy11] at hN HUx hO ⊢
    clear hy11
    have HU11 := Lib.hid HUx
    clear HUx
    have hr11_0 := (hO _ (by omega)).trans hr10_0
    have hr11_1 := (hO _ (by omega)).trans hr10_1
    have hr11_2 := (hO _ (by omega)).trans hr10_2
    have hr11_3 := (hO _ (by omega)).trans hr10_3
    have hr11_4 := hN
    have hr11_5 := (hO _ (by omega)).trans hr10_5
    clear hN
    refine hK.out _ _ (⟨(hO _ (by omega)).trans hS10c.1, (hO _ (by omega)).trans hS10c.2.1, (hO _ (by omega)).trans hS10c.2.2⟩) (fun hS11p => ?_)
    clear hK K
    refine wpAnyH_take (i := 8) (v := ?_) rfl (by kernel_rfl) (by kernel_rfl) (by kernel_rfl) (fun _ _ _ h => h) (Or.inl ⟨by kernel_rfl, by (intro wz hSz; go_simp; try with_reducible rfl)⟩) hS11p ?_
    go_simp
    refine wpAnyH_ready (rs := [9]) (by kernel_rfl) (by simp) ?_
    refine AllReadyH.cons rfl (fun K hK => ?_) AllReadyH.nil
    have p0 := cell_of_row _ _ 7 _ _ _ hr11_4
    simp at p0
    have fz : ∀ j, y11.frozen? ⟨y0.heap.size, j, none⟩ = false := fun j => by simp [World.frozen?, hr11_4]
    go_simp
    clear fz p0
    have hN : (y11.setCell ⟨y0.heap.size, 7, none⟩ (.bool true)).heap[y0.heap.size]? = some (.cells #[.int .i64 x1, .int .i64 x2, .int .i64 x3, .int .i64 c1, .int .i64 c2, .int .i64 c3, .bool true, .bool true] 63 (0, 0)) := heap_setCell_same _ _ 7 _ _ _ hr11_4
    have hsz := HU11.out.size
    have HUx : Below w.heap.size w (y11.setCell ⟨y0.heap.size, 7, none⟩ (.bool true)) := HU11.out.setCell (by show w.heap.size ≤ y0.heap.size; omega) _
    have hO : ∀ kk, kk ≠ y0.heap.size → (y11.setCell ⟨y0.heap.size, 7, none⟩ (.bool true)).heap[kk]? = y11.heap[kk]? := fun kk hk => Below.heap_setCell _ _ _ _ hk
    obtain ⟨y12, hy12⟩ : ∃ y, y11.setCell ⟨y0.heap.size, 7, none⟩ (.bool true) = y := ⟨_, rfl⟩
    rw [hy12] at hN HUx hO ⊢
    clear hy12
    have HU12 := Lib.hid HUx
    clear HUx
    have hr12_0 := (hO _ (by omega)).trans hr11_0
    have hr12_1 := (hO _ (by omega)).trans hr11_1
    have hr12_2 := (hO _ (by omega)).trans hr11_2
    have hr12_3 := (hO _ (by omega)).trans hr11_3
    have hr12_4 := hN
    have hr12_5 := (hO _ (by omega)).trans hr11_5
    clear hN
    refine hK.out _ _ (⟨(hO _ (by omega)).trans hS11p.1, (hO _ (by omega)).trans hS11p.2.1, (hO _ (by omega)).trans hS11p.2.2⟩) (fun hS12k => ?_)
    clear hK K
    refine wpAnyH_done (by kernel_rfl) ?_ _
    go_upto_region 11 with fail
    have c2_0 := cell_of_row _ _ 0 _ _ _ hr12_2
    have c2_1 := cell_of_row _ _ 1 _ _ _ hr12_2
    have c2_2 := cell_of_row _ _ 2 _ _ _ hr12_2
    have c4_0 := cell_of_row _ _ 0 _ _ _ hr12_4
    have c4_1 := cell_of_row _ _ 1 _ _ _ hr12_4
    have c4_2 := cell_of_row _ _ 2 _ _ _ hr12_4
    have c4_3 := cell_of_row _ _ 3 _ _ _ hr12_4
    have c4_4 := cell_of_row _ _ 4 _ _ _ hr12_4
    have c4_5 := cell_of_row _ _ 5 _ _ _ hr12_4
    have c4_6 := cell_of_row _ _ 6 _ _ _ hr12_4
    have c4_7 := cell_of_row _ _ 7 _ _ _ hr12_4
    simp at c2_0 c2_1 c2_2 c4_0 c4_1 c4_2 c4_3 c4_4 c4_5 c4_6 c4_7
    go_wp2_with fail
    refine (hT _).mono ?_
    rintro e y13 ⟨rfl, hb13⟩
    clear c2_0 c2_1 c2_2 c4_0 c4_1 c4_2 c4_3 c4_4 c4_5 c4_6 c4_7
    have hr13_0 := (hb13.block _ (lt_heap hr12_0)).trans hr12_0
    have hr13_1 := (hb13.block _ (lt_heap hr12_1)).trans hr12_1
    have hr13_2 := (hb13.block _ (lt_heap hr12_2)).trans hr12_2
    have hr13_3 := (hb13.block _ (lt_heap hr12_3)).trans hr12_3
    have hr13_4 := (hb13.block _ (lt_heap hr12_4)).trans hr12_4
    have hr13_5 := (hb13.block _ (lt_heap hr12_5)).trans hr12_5
    have HU13 := Lib.hid (HU12.out.trans (hb13.mono HU12.out.size))
    clear hr12_0 hr12_1 hr12_2 hr12_3 hr12_4 hr12_5 HU12
    have c4_0 := cell_of_row _ _ 0 _ _ _ hr13_4
    have c4_1 := cell_of_row _ _ 1 _ _ _ hr13_4
    have c4_2 := cell_of_row _ _ 2 _ _ _ hr13_4
    have c4_3 := cell_of_row _ _ 3 _ _ _ hr13_4
    have c4_4 := cell_of_row _ _ 4 _ _ _ hr13_4
    have c4_5 := cell_of_row _ _ 5 _ _ _ hr13_4
    have c4_6 := cell_of_row _ _ 6 _ _ _ hr13_4
    have c4_7 := cell_of_row _ _ 7 _ _ _ hr13_4
    simp at c4_0 c4_1 c4_2 c4_3 c4_4 c4_5 c4_6 c4_7
    go_upto_region 12 with fail
    clear c4_0 c4_1 c4_2 c4_3 c4_4 c4_5 c4_6 c4_7
    have hHr := Lib.hid hr13_3
    have hHi := Lib.hid (show (Try.prog.info? 63).map (·.size) = some (#[.int .i64 0, .int .i64 0, .int .i64 0, .int .i64 0, .int .i64 0, .int .i64 0, .bool false, .bool false] : Array Value).size by kernel_rfl)
    have hHz := Lib.hid (show (#[.int .i64 0, .int .i64 0, .int .i64 0, .int .i64 0, .int .i64 0, .int .i64 0, .bool false, .bool false] : Array Value).size = (#[.int .i64 0, .int .i64 0, .int .i64 0, .int .i64 0, .int .i64 0, .int .i64 0, .bool false, .bool false] : Array Value).size from rfl)
    have hHo := Lib.hid (show (#[.int .i64 0, .int .i64 0, .int .i64 0, .int .i64 0, .int .i64 0, .int .i64 0, .bool false, .bool false] : Array Value).all (·.oneCell') = true by simp [Value.oneCell'])
    go_wp2_with (first | (refine Au.wpList_store_row rfl 63 (.tmp 10) (.tmp 56) rfl y13 #[.int .i64 0, .int .i64 0, .int .i64 0, .int .i64 0, .int .i64 0, .int .i64 0, .bool false, .bool false] #[.int .i64 0, .int .i64 0, .int .i64 0, .int .i64 0, .int .i64 0, .int .i64 0, .bool false, .bool false] (w.heap.size + 1 + 1 + 1) 63 hHr.out rfl rfl hHi.out hHz.out hHo.out ?_))
    clear hHr hHi hHz hHo
    have hN := setRow_heap _ (w.heap.size + 1 + 1 + 1) _ #[.int .i64 0, .int .i64 0, .int .i64 0, .int .i64 0, .int .i64 0, .int .i64 0, .bool false, .bool false] _ _ hr13_3
    have hsz := HU13.out.size
    have HUx := below_setRow (g := w.heap.size + 1 + 1 + 1) HU13.out (by first | omega | (simp at *; omega)) #[.int .i64 0, .int .i64 0, .int .i64 0, .int .i64 0, .int .i64 0, .int .i64 0, .bool false, .bool false]
    have hO : ∀ kk, kk ≠ w.heap.size + 1 + 1 + 1 → (y13.setRow (w.heap.size + 1 + 1 + 1) #[.int .i64 0, .int .i64 0, .int .i64 0, .int .i64 0, .int .i64 0, .int .i64 0, .bool false, .bool false]).heap[kk]? = y13.heap[kk]? := fun kk hk => setRow_other _ _ _ _ hk
    obtain ⟨y14, hy14⟩ : ∃ y, y13.setRow (w.heap.size + 1 + 1 + 1) #[.int .i64 0, .int .i64 0, .int .i64 0, .int .i64 0, .int .i64 0, .int .i64 0, .bool false, .bool false] = y := ⟨_, rfl⟩
    rw [hy14] at hN HUx hO ⊢
    clear hy14 hsz
    have HU14 := Lib.hid HUx
    clear HUx
    have hr14_0 := (hO _ (by omega)).trans hr13_0
    have hr14_1 := (hO _ (by omega)).trans hr13_1
    have hr14_2 := (hO _ (by omega)).trans hr13_2
    have hr14_3 := hN
    have hr14_4 := (hO _ (by omega)).trans hr13_4
    have hr14_5 := (hO _ (by omega)).trans hr13_5
    clear hN hO
    clear hr13_0 hr13_1 hr13_2 hr13_3 hr13_4 hr13_5 HU13
    have c3_0 := cell_of_row _ _ 0 _ _ _ hr14_3
    have c3_1 := cell_of_row _ _ 1 _ _ _ hr14_3
    have c3_2 := cell_of_row _ _ 2 _ _ _ hr14_3
    have c3_3 := cell_of_row _ _ 3 _ _ _ hr14_3
    have c3_4 := cell_of_row _ _ 4 _ _ _ hr14_3
    have c3_5 := cell_of_row _ _ 5 _ _ _ hr14_3
    have c3_6 := cell_of_row _ _ 6 _ _ _ hr14_3
    have c3_7 := cell_of_row _ _ 7 _ _ _ hr14_3
    simp at c3_0 c3_1 c3_2 c3_3 c3_4 c3_5 c3_6 c3_7
    go_wp2
    exact bodyPost_ret (v := .agg #[.int .i64 0, .int .i64 0, .int .i64 0, .int .i64 0, .int .i64 0, .int .i64 0, .bool false, .bool false]) (by simp [results, Try.results16, go_sem, c3_0, c3_1, c3_2, c3_3, c3_4, c3_5, c3_6, c3_7]) rfl ⟨rfl, HU14.out⟩

set_option maxHeartbeats 4000000 in
set_option maxRecDepth 100000 in
theorem bounce_other (c1 c2 c3 ro d1_ d2_ d3_ n1 n2 n3 u v k : Int) (h0 : ¬ k = 0) (h1 : ¬ k = 1) (h2 : ¬ k = 2) (w : World)  : Calls Try.prog 16 #[.agg #[.int .i64 k, .int .i64 c1, .int .i64 c2, .int .i64 c3, .int .i64 ro], .agg #[.int .i64 d1_, .int .i64 d2_, .int .i64 d3_], .agg #[.int .i64 n1, .int .i64 n2, .int .i64 n3], .int .i64 u, .int .i64 v] w fun e' w' => e' = .returned (.agg #[.int .i64 0, .int .i64 0, .int .i64 0, .int .i64 0, .int .i64 0, .int .i64 0, .bool false, .bool false]) ∧ Below w.heap.size w w' := by
  have d0 : (k == 0) = false := by simpa using h0
  have d1 : (k == 1) = false := by simpa using h1
  have d2 : (k == 2) = false := by simpa using h2
  go_enter Try.func16, Try.ntmps16
  go_upto_region 1 with fail
  have hR := Au.rows4 w (.cells #[.int .i64 k, .int .i64 c1, .int .i64 c2, .int .i64 c3, .int .i64 ro] 66) (.cells #[.int .i64 d1_, .int .i64 d2_, .int .i64 d3_] 39) (.cells #[.int .i64 n1, .int .i64 n2, .int .i64 n3] 39) (.cells #[.int .i64 0, .int .i64 0, .int .i64 0, .int .i64 0, .int .i64 0, .int .i64 0, .bool false, .bool false] 63)
  have HUx := below_n4 w (.cells #[.int .i64 k, .int .i64 c1, .int .i64 c2, .int .i64 c3, .int .i64 ro] 66) (.cells #[.int .i64 d1_, .int .i64 d2_, .int .i64 d3_] 39) (.cells #[.int .i64 n1, .int .i64 n2, .int .i64 n3] 39) (.cells #[.int .i64 0, .int .i64 0, .int .i64 0, .int .i64 0, .int .i64 0, .int .i64 0, .bool false, .bool false] 63)
  obtain ⟨y0, hy0⟩ : ∃ y0, (((w.alloc (.cells #[.int .i64 k, .int .i64 c1, .int .i64 c2, .int .i64 c3, .int .i64 ro] 66)).alloc (.cells #[.int .i64 d1_, .int .i64 d2_, .int .i64 d3_] 39)).alloc (.cells #[.int .i64 n1, .int .i64 n2, .int .i64 n3] 39)).alloc (.cells #[.int .i64 0, .int .i64 0, .int .i64 0, .int .i64 0, .int .i64 0, .int .i64 0, .bool false, .bool false] 63) = y0 := ⟨_, rfl⟩
  rw [hy0] at hR HUx ⊢
  clear hy0
  have HU0 := Lib.hid HUx
  clear HUx
  obtain ⟨hr0_0, hr0_1, hr0_2, hr0_3⟩ := hR
  have c0_0 := cell_of_row _ _ 0 _ _ _ hr0_0
  have c0_1 := cell_of_row _ _ 1 _ _ _ hr0_0
  have c0_2 := cell_of_row _ _ 2 _ _ _ hr0_0
  have c0_3 := cell_of_row _ _ 3 _ _ _ hr0_0
  have c0_4 := cell_of_row _ _ 4 _ _ _ hr0_0
  simp at c0_0 c0_1 c0_2 c0_3 c0_4
  have HA := Lib.hid (heap_alloc_last y0 (.cells #[.int .i64 0, .int .i64 0, .int .i64 0, .int .i64 0, .int .i64 0, .int .i64 0, .bool false, .bool false] 63))
  have hHi := Lib.hid (show (Try.prog.info? 63).map (·.size) = some (#[.int .i64 0, .int .i64 0, .int .i64 0, .int .i64 c1, .int .i64 c2, .int .i64 c3, .bool true, .bool false] : Array Value).size by kernel_rfl)
  have hHz := Lib.hid (show (#[.int .i64 0, .int .i64 0, .int .i64 0, .int .i64 0, .int .i64 0, .int .i64 0, .bool false, .bool false] : Array Value).size = (#[.int .i64 0, .int .i64 0, .int .i64 0, .int .i64 c1, .int .i64 c2, .int .i64 c3, .bool true, .bool false] : Array Value).size from rfl)
  have hHo := Lib.hid (show (#[.int .i64 0, .int .i64 0, .int .i64 0, .int .i64 c1, .int .i64 c2, .int .i64 c3, .bool true, .bool false] : Array Value).all (·.oneCell') = true by simp [Value.oneCell'])
  go_upto_region 2 with (refine Au.wpList_store_row rfl 63 (.tmp 11) (.tmp 15) rfl (y0.alloc (.cells #[.int .i64 0, .int .i64 0, .int .i64 0, .int .i64 0, .int .i64 0, .int .i64 0, .bool false, .bool false] 63)) #[.int .i64 0, .int .i64 0, .int .i64 0, .int .i64 0, .int .i64 0, .int .i64 0, .bool false, .bool false] #[.int .i64 0, .int .i64 0, .int .i64 0, .int .i64 c1, .int .i64 c2, .int .i64 c3, .bool true, .bool false] (y0.heap.size) 63 HA.out rfl rfl hHi.out hHz.out hHo.out ?_)
  clear c0_0 c0_1 c0_2 c0_3 c0_4
  clear hHi hHz hHo
  have hN := setRow_heap _ (y0.heap.size) _ #[.int .i64 0, .int .i64 0, .int .i64 0, .int .i64 c1, .int .i64 c2, .int .i64 c3, .bool true, .bool false] _ _ HA.out
  clear HA
  have hsz := HU0.out.size
  have hb := below_n1 y0 (.cells #[.int .i64 0, .int .i64 0, .int .i64 0, .int .i64 0, .int .i64 0, .int .i64 0, .bool false, .bool false] 63)
  have HUx := below_setRow (g := y0.heap.size) (HU0.out.trans (hb.mono HU0.out.size)) (by omega) #[.int .i64 0, .int .i64 0, .int .i64 0, .int .i64 c1, .int .i64 c2, .int .i64 c3, .bool true, .bool false]
  have hO : ∀ kk, kk < y0.heap.size → ((y0.alloc (.cells #[.int .i64 0, .int .i64 0, .int .i64 0, .int .i64 0, .int .i64 0, .int .i64 0, .bool false, .bool false] 63)).setRow (y0.heap.size) #[.int .i64 0, .int .i64 0, .int .i64 0, .int .i64 c1, .int .i64 c2, .int .i64 c3, .bool true, .bool false]).heap[kk]? = y0.heap[kk]? := fun kk hk => (setRow_other _ _ _ _ (by omega)).trans (hb.block _ hk)
  obtain ⟨y1, hy1⟩ : ∃ y, (y0.alloc (.cells #[.int .i64 0, .int .i64 0, .int .i64 0, .int .i64 0, .int .i64 0, .int .i64 0, .bool false, .bool false] 63)).setRow (y0.heap.size) #[.int .i64 0, .int .i64 0, .int .i64 0, .int .i64 c1, .int .i64 c2, .int .i64 c3, .bool true, .bool false] = y := ⟨_, rfl⟩
  have hs1 : y1.heap.size = y0.heap.size + 1 := by rw [← hy1]; simp [World.setRow]
  rw [hy1] at hN HUx hO ⊢
  clear hy1 hsz hb
  have HU1 := Lib.hid HUx
  clear HUx
  have hl1_0 := lt_heap hr0_0
  have hr1_0 := (hO _ hl1_0).trans hr0_0
  have hl1_1 := lt_heap hr0_1
  have hr1_1 := (hO _ hl1_1).trans hr0_1
  have hl1_2 := lt_heap hr0_2
  have hr1_2 := (hO _ hl1_2).trans hr0_2
  have hl1_3 := lt_heap hr0_3
  have hr1_3 := (hO _ hl1_3).trans hr0_3
  have hr1_4 := hN
  clear hN hO
  clear hr0_0 hr0_1 hr0_2 hr0_3 HU0
  have c0_0 := cell_of_row _ _ 0 _ _ _ hr1_0
  have c0_1 := cell_of_row _ _ 1 _ _ _ hr1_0
  have c0_2 := cell_of_row _ _ 2 _ _ _ hr1_0
  have c0_3 := cell_of_row _ _ 3 _ _ _ hr1_0
  have c0_4 := cell_of_row _ _ 4 _ _ _ hr1_0
  simp at c0_0 c0_1 c0_2 c0_3 c0_4
  go_upto_region 3 with fail
  clear c0_0 c0_1 c0_2 c0_3 c0_4
  have hHr := Lib.hid hr1_3
  have hHi := Lib.hid (show (Try.prog.info? 63).map (·.size) = some (#[.int .i64 0, .int .i64 0, .int .i64 0, .int .i64 0, .int .i64 0, .int .i64 0, .bool false, .bool false] : Array Value).size by kernel_rfl)
  have hHz := Lib.hid (show (#[.int .i64 0, .int .i64 0, .int .i64 0, .int .i64 0, .int .i64 0, .int .i64 0, .bool false, .bool false] : Array Value).size = (#[.int .i64 0, .int .i64 0, .int .i64 0, .int .i64 0, .int .i64 0, .int .i64 0, .bool false, .bool false] : Array Value).size from rfl)
  have hHo := Lib.hid (show (#[.int .i64 0, .int .i64 0, .int .i64 0, .int .i64 0, .int .i64 0, .int .i64 0, .bool false, .bool false] : Array Value).all (·.oneCell') = true by simp [Value.oneCell'])
  go_wp2_with (first | (refine Au.wpList_store_row rfl 63 (.tmp 10) (.tmp 18) rfl y1 #[.int .i64 0, .int .i64 0, .int .i64 0, .int .i64 0, .int .i64 0, .int .i64 0, .bool false, .bool false] #[.int .i64 0, .int .i64 0, .int .i64 0, .int .i64 0, .int .i64 0, .int .i64 0, .bool false, .bool false] (w.heap.size + 1 + 1 + 1) 63 hHr.out rfl rfl hHi.out hHz.out hHo.out ?_))
  clear hHr hHi hHz hHo
  have hN := setRow_heap _ (w.heap.size + 1 + 1 + 1) _ #[.int .i64 0, .int .i64 0, .int .i64 0, .int .i64 0, .int .i64 0, .int .i64 0, .bool false, .bool false] _ _ hr1_3
  have hsz := HU1.out.size
  have HUx := below_setRow (g := w.heap.size + 1 + 1 + 1) HU1.out (by first | omega | (simp at *; omega)) #[.int .i64 0, .int .i64 0, .int .i64 0, .int .i64 0, .int .i64 0, .int .i64 0, .bool false, .bool false]
  have hO : ∀ kk, kk ≠ w.heap.size + 1 + 1 + 1 → (y1.setRow (w.heap.size + 1 + 1 + 1) #[.int .i64 0, .int .i64 0, .int .i64 0, .int .i64 0, .int .i64 0, .int .i64 0, .bool false, .bool false]).heap[kk]? = y1.heap[kk]? := fun kk hk => setRow_other _ _ _ _ hk
  obtain ⟨y2, hy2⟩ : ∃ y, y1.setRow (w.heap.size + 1 + 1 + 1) #[.int .i64 0, .int .i64 0, .int .i64 0, .int .i64 0, .int .i64 0, .int .i64 0, .bool false, .bool false] = y := ⟨_, rfl⟩
  rw [hy2] at hN HUx hO ⊢
  clear hy2 hsz
  have HU2 := Lib.hid HUx
  clear HUx
  have hr2_0 := (hO _ (by omega)).trans hr1_0
  have hr2_1 := (hO _ (by omega)).trans hr1_1
  have hr2_2 := (hO _ (by omega)).trans hr1_2
  have hr2_3 := hN
  have hr2_4 := (hO _ (by omega)).trans hr1_4
  clear hN hO
  clear hr1_0 hr1_1 hr1_2 hr1_3 hr1_4 HU1
  have c3_0 := cell_of_row _ _ 0 _ _ _ hr2_3
  have c3_1 := cell_of_row _ _ 1 _ _ _ hr2_3
  have c3_2 := cell_of_row _ _ 2 _ _ _ hr2_3
  have c3_3 := cell_of_row _ _ 3 _ _ _ hr2_3
  have c3_4 := cell_of_row _ _ 4 _ _ _ hr2_3
  have c3_5 := cell_of_row _ _ 5 _ _ _ hr2_3
  have c3_6 := cell_of_row _ _ 6 _ _ _ hr2_3
  have c3_7 := cell_of_row _ _ 7 _ _ _ hr2_3
  simp at c3_0 c3_1 c3_2 c3_3 c3_4 c3_5 c3_6 c3_7
  go_wp2
  exact bodyPost_ret (v := .agg #[.int .i64 0, .int .i64 0, .int .i64 0, .int .i64 0, .int .i64 0, .int .i64 0, .bool false, .bool false]) (by simp [results, Try.results16, go_sem, c3_0, c3_1, c3_2, c3_3, c3_4, c3_5, c3_6, c3_7]) rfl ⟨rfl, HU2.out⟩

end Go.Proofs.Ytplcbdmiccpnnaa.Co
