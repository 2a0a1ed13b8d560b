/- Boxes: shapes from one side to the other; all that a pair holds. -/
import Derived.Test.YtoppcnkfgmbpfaaE13
import Derived.Test.YtoppcnkfgmbpfaaE14
import Derived.Test.YtoppcnkfgmbpfaaE16
import Derived.Test.YtoppcnkfgmbpfaaE21
namespace Go.Proofs.Ytoppcnkfgmbpfaa.Bx
open Go.RowKit Go.Proofs.Ytoppcnkfgmbpfaa Go.Proofs.Ytoppcnkfgmbpfaa.Wa Go.Proofs.Ytoppcnkfgmbpfaa.Ve Go.Proofs.Ytoppcnkfgmbpfaa.Au
set_option linter.unusedVariables false
set_option linter.unusedSimpArgs false

/-- six numbers by their place -/
def six (a b c d e f : Int) (n : Nat) : Int := [a, b, c, d, e, f].getD n 0

set_option maxHeartbeats 2000000 in
set_option maxRecDepth 100000 in
theorem whole_any (a0 a1 a2 a3 a4 a5 a6 a7 a8 a9 a10 a11 : Int) (w : World)  : Calls Try.prog 38 #[.agg #[.int .i64 a0, .int .i64 a1, .int .i64 a2, .int .i64 a3, .int .i64 a4, .int .i64 a5, .int .i64 a6, .int .i64 a7, .int .i64 a8, .int .i64 a9, .int .i64 a10, .int .i64 a11]] w fun e' w' => e' = .returned (.agg #[.int .i64 (min a0 a6), .int .i64 (min a1 a7), .int .i64 (min a2 a8), .int .i64 (max a3 a9), .int .i64 (max a4 a10), .int .i64 (max a5 a11)]) ∧ Below w.heap.size w w' := by
  go_enter Try.func38, Try.ntmps38
  go_upto_region 1 with fail
  have hR := Au.rows2 w (.cells #[.int .i64 a0, .int .i64 a1, .int .i64 a2, .int .i64 a3, .int .i64 a4, .int .i64 a5, .int .i64 a6, .int .i64 a7, .int .i64 a8, .int .i64 a9, .int .i64 a10, .int .i64 a11] 43) (.cells #[.int .i64 0, .int .i64 0, .int .i64 0, .int .i64 0, .int .i64 0, .int .i64 0] 41)
  have HUx := below_n2 w (.cells #[.int .i64 a0, .int .i64 a1, .int .i64 a2, .int .i64 a3, .int .i64 a4, .int .i64 a5, .int .i64 a6, .int .i64 a7, .int .i64 a8, .int .i64 a9, .int .i64 a10, .int .i64 a11] 43) (.cells #[.int .i64 0, .int .i64 0, .int .i64 0, .int .i64 0, .int .i64 0, .int .i64 0] 41)
  obtain ⟨y0, hy0⟩ : ∃ y0, (w.alloc (.cells #[.int .i64 a0, .int .i64 a1, .int .i64 a2, .int .i64 a3, .int .i64 a4, .int .i64 a5, .int .i64 a6, .int .i64 a7, .int .i64 a8, .int .i64 a9, .int .i64 a10, .int .i64 a11] 43)).alloc (.cells #[.int .i64 0, .int .i64 0, .int .i64 0, .int .i64 0, .int .i64 0, .int .i64 0] 41) = y0 := ⟨_, rfl⟩
  rw [hy0] at hR HUx ⊢
  clear hy0
  have HU0 := Lib.hid HUx
  clear HUx
  obtain ⟨hr0_0, hr0_1⟩ := hR
  have c0_0 := cell_of_row _ _ 0 _ _ _ hr0_0
  have c0_1 := cell_of_row _ _ 1 _ _ _ hr0_0
  have c0_2 := cell_of_row _ _ 2 _ _ _ hr0_0
  have c0_3 := cell_of_row _ _ 3 _ _ _ hr0_0
  have c0_4 := cell_of_row _ _ 4 _ _ _ hr0_0
  have c0_5 := cell_of_row _ _ 5 _ _ _ hr0_0
  have c0_6 := cell_of_row _ _ 6 _ _ _ hr0_0
  have c0_7 := cell_of_row _ _ 7 _ _ _ hr0_0
  have c0_8 := cell_of_row _ _ 8 _ _ _ hr0_0
  have c0_9 := cell_of_row _ _ 9 _ _ _ hr0_0
  have c0_10 := cell_of_row _ _ 10 _ _ _ hr0_0
  have c0_11 := cell_of_row _ _ 11 _ _ _ hr0_0
  have c1_0 := cell_of_row _ _ 0 _ _ _ hr0_1
  have c1_1 := cell_of_row _ _ 1 _ _ _ hr0_1
  have c1_2 := cell_of_row _ _ 2 _ _ _ hr0_1
  have c1_3 := cell_of_row _ _ 3 _ _ _ hr0_1
  have c1_4 := cell_of_row _ _ 4 _ _ _ hr0_1
  have c1_5 := cell_of_row _ _ 5 _ _ _ hr0_1
  simp at c0_0 c0_1 c0_2 c0_3 c0_4 c0_5 c0_6 c0_7 c0_8 c0_9 c0_10 c0_11 c1_0 c1_1 c1_2 c1_3 c1_4 c1_5
  go_wp2_with fail
  clear c0_0 c0_1 c0_2 c0_3 c0_4 c0_5 c0_6 c0_7 c0_8 c0_9 c0_10 c0_11 c1_0 c1_1 c1_2 c1_3 c1_4 c1_5
  have hb1 := below_n1 y0 (.cells #[.int .i64 a6, .int .i64 a7, .int .i64 a8, .int .i64 a9, .int .i64 a10, .int .i64 a11] 41)
  have hN := heap_alloc_last y0 (.cells #[.int .i64 a6, .int .i64 a7, .int .i64 a8, .int .i64 a9, .int .i64 a10, .int .i64 a11] 41)
  obtain ⟨y1, hy1⟩ : ∃ y, y0.alloc (.cells #[.int .i64 a6, .int .i64 a7, .int .i64 a8, .int .i64 a9, .int .i64 a10, .int .i64 a11] 41) = y := ⟨_, rfl⟩
  have hs1 : y1.heap.size = y0.heap.size + 1 := by rw [← hy1]; simp
  rw [hy1] at hb1 hN ⊢
  clear hy1
  have hl1_0 := lt_heap hr0_0
  have hl1_1 := lt_heap hr0_1
  have hr1_0 := (hb1.block _ (lt_heap hr0_0)).trans hr0_0
  have hr1_1 := (hb1.block _ (lt_heap hr0_1)).trans hr0_1
  have HU1 := Lib.hid (HU0.out.trans (hb1.mono HU0.out.size))
  clear hr0_0 hr0_1 HU0
  have hr1_2 := hN
  clear hN
  refine (bjoin_any _ _ _ _ _ _ (.slice (some ⟨y0.heap.size, 0, none⟩) 1 1) 1 (six a6 a7 a8 a9 a10 a11) (by omega) _ (.inr ⟨y0.heap.size, 0, 1, rfl, lt_heap hr1_2, fun j hj => by match j, hj with | 0, _ => exact cell_of_row _ _ 0 _ _ _ hr1_2 | 1, _ => exact cell_of_row _ _ 1 _ _ _ hr1_2 | 2, _ => exact cell_of_row _ _ 2 _ _ _ hr1_2 | 3, _ => exact cell_of_row _ _ 3 _ _ _ hr1_2 | 4, _ => exact cell_of_row _ _ 4 _ _ _ hr1_2 | 5, _ => exact cell_of_row _ _ 5 _ _ _ hr1_2⟩)).mono ?_
  rintro e y2 ⟨rfl, hb2⟩
  have hr2_0 := (hb2.block _ (lt_heap hr1_0)).trans hr1_0
  have hr2_1 := (hb2.block _ (lt_heap hr1_1)).trans hr1_1
  have hr2_2 := (hb2.block _ (lt_heap hr1_2)).trans hr1_2
  have HU2 := Lib.hid (HU1.out.trans (hb2.mono HU1.out.size))
  clear hr1_0 hr1_1 hr1_2 HU1
  have c0_0 := cell_of_row _ _ 0 _ _ _ hr2_0
  have c0_1 := cell_of_row _ _ 1 _ _ _ hr2_0
  have c0_2 := cell_of_row _ _ 2 _ _ _ hr2_0
  have c0_3 := cell_of_row _ _ 3 _ _ _ hr2_0
  have c0_4 := cell_of_row _ _ 4 _ _ _ hr2_0
  have c0_5 := cell_of_row _ _ 5 _ _ _ hr2_0
  have c0_6 := cell_of_row _ _ 6 _ _ _ hr2_0
  have c0_7 := cell_of_row _ _ 7 _ _ _ hr2_0
  have c0_8 := cell_of_row _ _ 8 _ _ _ hr2_0
  have c0_9 := cell_of_row _ _ 9 _ _ _ hr2_0
  have c0_10 := cell_of_row _ _ 10 _ _ _ hr2_0
  have c0_11 := cell_of_row _ _ 11 _ _ _ hr2_0
  have c1_0 := cell_of_row _ _ 0 _ _ _ hr2_1
  have c1_1 := cell_of_row _ _ 1 _ _ _ hr2_1
  have c1_2 := cell_of_row _ _ 2 _ _ _ hr2_1
  have c1_3 := cell_of_row _ _ 3 _ _ _ hr2_1
  have c1_4 := cell_of_row _ _ 4 _ _ _ hr2_1
  have c1_5 := cell_of_row _ _ 5 _ _ _ hr2_1
  have c2_0 := cell_of_row _ _ 0 _ _ _ hr2_2
  have c2_1 := cell_of_row _ _ 1 _ _ _ hr2_2
  have c2_2 := cell_of_row _ _ 2 _ _ _ hr2_2
  have c2_3 := cell_of_row _ _ 3 _ _ _ hr2_2
  have c2_4 := cell_of_row _ _ 4 _ _ _ hr2_2
  have c2_5 := cell_of_row _ _ 5 _ _ _ hr2_2
  simp at c0_0 c0_1 c0_2 c0_3 c0_4 c0_5 c0_6 c0_7 c0_8 c0_9 c0_10 c0_11 c1_0 c1_1 c1_2 c1_3 c1_4 c1_5 c2_0 c2_1 c2_2 c2_3 c2_4 c2_5
  have hHr := Lib.hid hr2_1
  have hHi := Lib.hid (show (Try.prog.info? 41).map (·.size) = some (#[.int .i64 (min a0 a6), .int .i64 (min a1 a7), .int .i64 (min a2 a8), .int .i64 (max a3 a9), .int .i64 (max a4 a10), .int .i64 (max a5 a11)] : Array Value).size by kernel_rfl)
  have hHz := Lib.hid (show (#[.int .i64 0, .int .i64 0, .int .i64 0, .int .i64 0, .int .i64 0, .int .i64 0] : Array Value).size = (#[.int .i64 (min a0 a6), .int .i64 (min a1 a7), .int .i64 (min a2 a8), .int .i64 (max a3 a9), .int .i64 (max a4 a10), .int .i64 (max a5 a11)] : Array Value).size from rfl)
  have hHo := Lib.hid (show (#[.int .i64 (min a0 a6), .int .i64 (min a1 a7), .int .i64 (min a2 a8), .int .i64 (max a3 a9), .int .i64 (max a4 a10), .int .i64 (max a5 a11)] : Array Value).all (·.oneCell') = true by simp [Value.oneCell'])
  go_wp2_with (first | (refine Au.wpList_store_row rfl 41 (.tmp 2) (.tmp 8) rfl y2 #[.int .i64 0, .int .i64 0, .int .i64 0, .int .i64 0, .int .i64 0, .int .i64 0] #[.int .i64 (min a0 a6), .int .i64 (min a1 a7), .int .i64 (min a2 a8), .int .i64 (max a3 a9), .int .i64 (max a4 a10), .int .i64 (max a5 a11)] (w.heap.size + 1) 41 hHr.out rfl rfl hHi.out hHz.out hHo.out ?_))
  clear c0_0 c0_1 c0_2 c0_3 c0_4 c0_5 c0_6 c0_7 c0_8 c0_9 c0_10 c0_11 c1_0 c1_1 c1_2 c1_3 c1_4 c1_5 c2_0 c2_1 c2_2 c2_3 c2_4 c2_5
  clear hHr hHi hHz hHo
  have hN := setRow_heap _ (w.heap.size + 1) _ #[.int .i64 (min a0 a6), .int .i64 (min a1 a7), .int .i64 (min a2 a8), .int .i64 (max a3 a9), .int .i64 (max a4 a10), .int .i64 (max a5 a11)] _ _ hr2_1
  have hsz := HU2.out.size
  have HUx := below_setRow (g := w.heap.size + 1) HU2.out (by first | omega | (simp at *; omega)) #[.int .i64 (min a0 a6), .int .i64 (min a1 a7), .int .i64 (min a2 a8), .int .i64 (max a3 a9), .int .i64 (max a4 a10), .int .i64 (max a5 a11)]
  have hO : ∀ kk, kk ≠ w.heap.size + 1 → (y2.setRow (w.heap.size + 1) #[.int .i64 (min a0 a6), .int .i64 (min a1 a7), .int .i64 (min a2 a8), .int .i64 (max a3 a9), .int .i64 (max a4 a10), .int .i64 (max a5 a11)]).heap[kk]? = y2.heap[kk]? := fun kk hk => setRow_other _ _ _ _ hk
  obtain ⟨y3, hy3⟩ : ∃ y, y2.setRow (w.heap.size + 1) #[.int .i64 (min a0 a6), .int .i64 (min a1 a7), .int .i64 (min a2 a8), .int .i64 (max a3 a9), .int .i64 (max a4 a10), .int .i64 (max a5 a11)] = y := ⟨_, rfl⟩
  rw [hy3] at hN HUx hO ⊢
  clear hy3 hsz
  have HU3 := Lib.hid HUx
  clear HUx
  have hr3_0 := (hO _ (by omega)).trans hr2_0
  have hr3_1 := hN
  have hr3_2 := (hO _ (by omega)).trans hr2_2
  clear hN hO
  clear hr2_0 hr2_1 hr2_2 HU2
  have c1_0 := cell_of_row _ _ 0 _ _ _ hr3_1
  have c1_1 := cell_of_row _ _ 1 _ _ _ hr3_1
  have c1_2 := cell_of_row _ _ 2 _ _ _ hr3_1
  have c1_3 := cell_of_row _ _ 3 _ _ _ hr3_1
  have c1_4 := cell_of_row _ _ 4 _ _ _ hr3_1
  have c1_5 := cell_of_row _ _ 5 _ _ _ hr3_1
  simp at c1_0 c1_1 c1_2 c1_3 c1_4 c1_5
  go_wp2
  exact bodyPost_ret (v := .agg #[.int .i64 (min a0 a6), .int .i64 (min a1 a7), .int .i64 (min a2 a8), .int .i64 (max a3 a9), .int .i64 (max a4 a10), .int .i64 (max a5 a11)]) (by simp [results, Try.results38, go_sem, c1_0, c1_1, c1_2, c1_3, c1_4, c1_5]) rfl ⟨rfl, HU3.out⟩

theorem lo6_two (L : Nat → Int) (i : Nat) : lo6 L i 2 = min (L i) (L (6 + i)) := by
  show min (min (L i) (L (0 * 6 + i))) (L (1 * 6 + i)) = _
  rw [show 0 * 6 + i = i by omega, show 1 * 6 + i = 6 + i by omega]
  omega

theorem hi6_two (L : Nat → Int) (i : Nat) : hi6 L i 2 = max (L (3 + i)) (L (6 + (3 + i))) := by
  show max (max (L (3 + i)) (L (0 * 6 + (3 + i)))) (L (1 * 6 + (3 + i))) = _
  rw [show 0 * 6 + (3 + i) = 3 + i by omega, show 1 * 6 + (3 + i) = 6 + (3 + i) by omega]
  omega

/-- the document's box of two -/
theorem rjoin_two (g cap : Nat) (L : Nat → Int) (w : World) (hg : g < w.heap.size) (hp : ∀ j, j < 12 → w.cell? ⟨g, j, none⟩ = some (.int .i64 (L j))) :
    Calls Try.prog 50 #[.slice (some ⟨g, 0, none⟩) 2 cap] w fun e w' => e = .returned (.agg #[.int .i64 (min (L 0) (L 6)), .int .i64 (min (L 1) (L 7)), .int .i64 (min (L 2) (L 8)), .int .i64 (max (L 3) (L 9)), .int .i64 (max (L 4) (L 10)), .int .i64 (max (L 5) (L 11))]) ∧ Below w.heap.size w w' := by
  have h := rjoin_row g 0 2 cap L (by omega) (by omega) w hg (fun j hj => by rw [Nat.zero_add]; exact hp j hj)
  simp only [lo6_two, hi6_two] at h
  exact h

end Go.Proofs.Ytoppcnkfgmbpfaa.Bx
