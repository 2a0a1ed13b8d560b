/- Boxes: the pair about a moving shape, by the program. -/
import Derived.Test.YthlcfhnlkpobhaaBd
import Derived.Test.YthlcfhnlkpobhaaBs
import Derived.Test.YthlcfhnlkpobhaaRr
namespace Go.Proofs.Ythlcfhnlkpobhaa.Bx
open Go.RowKit Go.Proofs.Ythlcfhnlkpobhaa Go.Proofs.Ythlcfhnlkpobhaa.Wa Go.Proofs.Ythlcfhnlkpobhaa.Ve Go.Proofs.Ythlcfhnlkpobhaa.Au
set_option linter.unusedVariables false
set_option linter.unusedSimpArgs false

/-- what may reach an end: two boxes' corners, and how far two shapes go -/
def l18 (a b c d e f g h i j k l r s : Int) (n : Nat) : Int := [a, b, c, d, e, f, g, h, i, j, k, l, r, r, r, s, s, s].getD n 0

set_option maxHeartbeats 2000000 in
set_option maxRecDepth 100000 in
theorem ball_any  (w : World)  : Calls Try.prog 71 #[] w fun e' w' => e' = .returned (.agg #[.int .i64 (-2147483648), .int .i64 (-2147483648), .int .i64 (-2147483648), .int .i64 2147483648, .int .i64 2147483648, .int .i64 2147483648]) ∧ Below w.heap.size w w' := by
  go_enter Try.func71, Try.ntmps71
  go_upto_region 1 with fail
  have hR := Au.rows1 w (.cells #[.int .i64 0, .int .i64 0, .int .i64 0, .int .i64 0, .int .i64 0, .int .i64 0] 73)
  have HUx := below_n1 w (.cells #[.int .i64 0, .int .i64 0, .int .i64 0, .int .i64 0, .int .i64 0, .int .i64 0] 73)
  obtain ⟨y0, hy0⟩ : ∃ y0, w.alloc (.cells #[.int .i64 0, .int .i64 0, .int .i64 0, .int .i64 0, .int .i64 0, .int .i64 0] 73) = y0 := ⟨_, rfl⟩
  rw [hy0] at hR HUx ⊢
  clear hy0
  have HU0 := Lib.hid HUx
  clear HUx
  have hr0_0 := hR
  clear hR
  go_wp2_with fail
  refine (alike_any _ _).mono ?_
  rintro e y1 ⟨rfl, hb1⟩
  have hr1_0 := (hb1.block _ (lt_heap hr0_0)).trans hr0_0
  have HU1 := Lib.hid (HU0.out.trans (hb1.mono HU0.out.size))
  clear hr0_0 HU0
  go_wp2_with fail
  refine (alike_any _ _).mono ?_
  rintro e y2 ⟨rfl, hb2⟩
  have hr2_0 := (hb2.block _ (lt_heap hr1_0)).trans hr1_0
  have HU2 := Lib.hid (HU1.out.trans (hb2.mono HU1.out.size))
  clear hr1_0 HU1
  have c0_0 := cell_of_row _ _ 0 _ _ _ hr2_0
  have c0_1 := cell_of_row _ _ 1 _ _ _ hr2_0
  have c0_2 := cell_of_row _ _ 2 _ _ _ hr2_0
  have c0_3 := cell_of_row _ _ 3 _ _ _ hr2_0
  have c0_4 := cell_of_row _ _ 4 _ _ _ hr2_0
  have c0_5 := cell_of_row _ _ 5 _ _ _ hr2_0
  simp at c0_0 c0_1 c0_2 c0_3 c0_4 c0_5
  have hHr := Lib.hid hr2_0
  have hHi := Lib.hid (show (Try.prog.info? 73).map (·.size) = some (#[.int .i64 (-2147483648), .int .i64 (-2147483648), .int .i64 (-2147483648), .int .i64 2147483648, .int .i64 2147483648, .int .i64 2147483648] : Array Value).size by kernel_rfl)
  have hHz := Lib.hid (show (#[.int .i64 0, .int .i64 0, .int .i64 0, .int .i64 0, .int .i64 0, .int .i64 0] : Array Value).size = (#[.int .i64 (-2147483648), .int .i64 (-2147483648), .int .i64 (-2147483648), .int .i64 2147483648, .int .i64 2147483648, .int .i64 2147483648] : Array Value).size from rfl)
  have hHo := Lib.hid (show (#[.int .i64 (-2147483648), .int .i64 (-2147483648), .int .i64 (-2147483648), .int .i64 2147483648, .int .i64 2147483648, .int .i64 2147483648] : Array Value).all (·.oneCell') = true by simp [Value.oneCell'])
  go_wp2_with (first | (refine Au.wpList_store_row rfl 73 (.tmp 0) (.tmp 3) rfl y2 #[.int .i64 0, .int .i64 0, .int .i64 0, .int .i64 0, .int .i64 0, .int .i64 0] #[.int .i64 (-2147483648), .int .i64 (-2147483648), .int .i64 (-2147483648), .int .i64 2147483648, .int .i64 2147483648, .int .i64 2147483648] (w.heap.size) 73 hHr.out rfl rfl hHi.out hHz.out hHo.out ?_))
  clear c0_0 c0_1 c0_2 c0_3 c0_4 c0_5
  clear hHr hHi hHz hHo
  have hN := setRow_heap _ (w.heap.size) _ #[.int .i64 (-2147483648), .int .i64 (-2147483648), .int .i64 (-2147483648), .int .i64 2147483648, .int .i64 2147483648, .int .i64 2147483648] _ _ hr2_0
  have hsz := HU2.out.size
  have HUx := below_setRow (g := w.heap.size) HU2.out (by first | omega | (simp at *; omega)) #[.int .i64 (-2147483648), .int .i64 (-2147483648), .int .i64 (-2147483648), .int .i64 2147483648, .int .i64 2147483648, .int .i64 2147483648]
  have hO : ∀ kk, kk ≠ w.heap.size → (y2.setRow (w.heap.size) #[.int .i64 (-2147483648), .int .i64 (-2147483648), .int .i64 (-2147483648), .int .i64 2147483648, .int .i64 2147483648, .int .i64 2147483648]).heap[kk]? = y2.heap[kk]? := fun kk hk => setRow_other _ _ _ _ hk
  obtain ⟨y3, hy3⟩ : ∃ y, y2.setRow (w.heap.size) #[.int .i64 (-2147483648), .int .i64 (-2147483648), .int .i64 (-2147483648), .int .i64 2147483648, .int .i64 2147483648, .int .i64 2147483648] = y := ⟨_, rfl⟩
  rw [hy3] at hN HUx hO ⊢
  clear hy3 hsz
  have HU3 := Lib.hid HUx
  clear HUx
  have hr3_0 := hN
  clear hN hO
  clear hr2_0 HU2
  have c0_0 := cell_of_row _ _ 0 _ _ _ hr3_0
  have c0_1 := cell_of_row _ _ 1 _ _ _ hr3_0
  have c0_2 := cell_of_row _ _ 2 _ _ _ hr3_0
  have c0_3 := cell_of_row _ _ 3 _ _ _ hr3_0
  have c0_4 := cell_of_row _ _ 4 _ _ _ hr3_0
  have c0_5 := cell_of_row _ _ 5 _ _ _ hr3_0
  simp at c0_0 c0_1 c0_2 c0_3 c0_4 c0_5
  go_wp2
  exact bodyPost_ret (v := .agg #[.int .i64 (-2147483648), .int .i64 (-2147483648), .int .i64 (-2147483648), .int .i64 2147483648, .int .i64 2147483648, .int .i64 2147483648]) (by simp [results, Try.results71, go_sem, c0_0, c0_1, c0_2, c0_3, c0_4, c0_5]) rfl ⟨rfl, HU3.out⟩

set_option maxHeartbeats 8000000 in
set_option maxRecDepth 100000 in
theorem bmoving_ball (a1 a2 a3 a4 a5 a6 a7 a8 a9 a10 a11 a12 a13 a14 a15 a16 a17 a18 a19 a20 a21 a22 a23 : Int) (w : World)  : Calls Try.prog 24 #[.agg #[.int .i64 0, .int .i64 a1, .int .i64 a2, .int .i64 a3, .int .i64 a4, .int .i64 a5, .int .i64 a6, .int .i64 a7, .int .i64 a8, .int .i64 a9, .int .i64 a10, .int .i64 a11, .int .i64 a12, .int .i64 a13, .int .i64 a14, .int .i64 a15, .int .i64 a16, .int .i64 a17, .int .i64 a18, .int .i64 a19, .int .i64 a20, .int .i64 a21, .int .i64 a22, .int .i64 a23]] w fun e' w' => e' = .returned (if anyE (l18 (Pl.sub a2 (Pl.add a11 8192)) (Pl.sub a3 (Pl.add a11 8192)) (Pl.sub a4 (Pl.add a11 8192)) (Pl.add a2 (Pl.add a11 8192)) (Pl.add a3 (Pl.add a11 8192)) (Pl.add a4 (Pl.add a11 8192)) (Pl.sub a14 (Pl.add a23 8192)) (Pl.sub a15 (Pl.add a23 8192)) (Pl.sub a16 (Pl.add a23 8192)) (Pl.add a14 (Pl.add a23 8192)) (Pl.add a15 (Pl.add a23 8192)) (Pl.add a16 (Pl.add a23 8192)) (Pl.add a11 8192) (Pl.add a23 8192)) 6 = true then .agg #[.int .i64 (-2147483648), .int .i64 (-2147483648), .int .i64 (-2147483648), .int .i64 2147483648, .int .i64 2147483648, .int .i64 2147483648, .int .i64 (-2147483648), .int .i64 (-2147483648), .int .i64 (-2147483648), .int .i64 2147483648, .int .i64 2147483648, .int .i64 2147483648] else .agg #[.int .i64 (Pl.sub a2 (Pl.add a11 8192)), .int .i64 (Pl.sub a3 (Pl.add a11 8192)), .int .i64 (Pl.sub a4 (Pl.add a11 8192)), .int .i64 (Pl.add a2 (Pl.add a11 8192)), .int .i64 (Pl.add a3 (Pl.add a11 8192)), .int .i64 (Pl.add a4 (Pl.add a11 8192)), .int .i64 (Pl.sub a14 (Pl.add a23 8192)), .int .i64 (Pl.sub a15 (Pl.add a23 8192)), .int .i64 (Pl.sub a16 (Pl.add a23 8192)), .int .i64 (Pl.add a14 (Pl.add a23 8192)), .int .i64 (Pl.add a15 (Pl.add a23 8192)), .int .i64 (Pl.add a16 (Pl.add a23 8192))]) ∧ Below w.heap.size w w' := by
  go_enter Try.func24, Try.ntmps24
  go_upto_region 1 with fail
  have hR := Au.rows2 w (.cells #[.int .i64 0, .int .i64 a1, .int .i64 a2, .int .i64 a3, .int .i64 a4, .int .i64 a5, .int .i64 a6, .int .i64 a7, .int .i64 a8, .int .i64 a9, .int .i64 a10, .int .i64 a11, .int .i64 a12, .int .i64 a13, .int .i64 a14, .int .i64 a15, .int .i64 a16, .int .i64 a17, .int .i64 a18, .int .i64 a19, .int .i64 a20, .int .i64 a21, .int .i64 a22, .int .i64 a23] 91) (.cells #[.int .i64 0, .int .i64 0, .int .i64 0, .int .i64 0, .int .i64 0, .int .i64 0, .int .i64 0, .int .i64 0, .int .i64 0, .int .i64 0, .int .i64 0, .int .i64 0] 75)
  have HUx := below_n2 w (.cells #[.int .i64 0, .int .i64 a1, .int .i64 a2, .int .i64 a3, .int .i64 a4, .int .i64 a5, .int .i64 a6, .int .i64 a7, .int .i64 a8, .int .i64 a9, .int .i64 a10, .int .i64 a11, .int .i64 a12, .int .i64 a13, .int .i64 a14, .int .i64 a15, .int .i64 a16, .int .i64 a17, .int .i64 a18, .int .i64 a19, .int .i64 a20, .int .i64 a21, .int .i64 a22, .int .i64 a23] 91) (.cells #[.int .i64 0, .int .i64 0, .int .i64 0, .int .i64 0, .int .i64 0, .int .i64 0, .int .i64 0, .int .i64 0, .int .i64 0, .int .i64 0, .int .i64 0, .int .i64 0] 75)
  obtain ⟨y0, hy0⟩ : ∃ y0, (w.alloc (.cells #[.int .i64 0, .int .i64 a1, .int .i64 a2, .int .i64 a3, .int .i64 a4, .int .i64 a5, .int .i64 a6, .int .i64 a7, .int .i64 a8, .int .i64 a9, .int .i64 a10, .int .i64 a11, .int .i64 a12, .int .i64 a13, .int .i64 a14, .int .i64 a15, .int .i64 a16, .int .i64 a17, .int .i64 a18, .int .i64 a19, .int .i64 a20, .int .i64 a21, .int .i64 a22, .int .i64 a23] 91)).alloc (.cells #[.int .i64 0, .int .i64 0, .int .i64 0, .int .i64 0, .int .i64 0, .int .i64 0, .int .i64 0, .int .i64 0, .int .i64 0, .int .i64 0, .int .i64 0, .int .i64 0] 75) = y0 := ⟨_, rfl⟩
  rw [hy0] at hR HUx ⊢
  clear hy0
  have HU0 := Lib.hid HUx
  clear HUx
  obtain ⟨hr0_0, hr0_1⟩ := hR
  have c0_0 := cell_of_row _ _ 0 _ _ _ hr0_0
  have c0_1 := cell_of_row _ _ 1 _ _ _ hr0_0
  have c0_2 := cell_of_row _ _ 2 _ _ _ hr0_0
  have c0_3 := cell_of_row _ _ 3 _ _ _ hr0_0
  have c0_4 := cell_of_row _ _ 4 _ _ _ hr0_0
  have c0_5 := cell_of_row _ _ 5 _ _ _ hr0_0
  have c0_6 := cell_of_row _ _ 6 _ _ _ hr0_0
  have c0_7 := cell_of_row _ _ 7 _ _ _ hr0_0
  have c0_8 := cell_of_row _ _ 8 _ _ _ hr0_0
  have c0_9 := cell_of_row _ _ 9 _ _ _ hr0_0
  have c0_10 := cell_of_row _ _ 10 _ _ _ hr0_0
  have c0_11 := cell_of_row _ _ 11 _ _ _ hr0_0
  have c0_12 := cell_of_row _ _ 12 _ _ _ hr0_0
  have c0_13 := cell_of_row _ _ 13 _ _ _ hr0_0
  have c0_14 := cell_of_row _ _ 14 _ _ _ hr0_0
  have c0_15 := cell_of_row _ _ 15 _ _ _ hr0_0
  have c0_16 := cell_of_row _ _ 16 _ _ _ hr0_0
  have c0_17 := cell_of_row _ _ 17 _ _ _ hr0_0
  have c0_18 := cell_of_row _ _ 18 _ _ _ hr0_0
  have c0_19 := cell_of_row _ _ 19 _ _ _ hr0_0
  have c0_20 := cell_of_row _ _ 20 _ _ _ hr0_0
  have c0_21 := cell_of_row _ _ 21 _ _ _ hr0_0
  have c0_22 := cell_of_row _ _ 22 _ _ _ hr0_0
  have c0_23 := cell_of_row _ _ 23 _ _ _ hr0_0
  have c1_0 := cell_of_row _ _ 0 _ _ _ hr0_1
  have c1_1 := cell_of_row _ _ 1 _ _ _ hr0_1
  have c1_2 := cell_of_row _ _ 2 _ _ _ hr0_1
  have c1_3 := cell_of_row _ _ 3 _ _ _ hr0_1
  have c1_4 := cell_of_row _ _ 4 _ _ _ hr0_1
  have c1_5 := cell_of_row _ _ 5 _ _ _ hr0_1
  have c1_6 := cell_of_row _ _ 6 _ _ _ hr0_1
  have c1_7 := cell_of_row _ _ 7 _ _ _ hr0_1
  have c1_8 := cell_of_row _ _ 8 _ _ _ hr0_1
  have c1_9 := cell_of_row _ _ 9 _ _ _ hr0_1
  have c1_10 := cell_of_row _ _ 10 _ _ _ hr0_1
  have c1_11 := cell_of_row _ _ 11 _ _ _ hr0_1
  simp at c0_0 c0_1 c0_2 c0_3 c0_4 c0_5 c0_6 c0_7 c0_8 c0_9 c0_10 c0_11 c0_12 c0_13 c0_14 c0_15 c0_16 c0_17 c0_18 c0_19 c0_20 c0_21 c0_22 c0_23 c1_0 c1_1 c1_2 c1_3 c1_4 c1_5 c1_6 c1_7 c1_8 c1_9 c1_10 c1_11
  go_upto_region 2 with fail
  clear c0_0 c0_1 c0_2 c0_3 c0_4 c0_5 c0_6 c0_7 c0_8 c0_9 c0_10 c0_11 c0_12 c0_13 c0_14 c0_15 c0_16 c0_17 c0_18 c0_19 c0_20 c0_21 c0_22 c0_23 c1_0 c1_1 c1_2 c1_3 c1_4 c1_5 c1_6 c1_7 c1_8 c1_9 c1_10 c1_11
  have hb1 := below_n1 y0 (.cells #[.int .i64 a12, .int .i64 a13, .int .i64 a14, .int .i64 a15, .int .i64 a16, .int .i64 a17, .int .i64 a18, .int .i64 a19, .int .i64 a20, .int .i64 a21, .int .i64 a22, .int .i64 a23] 89)
  have hN := heap_alloc_last y0 (.cells #[.int .i64 a12, .int .i64 a13, .int .i64 a14, .int .i64 a15, .int .i64 a16, .int .i64 a17, .int .i64 a18, .int .i64 a19, .int .i64 a20, .int .i64 a21, .int .i64 a22, .int .i64 a23] 89)
  obtain ⟨y1, hy1⟩ : ∃ y, y0.alloc (.cells #[.int .i64 a12, .int .i64 a13, .int .i64 a14, .int .i64 a15, .int .i64 a16, .int .i64 a17, .int .i64 a18, .int .i64 a19, .int .i64 a20, .int .i64 a21, .int .i64 a22, .int .i64 a23] 89) = y := ⟨_, rfl⟩
  have hs1 : y1.heap.size = y0.heap.size + 1 := by rw [← hy1]; simp
  rw [hy1] at hb1 hN ⊢
  clear hy1
  have hl1_0 := lt_heap hr0_0
  have hl1_1 := lt_heap hr0_1
  have hr1_0 := (hb1.block _ (lt_heap hr0_0)).trans hr0_0
  have hr1_1 := (hb1.block _ (lt_heap hr0_1)).trans hr0_1
  have HU1 := Lib.hid (HU0.out.trans (hb1.mono HU0.out.size))
  clear hr0_0 hr0_1 HU0
  have hr1_2 := hN
  clear hN
  have c0_0 := cell_of_row _ _ 0 _ _ _ hr1_0
  have c0_1 := cell_of_row _ _ 1 _ _ _ hr1_0
  have c0_2 := cell_of_row _ _ 2 _ _ _ hr1_0
  have c0_3 := cell_of_row _ _ 3 _ _ _ hr1_0
  have c0_4 := cell_of_row _ _ 4 _ _ _ hr1_0
  have c0_5 := cell_of_row _ _ 5 _ _ _ hr1_0
  have c0_6 := cell_of_row _ _ 6 _ _ _ hr1_0
  have c0_7 := cell_of_row _ _ 7 _ _ _ hr1_0
  have c0_8 := cell_of_row _ _ 8 _ _ _ hr1_0
  have c0_9 := cell_of_row _ _ 9 _ _ _ hr1_0
  have c0_10 := cell_of_row _ _ 10 _ _ _ hr1_0
  have c0_11 := cell_of_row _ _ 11 _ _ _ hr1_0
  have c0_12 := cell_of_row _ _ 12 _ _ _ hr1_0
  have c0_13 := cell_of_row _ _ 13 _ _ _ hr1_0
  have c0_14 := cell_of_row _ _ 14 _ _ _ hr1_0
  have c0_15 := cell_of_row _ _ 15 _ _ _ hr1_0
  have c0_16 := cell_of_row _ _ 16 _ _ _ hr1_0
  have c0_17 := cell_of_row _ _ 17 _ _ _ hr1_0
  have c0_18 := cell_of_row _ _ 18 _ _ _ hr1_0
  have c0_19 := cell_of_row _ _ 19 _ _ _ hr1_0
  have c0_20 := cell_of_row _ _ 20 _ _ _ hr1_0
  have c0_21 := cell_of_row _ _ 21 _ _ _ hr1_0
  have c0_22 := cell_of_row _ _ 22 _ _ _ hr1_0
  have c0_23 := cell_of_row _ _ 23 _ _ _ hr1_0
  have c2_0 := cell_of_row _ _ 0 _ _ _ hr1_2
  have c2_1 := cell_of_row _ _ 1 _ _ _ hr1_2
  have c2_2 := cell_of_row _ _ 2 _ _ _ hr1_2
  have c2_3 := cell_of_row _ _ 3 _ _ _ hr1_2
  have c2_4 := cell_of_row _ _ 4 _ _ _ hr1_2
  have c2_5 := cell_of_row _ _ 5 _ _ _ hr1_2
  have c2_6 := cell_of_row _ _ 6 _ _ _ hr1_2
  have c2_7 := cell_of_row _ _ 7 _ _ _ hr1_2
  have c2_8 := cell_of_row _ _ 8 _ _ _ hr1_2
  have c2_9 := cell_of_row _ _ 9 _ _ _ hr1_2
  have c2_10 := cell_of_row _ _ 10 _ _ _ hr1_2
  have c2_11 := cell_of_row _ _ 11 _ _ _ hr1_2
  simp at c0_0 c0_1 c0_2 c0_3 c0_4 c0_5 c0_6 c0_7 c0_8 c0_9 c0_10 c0_11 c0_12 c0_13 c0_14 c0_15 c0_16 c0_17 c0_18 c0_19 c0_20 c0_21 c0_22 c0_23 c2_0 c2_1 c2_2 c2_3 c2_4 c2_5 c2_6 c2_7 c2_8 c2_9 c2_10 c2_11
  have fz : ∀ j, y1.frozen? ⟨y0.heap.size, j, none⟩ = false := fun j => by simp [World.frozen?, hr1_2]
  go_upto_region 3 with fail
  clear fz
  clear c0_0 c0_1 c0_2 c0_3 c0_4 c0_5 c0_6 c0_7 c0_8 c0_9 c0_10 c0_11 c0_12 c0_13 c0_14 c0_15 c0_16 c0_17 c0_18 c0_19 c0_20 c0_21 c0_22 c0_23 c2_0 c2_1 c2_2 c2_3 c2_4 c2_5 c2_6 c2_7 c2_8 c2_9 c2_10 c2_11
  have hN : (y1.setCell ⟨y0.heap.size, 0, none⟩ (.int .i64 0)).heap[y0.heap.size]? = some (.cells #[.int .i64 0, .int .i64 a13, .int .i64 a14, .int .i64 a15, .int .i64 a16, .int .i64 a17, .int .i64 a18, .int .i64 a19, .int .i64 a20, .int .i64 a21, .int .i64 a22, .int .i64 a23] 89 (0, 0)) := heap_setCell_same _ _ 0 _ _ _ hr1_2
  have hO : ∀ kk, kk ≠ y0.heap.size → (y1.setCell ⟨y0.heap.size, 0, none⟩ (.int .i64 0)).heap[kk]? = y1.heap[kk]? := fun kk hk => Below.heap_setCell _ _ _ _ hk
  have HUx : Below w.heap.size w (y1.setCell ⟨y0.heap.size, 0, none⟩ (.int .i64 0)) := HU1.out.setCell (by show w.heap.size ≤ y0.heap.size; omega) _
  obtain ⟨y2, hy2⟩ : ∃ y, y1.setCell ⟨y0.heap.size, 0, none⟩ (.int .i64 0) = y := ⟨_, rfl⟩
  rw [hy2] at hN hO HUx ⊢
  clear hy2
  have HU2 := Lib.hid HUx
  have hr2_0 := (hO _ (by omega)).trans hr1_0
  have hr2_1 := (hO _ (by omega)).trans hr1_1
  have hr2_2 := hN
  clear hN hO HUx
  clear hr1_0 hr1_1 hr1_2 HU1
  go_cut [4] (fun s4 wx => ∃ gp : Nat, s4 = .pointer (some ⟨gp, 0, none⟩) ∧ y0.heap.size < gp ∧ wx.heap[gp]? = some (.cells #[.int .i64 (Pl.sub a2 (Pl.add a11 8192)), .int .i64 (Pl.sub a3 (Pl.add a11 8192)), .int .i64 (Pl.sub a4 (Pl.add a11 8192)), .int .i64 (Pl.add a2 (Pl.add a11 8192)), .int .i64 (Pl.add a3 (Pl.add a11 8192)), .int .i64 (Pl.add a4 (Pl.add a11 8192)), .int .i64 (Pl.sub a14 (Pl.add a23 8192)), .int .i64 (Pl.sub a15 (Pl.add a23 8192)), .int .i64 (Pl.sub a16 (Pl.add a23 8192)), .int .i64 (Pl.add a14 (Pl.add a23 8192)), .int .i64 (Pl.add a15 (Pl.add a23 8192)), .int .i64 (Pl.add a16 (Pl.add a23 8192))] 75 (0, 0)) ∧ wx.heap[w.heap.size]? = some (.cells #[.int .i64 0, .int .i64 a1, .int .i64 a2, .int .i64 a3, .int .i64 a4, .int .i64 a5, .int .i64 a6, .int .i64 a7, .int .i64 a8, .int .i64 a9, .int .i64 a10, .int .i64 a11, .int .i64 a12, .int .i64 a13, .int .i64 a14, .int .i64 a15, .int .i64 a16, .int .i64 a17, .int .i64 a18, .int .i64 a19, .int .i64 a20, .int .i64 a21, .int .i64 a22, .int .i64 a23] 91 (0, 0)) ∧ wx.heap[w.heap.size + 1]? = some (.cells #[.int .i64 0, .int .i64 0, .int .i64 0, .int .i64 0, .int .i64 0, .int .i64 0, .int .i64 0, .int .i64 0, .int .i64 0, .int .i64 0, .int .i64 0, .int .i64 0] 75 (0, 0)) ∧ wx.heap[y0.heap.size]? = some (.cells #[.int .i64 0, .int .i64 a13, .int .i64 a14, .int .i64 a15, .int .i64 a16, .int .i64 a17, .int .i64 a18, .int .i64 a19, .int .i64 a20, .int .i64 a21, .int .i64 a22, .int .i64 a23] 89 (0, 0)) ∧ Hid (Below w.heap.size w wx))
  case first =>
    refine wp_region_held_drew (S := fun y => y.heap[w.heap.size]? = some (.cells #[.int .i64 0, .int .i64 a1, .int .i64 a2, .int .i64 a3, .int .i64 a4, .int .i64 a5, .int .i64 a6, .int .i64 a7, .int .i64 a8, .int .i64 a9, .int .i64 a10, .int .i64 a11, .int .i64 a12, .int .i64 a13, .int .i64 a14, .int .i64 a15, .int .i64 a16, .int .i64 a17, .int .i64 a18, .int .i64 a19, .int .i64 a20, .int .i64 a21, .int .i64 a22, .int .i64 a23] 91 (0, 0)) ∧ y.heap[y0.heap.size]? = some (.cells #[.int .i64 0, .int .i64 a13, .int .i64 a14, .int .i64 a15, .int .i64 a16, .int .i64 a17, .int .i64 a18, .int .i64 a19, .int .i64 a20, .int .i64 a21, .int .i64 a22, .int .i64 a23] 89 (0, 0))) (by kernel_rfl) (⟨hr2_0, hr2_2⟩) (fun hS0 => ?_)
    obtain ⟨y3, hy3⟩ : ∃ y, y2.drew = y := ⟨_, rfl⟩
    have HU3 := Lib.hid (show Below w.heap.size w y3 by rw [← hy3]; exact HU2.out.drew)
    have hr3_0 : y3.heap[w.heap.size]? = some (.cells #[.int .i64 0, .int .i64 a1, .int .i64 a2, .int .i64 a3, .int .i64 a4, .int .i64 a5, .int .i64 a6, .int .i64 a7, .int .i64 a8, .int .i64 a9, .int .i64 a10, .int .i64 a11, .int .i64 a12, .int .i64 a13, .int .i64 a14, .int .i64 a15, .int .i64 a16, .int .i64 a17, .int .i64 a18, .int .i64 a19, .int .i64 a20, .int .i64 a21, .int .i64 a22, .int .i64 a23] 91 (0, 0)) := by rw [← hy3]; exact hr2_0
    have hr3_1 : y3.heap[w.heap.size + 1]? = some (.cells #[.int .i64 0, .int .i64 0, .int .i64 0, .int .i64 0, .int .i64 0, .int .i64 0, .int .i64 0, .int .i64 0, .int .i64 0, .int .i64 0, .int .i64 0, .int .i64 0] 75 (0, 0)) := by rw [← hy3]; exact hr2_1
    have hr3_2 : y3.heap[y0.heap.size]? = some (.cells #[.int .i64 0, .int .i64 a13, .int .i64 a14, .int .i64 a15, .int .i64 a16, .int .i64 a17, .int .i64 a18, .int .i64 a19, .int .i64 a20, .int .i64 a21, .int .i64 a22, .int .i64 a23] 89 (0, 0)) := by rw [← hy3]; exact hr2_2
    rw [hy3] at hS0 ⊢
    clear hy3
    refine wpAnyH_take (i := 0) (v := ?_) rfl (by kernel_rfl) (by kernel_rfl) (by kernel_rfl) (fun _ _ _ h => h) (Or.inl ⟨by kernel_rfl, by (intro wz hSz; go_simp; try with_reducible rfl)⟩) hS0 ?_
    go_simp
    refine wpAnyH_take (i := 1) (v := ?_) rfl (by kernel_rfl) (by kernel_rfl) (by kernel_rfl) (fun _ _ _ h => h) (Or.inl ⟨by kernel_rfl, by (intro wz hSz; have c0_0 := cell_of_row _ _ 0 _ _ _ hSz.1; have c0_1 := cell_of_row _ _ 1 _ _ _ hSz.1; have c0_2 := cell_of_row _ _ 2 _ _ _ hSz.1; have c0_3 := cell_of_row _ _ 3 _ _ _ hSz.1; have c0_4 := cell_of_row _ _ 4 _ _ _ hSz.1; have c0_5 := cell_of_row _ _ 5 _ _ _ hSz.1; have c0_6 := cell_of_row _ _ 6 _ _ _ hSz.1; have c0_7 := cell_of_row _ _ 7 _ _ _ hSz.1; have c0_8 := cell_of_row _ _ 8 _ _ _ hSz.1; have c0_9 := cell_of_row _ _ 9 _ _ _ hSz.1; have c0_10 := cell_of_row _ _ 10 _ _ _ hSz.1; have c0_11 := cell_of_row _ _ 11 _ _ _ hSz.1; have c0_12 := cell_of_row _ _ 12 _ _ _ hSz.1; have c0_13 := cell_of_row _ _ 13 _ _ _ hSz.1; have c0_14 := cell_of_row _ _ 14 _ _ _ hSz.1; have c0_15 := cell_of_row _ _ 15 _ _ _ hSz.1; have c0_16 := cell_of_row _ _ 16 _ _ _ hSz.1; have c0_17 := cell_of_row _ _ 17 _ _ _ hSz.1; have c0_18 := cell_of_row _ _ 18 _ _ _ hSz.1; have c0_19 := cell_of_row _ _ 19 _ _ _ hSz.1; have c0_20 := cell_of_row _ _ 20 _ _ _ hSz.1; have c0_21 := cell_of_row _ _ 21 _ _ _ hSz.1; have c0_22 := cell_of_row _ _ 22 _ _ _ hSz.1; have c0_23 := cell_of_row _ _ 23 _ _ _ hSz.1; have c2_0 := cell_of_row _ _ 0 _ _ _ hSz.2; have c2_1 := cell_of_row _ _ 1 _ _ _ hSz.2; have c2_2 := cell_of_row _ _ 2 _ _ _ hSz.2; have c2_3 := cell_of_row _ _ 3 _ _ _ hSz.2; have c2_4 := cell_of_row _ _ 4 _ _ _ hSz.2; have c2_5 := cell_of_row _ _ 5 _ _ _ hSz.2; have c2_6 := cell_of_row _ _ 6 _ _ _ hSz.2; have c2_7 := cell_of_row _ _ 7 _ _ _ hSz.2; have c2_8 := cell_of_row _ _ 8 _ _ _ hSz.2; have c2_9 := cell_of_row _ _ 9 _ _ _ hSz.2; have c2_10 := cell_of_row _ _ 10 _ _ _ hSz.2; have c2_11 := cell_of_row _ _ 11 _ _ _ hSz.2; simp at c0_0 c0_1 c0_2 c0_3 c0_4 c0_5 c0_6 c0_7 c0_8 c0_9 c0_10 c0_11 c0_12 c0_13 c0_14 c0_15 c0_16 c0_17 c0_18 c0_19 c0_20 c0_21 c0_22 c0_23 c2_0 c2_1 c2_2 c2_3 c2_4 c2_5 c2_6 c2_7 c2_8 c2_9 c2_10 c2_11; go_simp; try with_reducible rfl)⟩) hS0 ?_
    go_simp
    refine wpAnyH_take (i := 3) (v := ?_) rfl (by kernel_rfl) (by kernel_rfl) (by kernel_rfl) (fun _ _ _ h => h) (Or.inl ⟨by kernel_rfl, by (intro wz hSz; have c0_0 := cell_of_row _ _ 0 _ _ _ hSz.1; have c0_1 := cell_of_row _ _ 1 _ _ _ hSz.1; have c0_2 := cell_of_row _ _ 2 _ _ _ hSz.1; have c0_3 := cell_of_row _ _ 3 _ _ _ hSz.1; have c0_4 := cell_of_row _ _ 4 _ _ _ hSz.1; have c0_5 := cell_of_row _ _ 5 _ _ _ hSz.1; have c0_6 := cell_of_row _ _ 6 _ _ _ hSz.1; have c0_7 := cell_of_row _ _ 7 _ _ _ hSz.1; have c0_8 := cell_of_row _ _ 8 _ _ _ hSz.1; have c0_9 := cell_of_row _ _ 9 _ _ _ hSz.1; have c0_10 := cell_of_row _ _ 10 _ _ _ hSz.1; have c0_11 := cell_of_row _ _ 11 _ _ _ hSz.1; have c0_12 := cell_of_row _ _ 12 _ _ _ hSz.1; have c0_13 := cell_of_row _ _ 13 _ _ _ hSz.1; have c0_14 := cell_of_row _ _ 14 _ _ _ hSz.1; have c0_15 := cell_of_row _ _ 15 _ _ _ hSz.1; have c0_16 := cell_of_row _ _ 16 _ _ _ hSz.1; have c0_17 := cell_of_row _ _ 17 _ _ _ hSz.1; have c0_18 := cell_of_row _ _ 18 _ _ _ hSz.1; have c0_19 := cell_of_row _ _ 19 _ _ _ hSz.1; have c0_20 := cell_of_row _ _ 20 _ _ _ hSz.1; have c0_21 := cell_of_row _ _ 21 _ _ _ hSz.1; have c0_22 := cell_of_row _ _ 22 _ _ _ hSz.1; have c0_23 := cell_of_row _ _ 23 _ _ _ hSz.1; have c2_0 := cell_of_row _ _ 0 _ _ _ hSz.2; have c2_1 := cell_of_row _ _ 1 _ _ _ hSz.2; have c2_2 := cell_of_row _ _ 2 _ _ _ hSz.2; have c2_3 := cell_of_row _ _ 3 _ _ _ hSz.2; have c2_4 := cell_of_row _ _ 4 _ _ _ hSz.2; have c2_5 := cell_of_row _ _ 5 _ _ _ hSz.2; have c2_6 := cell_of_row _ _ 6 _ _ _ hSz.2; have c2_7 := cell_of_row _ _ 7 _ _ _ hSz.2; have c2_8 := cell_of_row _ _ 8 _ _ _ hSz.2; have c2_9 := cell_of_row _ _ 9 _ _ _ hSz.2; have c2_10 := cell_of_row _ _ 10 _ _ _ hSz.2; have c2_11 := cell_of_row _ _ 11 _ _ _ hSz.2; simp at c0_0 c0_1 c0_2 c0_3 c0_4 c0_5 c0_6 c0_7 c0_8 c0_9 c0_10 c0_11 c0_12 c0_13 c0_14 c0_15 c0_16 c0_17 c0_18 c0_19 c0_20 c0_21 c0_22 c0_23 c2_0 c2_1 c2_2 c2_3 c2_4 c2_5 c2_6 c2_7 c2_8 c2_9 c2_10 c2_11; go_simp; try with_reducible rfl)⟩) hS0 ?_
    go_simp
    refine wpAnyH_ready (rs := [2, 6]) (by kernel_rfl) (by simp) ?_
    refine AllReadyH.cons rfl (fun K hK => ?_) (AllReadyH.cons rfl (fun K hK => ?_) AllReadyH.nil)
    · skip
      go_simp
      go_wp2_with (go_at_call 42; refine (around_ball _ _ _ _ _ _ _ _ _ _ _ _ ).mono ?_; rintro e y4 ⟨rfl, hb4⟩)
      have hr4_0 := (hb4.block _ (lt_heap hr3_0)).trans hr3_0
      have hr4_1 := (hb4.block _ (lt_heap hr3_1)).trans hr3_1
      have hr4_2 := (hb4.block _ (lt_heap hr3_2)).trans hr3_2
      have HU4 := Lib.hid (HU3.out.trans (hb4.mono HU3.out.size))
      refine hK.out _ _ (⟨(hb4.block _ (lt_heap hS0.1)).trans hS0.1, (hb4.block _ (lt_heap hS0.2)).trans hS0.2⟩) (fun hS4c => ?_)
      clear hK K
      refine wpAnyH_ready (rs := [4, 6]) (by kernel_rfl) (by simp) ?_
      refine AllReadyH.cons rfl (fun K hK => ?_) (AllReadyH.cons rfl (fun K hK => ?_) AllReadyH.nil)
      · skip
        go_simp
        go_wp2_with (go_at_call 42; refine (around_ball _ _ _ _ _ _ _ _ _ _ _ _ ).mono ?_; rintro e y5 ⟨rfl, hb5⟩)
        have hr5_0 := (hb5.block _ (lt_heap hr4_0)).trans hr4_0
        have hr5_1 := (hb5.block _ (lt_heap hr4_1)).trans hr4_1
        have hr5_2 := (hb5.block _ (lt_heap hr4_2)).trans hr4_2
        have HU5 := Lib.hid (HU4.out.trans (hb5.mono HU4.out.size))
        refine hK.out _ _ (⟨(hb5.block _ (lt_heap hS4c.1)).trans hS4c.1, (hb5.block _ (lt_heap hS4c.2)).trans hS4c.2⟩) (fun hS5c => ?_)
        clear hK K
        refine wpAnyH_take (i := 5) (v := ?_) rfl (by kernel_rfl) (by kernel_rfl) (by kernel_rfl) (fun _ _ _ h => h) (Or.inl ⟨by kernel_rfl, by (intro wz hSz; go_simp; try with_reducible rfl)⟩) hS5c ?_
        go_simp
        refine wpAnyH_ready (rs := [6]) (by kernel_rfl) (by simp) ?_
        refine AllReadyH.cons rfl (fun K hK => ?_) AllReadyH.nil
        go_simp
        have hb6 := below_n1 y5 (.cells #[.int .i64 0, .int .i64 0, .int .i64 0, .int .i64 0, .int .i64 0, .int .i64 0, .int .i64 0, .int .i64 0, .int .i64 0, .int .i64 0, .int .i64 0, .int .i64 0] 75)
        have hN := heap_alloc_last y5 (.cells #[.int .i64 0, .int .i64 0, .int .i64 0, .int .i64 0, .int .i64 0, .int .i64 0, .int .i64 0, .int .i64 0, .int .i64 0, .int .i64 0, .int .i64 0, .int .i64 0] 75)
        obtain ⟨y6, hy6⟩ : ∃ y, y5.alloc (.cells #[.int .i64 0, .int .i64 0, .int .i64 0, .int .i64 0, .int .i64 0, .int .i64 0, .int .i64 0, .int .i64 0, .int .i64 0, .int .i64 0, .int .i64 0, .int .i64 0] 75) = y := ⟨_, rfl⟩
        rw [hy6] at hb6 hN ⊢
        clear hy6
        have hl6_0 := lt_heap hr5_0
        have hr6_0 := (hb6.block _ (lt_heap hr5_0)).trans hr5_0
        have hl6_1 := lt_heap hr5_1
        have hr6_1 := (hb6.block _ (lt_heap hr5_1)).trans hr5_1
        have hl6_2 := lt_heap hr5_2
        have hr6_2 := (hb6.block _ (lt_heap hr5_2)).trans hr5_2
        have hr6_3 := hN
        clear hN
        have HU6 := Lib.hid (HU5.out.trans (hb6.mono HU5.out.size))
        refine hK.out _ _ (⟨(hb6.block _ (lt_heap hS5c.1)).trans hS5c.1, (hb6.block _ (lt_heap hS5c.2)).trans hS5c.2⟩) (fun hS6a => ?_)
        clear hK K
        refine wpAnyH_ready (rs := [7]) (by kernel_rfl) (by simp) ?_
        refine AllReadyH.cons rfl (fun K hK => ?_) AllReadyH.nil
        refine step_store_row rfl 75 (.tmp 4) (.tmp 16) rfl #[.int .i64 0, .int .i64 0, .int .i64 0, .int .i64 0, .int .i64 0, .int .i64 0, .int .i64 0, .int .i64 0, .int .i64 0, .int .i64 0, .int .i64 0, .int .i64 0] #[.int .i64 (Pl.sub a2 (Pl.add a11 8192)), .int .i64 (Pl.sub a3 (Pl.add a11 8192)), .int .i64 (Pl.sub a4 (Pl.add a11 8192)), .int .i64 (Pl.add a2 (Pl.add a11 8192)), .int .i64 (Pl.add a3 (Pl.add a11 8192)), .int .i64 (Pl.add a4 (Pl.add a11 8192)), .int .i64 (Pl.sub a14 (Pl.add a23 8192)), .int .i64 (Pl.sub a15 (Pl.add a23 8192)), .int .i64 (Pl.sub a16 (Pl.add a23 8192)), .int .i64 (Pl.add a14 (Pl.add a23 8192)), .int .i64 (Pl.add a15 (Pl.add a23 8192)), .int .i64 (Pl.add a16 (Pl.add a23 8192))] _ 75 hr6_3 rfl (by first | rfl | (go_simp; done) | (go_simp; rfl)) (by kernel_rfl) rfl (by simp [Value.oneCell']) ?_
        have hN := setRow_heap _ (y5.heap.size) _ #[.int .i64 (Pl.sub a2 (Pl.add a11 8192)), .int .i64 (Pl.sub a3 (Pl.add a11 8192)), .int .i64 (Pl.sub a4 (Pl.add a11 8192)), .int .i64 (Pl.add a2 (Pl.add a11 8192)), .int .i64 (Pl.add a3 (Pl.add a11 8192)), .int .i64 (Pl.add a4 (Pl.add a11 8192)), .int .i64 (Pl.sub a14 (Pl.add a23 8192)), .int .i64 (Pl.sub a15 (Pl.add a23 8192)), .int .i64 (Pl.sub a16 (Pl.add a23 8192)), .int .i64 (Pl.add a14 (Pl.add a23 8192)), .int .i64 (Pl.add a15 (Pl.add a23 8192)), .int .i64 (Pl.add a16 (Pl.add a23 8192))] _ _ hr6_3
        have hsz := HU6.out.size
        have HUx := below_setRow (g := y5.heap.size) HU6.out (by first | omega | (simp at *; omega)) #[.int .i64 (Pl.sub a2 (Pl.add a11 8192)), .int .i64 (Pl.sub a3 (Pl.add a11 8192)), .int .i64 (Pl.sub a4 (Pl.add a11 8192)), .int .i64 (Pl.add a2 (Pl.add a11 8192)), .int .i64 (Pl.add a3 (Pl.add a11 8192)), .int .i64 (Pl.add a4 (Pl.add a11 8192)), .int .i64 (Pl.sub a14 (Pl.add a23 8192)), .int .i64 (Pl.sub a15 (Pl.add a23 8192)), .int .i64 (Pl.sub a16 (Pl.add a23 8192)), .int .i64 (Pl.add a14 (Pl.add a23 8192)), .int .i64 (Pl.add a15 (Pl.add a23 8192)), .int .i64 (Pl.add a16 (Pl.add a23 8192))]
        obtain ⟨y7, hy7⟩ : ∃ y, y6.setRow (y5.heap.size) #[.int .i64 (Pl.sub a2 (Pl.add a11 8192)), .int .i64 (Pl.sub a3 (Pl.add a11 8192)), .int .i64 (Pl.sub a4 (Pl.add a11 8192)), .int .i64 (Pl.add a2 (Pl.add a11 8192)), .int .i64 (Pl.add a3 (Pl.add a11 8192)), .int .i64 (Pl.add a4 (Pl.add a11 8192)), .int .i64 (Pl.sub a14 (Pl.add a23 8192)), .int .i64 (Pl.sub a15 (Pl.add a23 8192)), .int .i64 (Pl.sub a16 (Pl.add a23 8192)), .int .i64 (Pl.add a14 (Pl.add a23 8192)), .int .i64 (Pl.add a15 (Pl.add a23 8192)), .int .i64 (Pl.add a16 (Pl.add a23 8192))] = y := ⟨_, rfl⟩
        have hO : ∀ k, k ≠ y5.heap.size → y7.heap[k]? = y6.heap[k]? := fun k hk => by rw [← hy7]; exact setRow_other _ _ _ _ hk
        rw [hy7] at hN HUx ⊢
        clear hy7
        have HU7 := Lib.hid HUx
        clear HUx
        have hr7_0 := (hO _ (by omega)).trans hr6_0
        have hr7_1 := (hO _ (by omega)).trans hr6_1
        have hr7_2 := (hO _ (by omega)).trans hr6_2
        have hr7_3 := hN
        clear hN
        refine hK.out _ _ (⟨(hO _ (by omega)).trans hS6a.1, (hO _ (by omega)).trans hS6a.2⟩) (fun hS7s => ?_)
        clear hK K
        refine wpAnyH_done (by kernel_rfl) ?_ _
        go_wp2_with fail
        go_meet
        exact ⟨_, rfl, by omega, hr7_3, hr7_0, hr7_1, hr7_2, HU7⟩
      · skip
        go_simp
        have hb5 := below_n1 y4 (.cells #[.int .i64 0, .int .i64 0, .int .i64 0, .int .i64 0, .int .i64 0, .int .i64 0, .int .i64 0, .int .i64 0, .int .i64 0, .int .i64 0, .int .i64 0, .int .i64 0] 75)
        have hN := heap_alloc_last y4 (.cells #[.int .i64 0, .int .i64 0, .int .i64 0, .int .i64 0, .int .i64 0, .int .i64 0, .int .i64 0, .int .i64 0, .int .i64 0, .int .i64 0, .int .i64 0, .int .i64 0] 75)
        obtain ⟨y5, hy5⟩ : ∃ y, y4.alloc (.cells #[.int .i64 0, .int .i64 0, .int .i64 0, .int .i64 0, .int .i64 0, .int .i64 0, .int .i64 0, .int .i64 0, .int .i64 0, .int .i64 0, .int .i64 0, .int .i64 0] 75) = y := ⟨_, rfl⟩
        rw [hy5] at hb5 hN ⊢
        clear hy5
        have hl5_0 := lt_heap hr4_0
        have hr5_0 := (hb5.block _ (lt_heap hr4_0)).trans hr4_0
        have hl5_1 := lt_heap hr4_1
        have hr5_1 := (hb5.block _ (lt_heap hr4_1)).trans hr4_1
        have hl5_2 := lt_heap hr4_2
        have hr5_2 := (hb5.block _ (lt_heap hr4_2)).trans hr4_2
        have hr5_3 := hN
        clear hN
        have HU5 := Lib.hid (HU4.out.trans (hb5.mono HU4.out.size))
        refine hK.out _ _ (⟨(hb5.block _ (lt_heap hS4c.1)).trans hS4c.1, (hb5.block _ (lt_heap hS4c.2)).trans hS4c.2⟩) (fun hS5a => ?_)
        clear hK K
        refine wpAnyH_ready (rs := [4]) (by kernel_rfl) (by simp) ?_
        refine AllReadyH.cons rfl (fun K hK => ?_) AllReadyH.nil
        go_simp
        go_wp2_with (go_at_call 42; refine (around_ball _ _ _ _ _ _ _ _ _ _ _ _ ).mono ?_; rintro e y6 ⟨rfl, hb6⟩)
        have hr6_0 := (hb6.block _ (lt_heap hr5_0)).trans hr5_0
        have hr6_1 := (hb6.block _ (lt_heap hr5_1)).trans hr5_1
        have hr6_2 := (hb6.block _ (lt_heap hr5_2)).trans hr5_2
        have hr6_3 := (hb6.block _ (lt_heap hr5_3)).trans hr5_3
        have HU6 := Lib.hid (HU5.out.trans (hb6.mono HU5.out.size))
        refine hK.out _ _ (⟨(hb6.block _ (lt_heap hS5a.1)).trans hS5a.1, (hb6.block _ (lt_heap hS5a.2)).trans hS5a.2⟩) (fun hS6c => ?_)
        clear hK K
        refine wpAnyH_take (i := 5) (v := ?_) rfl (by kernel_rfl) (by kernel_rfl) (by kernel_rfl) (fun _ _ _ h => h) (Or.inl ⟨by kernel_rfl, by (intro wz hSz; go_simp; try with_reducible rfl)⟩) hS6c ?_
        go_simp
        refine wpAnyH_ready (rs := [7]) (by kernel_rfl) (by simp) ?_
        refine AllReadyH.cons rfl (fun K hK => ?_) AllReadyH.nil
        refine step_store_row rfl 75 (.tmp 4) (.tmp 16) rfl #[.int .i64 0, .int .i64 0, .int .i64 0, .int .i64 0, .int .i64 0, .int .i64 0, .int .i64 0, .int .i64 0, .int .i64 0, .int .i64 0, .int .i64 0, .int .i64 0] #[.int .i64 (Pl.sub a2 (Pl.add a11 8192)), .int .i64 (Pl.sub a3 (Pl.add a11 8192)), .int .i64 (Pl.sub a4 (Pl.add a11 8192)), .int .i64 (Pl.add a2 (Pl.add a11 8192)), .int .i64 (Pl.add a3 (Pl.add a11 8192)), .int .i64 (Pl.add a4 (Pl.add a11 8192)), .int .i64 (Pl.sub a14 (Pl.add a23 8192)), .int .i64 (Pl.sub a15 (Pl.add a23 8192)), .int .i64 (Pl.sub a16 (Pl.add a23 8192)), .int .i64 (Pl.add a14 (Pl.add a23 8192)), .int .i64 (Pl.add a15 (Pl.add a23 8192)), .int .i64 (Pl.add a16 (Pl.add a23 8192))] _ 75 hr6_3 rfl (by first | rfl | (go_simp; done) | (go_simp; rfl)) (by kernel_rfl) rfl (by simp [Value.oneCell']) ?_
        have hN := setRow_heap _ (y4.heap.size) _ #[.int .i64 (Pl.sub a2 (Pl.add a11 8192)), .int .i64 (Pl.sub a3 (Pl.add a11 8192)), .int .i64 (Pl.sub a4 (Pl.add a11 8192)), .int .i64 (Pl.add a2 (Pl.add a11 8192)), .int .i64 (Pl.add a3 (Pl.add a11 8192)), .int .i64 (Pl.add a4 (Pl.add a11 8192)), .int .i64 (Pl.sub a14 (Pl.add a23 8192)), .int .i64 (Pl.sub a15 (Pl.add a23 8192)), .int .i64 (Pl.sub a16 (Pl.add a23 8192)), .int .i64 (Pl.add a14 (Pl.add a23 8192)), .int .i64 (Pl.add a15 (Pl.add a23 8192)), .int .i64 (Pl.add a16 (Pl.add a23 8192))] _ _ hr6_3
        have hsz := HU6.out.size
        have HUx := below_setRow (g := y4.heap.size) HU6.out (by first | omega | (simp at *; omega)) #[.int .i64 (Pl.sub a2 (Pl.add a11 8192)), .int .i64 (Pl.sub a3 (Pl.add a11 8192)), .int .i64 (Pl.sub a4 (Pl.add a11 8192)), .int .i64 (Pl.add a2 (Pl.add a11 8192)), .int .i64 (Pl.add a3 (Pl.add a11 8192)), .int .i64 (Pl.add a4 (Pl.add a11 8192)), .int .i64 (Pl.sub a14 (Pl.add a23 8192)), .int .i64 (Pl.sub a15 (Pl.add a23 8192)), .int .i64 (Pl.sub a16 (Pl.add a23 8192)), .int .i64 (Pl.add a14 (Pl.add a23 8192)), .int .i64 (Pl.add a15 (Pl.add a23 8192)), .int .i64 (Pl.add a16 (Pl.add a23 8192))]
        obtain ⟨y7, hy7⟩ : ∃ y, y6.setRow (y4.heap.size) #[.int .i64 (Pl.sub a2 (Pl.add a11 8192)), .int .i64 (Pl.sub a3 (Pl.add a11 8192)), .int .i64 (Pl.sub a4 (Pl.add a11 8192)), .int .i64 (Pl.add a2 (Pl.add a11 8192)), .int .i64 (Pl.add a3 (Pl.add a11 8192)), .int .i64 (Pl.add a4 (Pl.add a11 8192)), .int .i64 (Pl.sub a14 (Pl.add a23 8192)), .int .i64 (Pl.sub a15 (Pl.add a23 8192)), .int .i64 (Pl.sub a16 (Pl.add a23 8192)), .int .i64 (Pl.add a14 (Pl.add a23 8192)), .int .i64 (Pl.add a15 (Pl.add a23 8192)), .int .i64 (Pl.add a16 (Pl.add a23 8192))] = y := ⟨_, rfl⟩
        have hO : ∀ k, k ≠ y4.heap.size → y7.heap[k]? = y6.heap[k]? := fun k hk => by rw [← hy7]; exact setRow_other _ _ _ _ hk
        rw [hy7] at hN HUx ⊢
        clear hy7
        have HU7 := Lib.hid HUx
        clear HUx
        have hr7_0 := (hO _ (by omega)).trans hr6_0
        have hr7_1 := (hO _ (by omega)).trans hr6_1
        have hr7_2 := (hO _ (by omega)).trans hr6_2
        have hr7_3 := hN
        clear hN
        refine hK.out _ _ (⟨(hO _ (by omega)).trans hS6c.1, (hO _ (by omega)).trans hS6c.2⟩) (fun hS7s => ?_)
        clear hK K
        refine wpAnyH_done (by kernel_rfl) ?_ _
        go_wp2_with fail
        go_meet
        exact ⟨_, rfl, by omega, hr7_3, hr7_0, hr7_1, hr7_2, HU7⟩
    · skip
      go_simp
      have hb4 := below_n1 y3 (.cells #[.int .i64 0, .int .i64 0, .int .i64 0, .int .i64 0, .int .i64 0, .int .i64 0, .int .i64 0, .int .i64 0, .int .i64 0, .int .i64 0, .int .i64 0, .int .i64 0] 75)
      have hN := heap_alloc_last y3 (.cells #[.int .i64 0, .int .i64 0, .int .i64 0, .int .i64 0, .int .i64 0, .int .i64 0, .int .i64 0, .int .i64 0, .int .i64 0, .int .i64 0, .int .i64 0, .int .i64 0] 75)
      obtain ⟨y4, hy4⟩ : ∃ y, y3.alloc (.cells #[.int .i64 0, .int .i64 0, .int .i64 0, .int .i64 0, .int .i64 0, .int .i64 0, .int .i64 0, .int .i64 0, .int .i64 0, .int .i64 0, .int .i64 0, .int .i64 0] 75) = y := ⟨_, rfl⟩
      rw [hy4] at hb4 hN ⊢
      clear hy4
      have hl4_0 := lt_heap hr3_0
      have hr4_0 := (hb4.block _ (lt_heap hr3_0)).trans hr3_0
      have hl4_1 := lt_heap hr3_1
      have hr4_1 := (hb4.block _ (lt_heap hr3_1)).trans hr3_1
      have hl4_2 := lt_heap hr3_2
      have hr4_2 := (hb4.block _ (lt_heap hr3_2)).trans hr3_2
      have hr4_3 := hN
      clear hN
      have HU4 := Lib.hid (HU3.out.trans (hb4.mono HU3.out.size))
      refine hK.out _ _ (⟨(hb4.block _ (lt_heap hS0.1)).trans hS0.1, (hb4.block _ (lt_heap hS0.2)).trans hS0.2⟩) (fun hS4a => ?_)
      clear hK K
      refine wpAnyH_ready (rs := [2]) (by kernel_rfl) (by simp) ?_
      refine AllReadyH.cons rfl (fun K hK => ?_) AllReadyH.nil
      go_simp
      go_wp2_with (go_at_call 42; refine (around_ball _ _ _ _ _ _ _ _ _ _ _ _ ).mono ?_; rintro e y5 ⟨rfl, hb5⟩)
      have hr5_0 := (hb5.block _ (lt_heap hr4_0)).trans hr4_0
      have hr5_1 := (hb5.block _ (lt_heap hr4_1)).trans hr4_1
      have hr5_2 := (hb5.block _ (lt_heap hr4_2)).trans hr4_2
      have hr5_3 := (hb5.block _ (lt_heap hr4_3)).trans hr4_3
      have HU5 := Lib.hid (HU4.out.trans (hb5.mono HU4.out.size))
      refine hK.out _ _ (⟨(hb5.block _ (lt_heap hS4a.1)).trans hS4a.1, (hb5.block _ (lt_heap hS4a.2)).trans hS4a.2⟩) (fun hS5c => ?_)
      clear hK K
      refine wpAnyH_ready (rs := [4]) (by kernel_rfl) (by simp) ?_
      refine AllReadyH.cons rfl (fun K hK => ?_) AllReadyH.nil
      go_simp
      go_wp2_with (go_at_call 42; refine (around_ball _ _ _ _ _ _ _ _ _ _ _ _ ).mono ?_; rintro e y6 ⟨rfl, hb6⟩)
      have hr6_0 := (hb6.block _ (lt_heap hr5_0)).trans hr5_0
      have hr6_1 := (hb6.block _ (lt_heap hr5_1)).trans hr5_1
      have hr6_2 := (hb6.block _ (lt_heap hr5_2)).trans hr5_2
      have hr6_3 := (hb6.block _ (lt_heap hr5_3)).trans hr5_3
      have HU6 := Lib.hid (HU5.out.trans (hb6.mono HU5.out.size))
      refine hK.out _ _ (⟨(hb6.block _ (lt_heap hS5c.1)).trans hS5c.1, (hb6.block _ (lt_heap hS5c.2)).trans hS5c.2⟩) (fun hS6c => ?_)
      clear hK K
      refine wpAnyH_take (i := 5) (v := ?_) rfl (by kernel_rfl) (by kernel_rfl) (by kernel_rfl) (fun _ _ _ h => h) (Or.inl ⟨by kernel_rfl, by (intro wz hSz; go_simp; try with_reducible rfl)⟩) hS6c ?_
      go_simp
      refine wpAnyH_ready (rs := [7]) (by kernel_rfl) (by simp) ?_
      refine AllReadyH.cons rfl (fun K hK => ?_) AllReadyH.nil
      refine step_store_row rfl 75 (.tmp 4) (.tmp 16) rfl #[.int .i64 0, .int .i64 0, .int .i64 0, .int .i64 0, .int .i64 0, .int .i64 0, .int .i64 0, .int .i64 0, .int .i64 0, .int .i64 0, .int .i64 0, .int .i64 0] #[.int .i64 (Pl.sub a2 (Pl.add a11 8192)), .int .i64 (Pl.sub a3 (Pl.add a11 8192)), .int .i64 (Pl.sub a4 (Pl.add a11 8192)), .int .i64 (Pl.add a2 (Pl.add a11 8192)), .int .i64 (Pl.add a3 (Pl.add a11 8192)), .int .i64 (Pl.add a4 (Pl.add a11 8192)), .int .i64 (Pl.sub a14 (Pl.add a23 8192)), .int .i64 (Pl.sub a15 (Pl.add a23 8192)), .int .i64 (Pl.sub a16 (Pl.add a23 8192)), .int .i64 (Pl.add a14 (Pl.add a23 8192)), .int .i64 (Pl.add a15 (Pl.add a23 8192)), .int .i64 (Pl.add a16 (Pl.add a23 8192))] _ 75 hr6_3 rfl (by first | rfl | (go_simp; done) | (go_simp; rfl)) (by kernel_rfl) rfl (by simp [Value.oneCell']) ?_
      have hN := setRow_heap _ (y3.heap.size) _ #[.int .i64 (Pl.sub a2 (Pl.add a11 8192)), .int .i64 (Pl.sub a3 (Pl.add a11 8192)), .int .i64 (Pl.sub a4 (Pl.add a11 8192)), .int .i64 (Pl.add a2 (Pl.add a11 8192)), .int .i64 (Pl.add a3 (Pl.add a11 8192)), .int .i64 (Pl.add a4 (Pl.add a11 8192)), .int .i64 (Pl.sub a14 (Pl.add a23 8192)), .int .i64 (Pl.sub a15 (Pl.add a23 8192)), .int .i64 (Pl.sub a16 (Pl.add a23 8192)), .int .i64 (Pl.add a14 (Pl.add a23 8192)), .int .i64 (Pl.add a15 (Pl.add a23 8192)), .int .i64 (Pl.add a16 (Pl.add a23 8192))] _ _ hr6_3
      have hsz := HU6.out.size
      have HUx := below_setRow (g := y3.heap.size) HU6.out (by first | omega | (simp at *; omega)) #[.int .i64 (Pl.sub a2 (Pl.add a11 8192)), .int .i64 (Pl.sub a3 (Pl.add a11 8192)), .int .i64 (Pl.sub a4 (Pl.add a11 8192)), .int .i64 (Pl.add a2 (Pl.add a11 8192)), .int .i64 (Pl.add a3 (Pl.add a11 8192)), .int .i64 (Pl.add a4 (Pl.add a11 8192)), .int .i64 (Pl.sub a14 (Pl.add a23 8192)), .int .i64 (Pl.sub a15 (Pl.add a23 8192)), .int .i64 (Pl.sub a16 (Pl.add a23 8192)), .int .i64 (Pl.add a14 (Pl.add a23 8192)), .int .i64 (Pl.add a15 (Pl.add a23 8192)), .int .i64 (Pl.add a16 (Pl.add a23 8192))]
      obtain ⟨y7, hy7⟩ : ∃ y, y6.setRow (y3.heap.size) #[.int .i64 (Pl.sub a2 (Pl.add a11 8192)), .int .i64 (Pl.sub a3 (Pl.add a11 8192)), .int .i64 (Pl.sub a4 (Pl.add a11 8192)), .int .i64 (Pl.add a2 (Pl.add a11 8192)), .int .i64 (Pl.add a3 (Pl.add a11 8192)), .int .i64 (Pl.add a4 (Pl.add a11 8192)), .int .i64 (Pl.sub a14 (Pl.add a23 8192)), .int .i64 (Pl.sub a15 (Pl.add a23 8192)), .int .i64 (Pl.sub a16 (Pl.add a23 8192)), .int .i64 (Pl.add a14 (Pl.add a23 8192)), .int .i64 (Pl.add a15 (Pl.add a23 8192)), .int .i64 (Pl.add a16 (Pl.add a23 8192))] = y := ⟨_, rfl⟩
      have hO : ∀ k, k ≠ y3.heap.size → y7.heap[k]? = y6.heap[k]? := fun k hk => by rw [← hy7]; exact setRow_other _ _ _ _ hk
      rw [hy7] at hN HUx ⊢
      clear hy7
      have HU7 := Lib.hid HUx
      clear HUx
      have hr7_0 := (hO _ (by omega)).trans hr6_0
      have hr7_1 := (hO _ (by omega)).trans hr6_1
      have hr7_2 := (hO _ (by omega)).trans hr6_2
      have hr7_3 := hN
      clear hN
      refine hK.out _ _ (⟨(hO _ (by omega)).trans hS6c.1, (hO _ (by omega)).trans hS6c.2⟩) (fun hS7s => ?_)
      clear hK K
      refine wpAnyH_done (by kernel_rfl) ?_ _
      go_wp2_with fail
      go_meet
      exact ⟨_, rfl, by omega, hr7_3, hr7_0, hr7_1, hr7_2, HU7⟩
  case rest =>
    obtain ⟨gp, rfl, hgp, hr5_3, hr5_0, hr5_1, hr5_2, HU5⟩ := hcut
    rename World => y5
    cases hv : anyE (l18 (Pl.sub a2 (Pl.add a11 8192)) (Pl.sub a3 (Pl.add a11 8192)) (Pl.sub a4 (Pl.add a11 8192)) (Pl.add a2 (Pl.add a11 8192)) (Pl.add a3 (Pl.add a11 8192)) (Pl.add a4 (Pl.add a11 8192)) (Pl.sub a14 (Pl.add a23 8192)) (Pl.sub a15 (Pl.add a23 8192)) (Pl.sub a16 (Pl.add a23 8192)) (Pl.add a14 (Pl.add a23 8192)) (Pl.add a15 (Pl.add a23 8192)) (Pl.add a16 (Pl.add a23 8192)) (Pl.add a11 8192) (Pl.add a23 8192)) 6
    · skip
      go_wp2_with fail
      refine wp_region_held_drew (S := fun y => y.heap[w.heap.size]? = some (.cells #[.int .i64 0, .int .i64 a1, .int .i64 a2, .int .i64 a3, .int .i64 a4, .int .i64 a5, .int .i64 a6, .int .i64 a7, .int .i64 a8, .int .i64 a9, .int .i64 a10, .int .i64 a11, .int .i64 a12, .int .i64 a13, .int .i64 a14, .int .i64 a15, .int .i64 a16, .int .i64 a17, .int .i64 a18, .int .i64 a19, .int .i64 a20, .int .i64 a21, .int .i64 a22, .int .i64 a23] 91 (0, 0)) ∧ y.heap[y0.heap.size]? = some (.cells #[.int .i64 0, .int .i64 a13, .int .i64 a14, .int .i64 a15, .int .i64 a16, .int .i64 a17, .int .i64 a18, .int .i64 a19, .int .i64 a20, .int .i64 a21, .int .i64 a22, .int .i64 a23] 89 (0, 0)) ∧ y.heap[gp]? = some (.cells #[.int .i64 (Pl.sub a2 (Pl.add a11 8192)), .int .i64 (Pl.sub a3 (Pl.add a11 8192)), .int .i64 (Pl.sub a4 (Pl.add a11 8192)), .int .i64 (Pl.add a2 (Pl.add a11 8192)), .int .i64 (Pl.add a3 (Pl.add a11 8192)), .int .i64 (Pl.add a4 (Pl.add a11 8192)), .int .i64 (Pl.sub a14 (Pl.add a23 8192)), .int .i64 (Pl.sub a15 (Pl.add a23 8192)), .int .i64 (Pl.sub a16 (Pl.add a23 8192)), .int .i64 (Pl.add a14 (Pl.add a23 8192)), .int .i64 (Pl.add a15 (Pl.add a23 8192)), .int .i64 (Pl.add a16 (Pl.add a23 8192))] 75 (0, 0))) (by kernel_rfl) (⟨hr5_0, hr5_2, hr5_3⟩) (fun hS0 => ?_)
      obtain ⟨y6, hy6⟩ : ∃ y, y5.drew = y := ⟨_, rfl⟩
      have HU6 := Lib.hid (show Below w.heap.size w y6 by rw [← hy6]; exact HU5.out.drew)
      have hr6_0 : y6.heap[w.heap.size]? = some (.cells #[.int .i64 0, .int .i64 a1, .int .i64 a2, .int .i64 a3, .int .i64 a4, .int .i64 a5, .int .i64 a6, .int .i64 a7, .int .i64 a8, .int .i64 a9, .int .i64 a10, .int .i64 a11, .int .i64 a12, .int .i64 a13, .int .i64 a14, .int .i64 a15, .int .i64 a16, .int .i64 a17, .int .i64 a18, .int .i64 a19, .int .i64 a20, .int .i64 a21, .int .i64 a22, .int .i64 a23] 91 (0, 0)) := by rw [← hy6]; exact hr5_0
      have hr6_1 : y6.heap[w.heap.size + 1]? = some (.cells #[.int .i64 0, .int .i64 0, .int .i64 0, .int .i64 0, .int .i64 0, .int .i64 0, .int .i64 0, .int .i64 0, .int .i64 0, .int .i64 0, .int .i64 0, .int .i64 0] 75 (0, 0)) := by rw [← hy6]; exact hr5_1
      have hr6_2 : y6.heap[y0.heap.size]? = some (.cells #[.int .i64 0, .int .i64 a13, .int .i64 a14, .int .i64 a15, .int .i64 a16, .int .i64 a17, .int .i64 a18, .int .i64 a19, .int .i64 a20, .int .i64 a21, .int .i64 a22, .int .i64 a23] 89 (0, 0)) := by rw [← hy6]; exact hr5_2
      have hr6_3 : y6.heap[gp]? = some (.cells #[.int .i64 (Pl.sub a2 (Pl.add a11 8192)), .int .i64 (Pl.sub a3 (Pl.add a11 8192)), .int .i64 (Pl.sub a4 (Pl.add a11 8192)), .int .i64 (Pl.add a2 (Pl.add a11 8192)), .int .i64 (Pl.add a3 (Pl.add a11 8192)), .int .i64 (Pl.add a4 (Pl.add a11 8192)), .int .i64 (Pl.sub a14 (Pl.add a23 8192)), .int .i64 (Pl.sub a15 (Pl.add a23 8192)), .int .i64 (Pl.sub a16 (Pl.add a23 8192)), .int .i64 (Pl.add a14 (Pl.add a23 8192)), .int .i64 (Pl.add a15 (Pl.add a23 8192)), .int .i64 (Pl.add a16 (Pl.add a23 8192))] 75 (0, 0)) := by rw [← hy6]; exact hr5_3
      rw [hy6] at hS0 ⊢
      clear hy6
      refine wpAnyH_take (i := 0) (v := ?_) rfl (by kernel_rfl) (by kernel_rfl) (by kernel_rfl) (fun _ _ _ h => h) (Or.inl ⟨by kernel_rfl, by (intro wz hSz; go_simp; try with_reducible rfl)⟩) hS0 ?_
      go_simp
      refine wpAnyH_take (i := 1) (v := ?_) rfl (by kernel_rfl) (by kernel_rfl) (by kernel_rfl) (fun _ _ _ h => h) (Or.inl ⟨by kernel_rfl, by (intro wz hSz; go_simp; try with_reducible rfl)⟩) hS0 ?_
      go_simp
      refine wpAnyH_take (i := 2) (v := ?_) rfl (by kernel_rfl) (by kernel_rfl) (by kernel_rfl) (fun _ _ _ h => h) (Or.inl ⟨by kernel_rfl, by (intro wz hSz; have c0_0 := cell_of_row _ _ 0 _ _ _ hSz.1; have c0_1 := cell_of_row _ _ 1 _ _ _ hSz.1; have c0_2 := cell_of_row _ _ 2 _ _ _ hSz.1; have c0_3 := cell_of_row _ _ 3 _ _ _ hSz.1; have c0_4 := cell_of_row _ _ 4 _ _ _ hSz.1; have c0_5 := cell_of_row _ _ 5 _ _ _ hSz.1; have c0_6 := cell_of_row _ _ 6 _ _ _ hSz.1; have c0_7 := cell_of_row _ _ 7 _ _ _ hSz.1; have c0_8 := cell_of_row _ _ 8 _ _ _ hSz.1; have c0_9 := cell_of_row _ _ 9 _ _ _ hSz.1; have c0_10 := cell_of_row _ _ 10 _ _ _ hSz.1; have c0_11 := cell_of_row _ _ 11 _ _ _ hSz.1; have c0_12 := cell_of_row _ _ 12 _ _ _ hSz.1; have c0_13 := cell_of_row _ _ 13 _ _ _ hSz.1; have c0_14 := cell_of_row _ _ 14 _ _ _ hSz.1; have c0_15 := cell_of_row _ _ 15 _ _ _ hSz.1; have c0_16 := cell_of_row _ _ 16 _ _ _ hSz.1; have c0_17 := cell_of_row _ _ 17 _ _ _ hSz.1; have c0_18 := cell_of_row _ _ 18 _ _ _ hSz.1; have c0_19 := cell_of_row _ _ 19 _ _ _ hSz.1; have c0_20 := cell_of_row _ _ 20 _ _ _ hSz.1; have c0_21 := cell_of_row _ _ 21 _ _ _ hSz.1; have c0_22 := cell_of_row _ _ 22 _ _ _ hSz.1; have c0_23 := cell_of_row _ _ 23 _ _ _ hSz.1; have c2_0 := cell_of_row _ _ 0 _ _ _ hSz.2.1; have c2_1 := cell_of_row _ _ 1 _ _ _ hSz.2.1; have c2_2 := cell_of_row _ _ 2 _ _ _ hSz.2.1; have c2_3 := cell_of_row _ _ 3 _ _ _ hSz.2.1; have c2_4 := cell_of_row _ _ 4 _ _ _ hSz.2.1; have c2_5 := cell_of_row _ _ 5 _ _ _ hSz.2.1; have c2_6 := cell_of_row _ _ 6 _ _ _ hSz.2.1; have c2_7 := cell_of_row _ _ 7 _ _ _ hSz.2.1; have c2_8 := cell_of_row _ _ 8 _ _ _ hSz.2.1; have c2_9 := cell_of_row _ _ 9 _ _ _ hSz.2.1; have c2_10 := cell_of_row _ _ 10 _ _ _ hSz.2.1; have c2_11 := cell_of_row _ _ 11 _ _ _ hSz.2.1; have c3_0 := cell_of_row _ _ 0 _ _ _ hSz.2.2; have c3_1 := cell_of_row _ _ 1 _ _ _ hSz.2.2; have c3_2 := cell_of_row _ _ 2 _ _ _ hSz.2.2; have c3_3 := cell_of_row _ _ 3 _ _ _ hSz.2.2; have c3_4 := cell_of_row _ _ 4 _ _ _ hSz.2.2; have c3_5 := cell_of_row _ _ 5 _ _ _ hSz.2.2; have c3_6 := cell_of_row _ _ 6 _ _ _ hSz.2.2; have c3_7 := cell_of_row _ _ 7 _ _ _ hSz.2.2; have c3_8 := cell_of_row _ _ 8 _ _ _ hSz.2.2; have c3_9 := cell_of_row _ _ 9 _ _ _ hSz.2.2; have c3_10 := cell_of_row _ _ 10 _ _ _ hSz.2.2; have c3_11 := cell_of_row _ _ 11 _ _ _ hSz.2.2; simp at c0_0 c0_1 c0_2 c0_3 c0_4 c0_5 c0_6 c0_7 c0_8 c0_9 c0_10 c0_11 c0_12 c0_13 c0_14 c0_15 c0_16 c0_17 c0_18 c0_19 c0_20 c0_21 c0_22 c0_23 c2_0 c2_1 c2_2 c2_3 c2_4 c2_5 c2_6 c2_7 c2_8 c2_9 c2_10 c2_11 c3_0 c3_1 c3_2 c3_3 c3_4 c3_5 c3_6 c3_7 c3_8 c3_9 c3_10 c3_11; go_simp; try with_reducible rfl)⟩) hS0 ?_
      go_simp
      refine wpAnyH_take (i := 3) (v := ?_) rfl (by kernel_rfl) (by kernel_rfl) (by kernel_rfl) (fun _ _ _ h => h) (Or.inl ⟨by kernel_rfl, by (intro wz hSz; go_simp; try with_reducible rfl)⟩) hS0 ?_
      go_simp
      refine wpAnyH_take (i := 4) (v := ?_) rfl (by kernel_rfl) (by kernel_rfl) (by kernel_rfl) (fun _ _ _ h => h) (Or.inl ⟨by kernel_rfl, by (intro wz hSz; go_simp; try with_reducible rfl)⟩) hS0 ?_
      go_simp
      refine wpAnyH_take (i := 5) (v := ?_) rfl (by kernel_rfl) (by kernel_rfl) (by kernel_rfl) (fun _ _ _ h => h) (Or.inl ⟨by kernel_rfl, by (intro wz hSz; have c0_0 := cell_of_row _ _ 0 _ _ _ hSz.1; have c0_1 := cell_of_row _ _ 1 _ _ _ hSz.1; have c0_2 := cell_of_row _ _ 2 _ _ _ hSz.1; have c0_3 := cell_of_row _ _ 3 _ _ _ hSz.1; have c0_4 := cell_of_row _ _ 4 _ _ _ hSz.1; have c0_5 := cell_of_row _ _ 5 _ _ _ hSz.1; have c0_6 := cell_of_row _ _ 6 _ _ _ hSz.1; have c0_7 := cell_of_row _ _ 7 _ _ _ hSz.1; have c0_8 := cell_of_row _ _ 8 _ _ _ hSz.1; have c0_9 := cell_of_row _ _ 9 _ _ _ hSz.1; have c0_10 := cell_of_row _ _ 10 _ _ _ hSz.1; have c0_11 := cell_of_row _ _ 11 _ _ _ hSz.1; have c0_12 := cell_of_row _ _ 12 _ _ _ hSz.1; have c0_13 := cell_of_row _ _ 13 _ _ _ hSz.1; have c0_14 := cell_of_row _ _ 14 _ _ _ hSz.1; have c0_15 := cell_of_row _ _ 15 _ _ _ hSz.1; have c0_16 := cell_of_row _ _ 16 _ _ _ hSz.1; have c0_17 := cell_of_row _ _ 17 _ _ _ hSz.1; have c0_18 := cell_of_row _ _ 18 _ _ _ hSz.1; have c0_19 := cell_of_row _ _ 19 _ _ _ hSz.1; have c0_20 := cell_of_row _ _ 20 _ _ _ hSz.1; have c0_21 := cell_of_row _ _ 21 _ _ _ hSz.1; have c0_22 := cell_of_row _ _ 22 _ _ _ hSz.1; have c0_23 := cell_of_row _ _ 23 _ _ _ hSz.1; have c2_0 := cell_of_row _ _ 0 _ _ _ hSz.2.1; have c2_1 := cell_of_row _ _ 1 _ _ _ hSz.2.1; have c2_2 := cell_of_row _ _ 2 _ _ _ hSz.2.1; have c2_3 := cell_of_row _ _ 3 _ _ _ hSz.2.1; have c2_4 := cell_of_row _ _ 4 _ _ _ hSz.2.1; have c2_5 := cell_of_row _ _ 5 _ _ _ hSz.2.1; have c2_6 := cell_of_row _ _ 6 _ _ _ hSz.2.1; have c2_7 := cell_of_row _ _ 7 _ _ _ hSz.2.1; have c2_8 := cell_of_row _ _ 8 _ _ _ hSz.2.1; have c2_9 := cell_of_row _ _ 9 _ _ _ hSz.2.1; have c2_10 := cell_of_row _ _ 10 _ _ _ hSz.2.1; have c2_11 := cell_of_row _ _ 11 _ _ _ hSz.2.1; have c3_0 := cell_of_row _ _ 0 _ _ _ hSz.2.2; have c3_1 := cell_of_row _ _ 1 _ _ _ hSz.2.2; have c3_2 := cell_of_row _ _ 2 _ _ _ hSz.2.2; have c3_3 := cell_of_row _ _ 3 _ _ _ hSz.2.2; have c3_4 := cell_of_row _ _ 4 _ _ _ hSz.2.2; have c3_5 := cell_of_row _ _ 5 _ _ _ hSz.2.2; have c3_6 := cell_of_row _ _ 6 _ _ _ hSz.2.2; have c3_7 := cell_of_row _ _ 7 _ _ _ hSz.2.2; have c3_8 := cell_of_row _ _ 8 _ _ _ hSz.2.2; have c3_9 := cell_of_row _ _ 9 _ _ _ hSz.2.2; have c3_10 := cell_of_row _ _ 10 _ _ _ hSz.2.2; have c3_11 := cell_of_row _ _ 11 _ _ _ hSz.2.2; simp at c0_0 c0_1 c0_2 c0_3 c0_4 c0_5 c0_6 c0_7 c0_8 c0_9 c0_10 c0_11 c0_12 c0_13 c0_14 c0_15 c0_16 c0_17 c0_18 c0_19 c0_20 c0_21 c0_22 c0_23 c2_0 c2_1 c2_2 c2_3 c2_4 c2_5 c2_6 c2_7 c2_8 c2_9 c2_10 c2_11 c3_0 c3_1 c3_2 c3_3 c3_4 c3_5 c3_6 c3_7 c3_8 c3_9 c3_10 c3_11; go_simp; try with_reducible rfl)⟩) hS0 ?_
      go_simp
      refine wpAnyH_take (i := 6) (v := ?_) rfl (by kernel_rfl) (by kernel_rfl) (by kernel_rfl) (fun _ _ _ h => h) (Or.inl ⟨by kernel_rfl, by (intro wz hSz; go_simp; try with_reducible rfl)⟩) hS0 ?_
      go_simp
      refine wpAnyH_take (i := 7) (v := ?_) rfl (by kernel_rfl) (by kernel_rfl) (by kernel_rfl) (fun _ _ _ h => h) (Or.inl ⟨by kernel_rfl, by (intro wz hSz; go_simp; try with_reducible rfl)⟩) hS0 ?_
      go_simp
      refine wpAnyH_take (i := 8) (v := ?_) rfl (by kernel_rfl) (by kernel_rfl) (by kernel_rfl) (fun _ _ _ h => h) (Or.inl ⟨by kernel_rfl, by (intro wz hSz; have c0_0 := cell_of_row _ _ 0 _ _ _ hSz.1; have c0_1 := cell_of_row _ _ 1 _ _ _ hSz.1; have c0_2 := cell_of_row _ _ 2 _ _ _ hSz.1; have c0_3 := cell_of_row _ _ 3 _ _ _ hSz.1; have c0_4 := cell_of_row _ _ 4 _ _ _ hSz.1; have c0_5 := cell_of_row _ _ 5 _ _ _ hSz.1; have c0_6 := cell_of_row _ _ 6 _ _ _ hSz.1; have c0_7 := cell_of_row _ _ 7 _ _ _ hSz.1; have c0_8 := cell_of_row _ _ 8 _ _ _ hSz.1; have c0_9 := cell_of_row _ _ 9 _ _ _ hSz.1; have c0_10 := cell_of_row _ _ 10 _ _ _ hSz.1; have c0_11 := cell_of_row _ _ 11 _ _ _ hSz.1; have c0_12 := cell_of_row _ _ 12 _ _ _ hSz.1; have c0_13 := cell_of_row _ _ 13 _ _ _ hSz.1; have c0_14 := cell_of_row _ _ 14 _ _ _ hSz.1; have c0_15 := cell_of_row _ _ 15 _ _ _ hSz.1; have c0_16 := cell_of_row _ _ 16 _ _ _ hSz.1; have c0_17 := cell_of_row _ _ 17 _ _ _ hSz.1; have c0_18 := cell_of_row _ _ 18 _ _ _ hSz.1; have c0_19 := cell_of_row _ _ 19 _ _ _ hSz.1; have c0_20 := cell_of_row _ _ 20 _ _ _ hSz.1; have c0_21 := cell_of_row _ _ 21 _ _ _ hSz.1; have c0_22 := cell_of_row _ _ 22 _ _ _ hSz.1; have c0_23 := cell_of_row _ _ 23 _ _ _ hSz.1; have c2_0 := cell_of_row _ _ 0 _ _ _ hSz.2.1; have c2_1 := cell_of_row _ _ 1 _ _ _ hSz.2.1; have c2_2 := cell_of_row _ _ 2 _ _ _ hSz.2.1; have c2_3 := cell_of_row _ _ 3 _ _ _ hSz.2.1; have c2_4 := cell_of_row _ _ 4 _ _ _ hSz.2.1; have c2_5 := cell_of_row _ _ 5 _ _ _ hSz.2.1; have c2_6 := cell_of_row _ _ 6 _ _ _ hSz.2.1; have c2_7 := cell_of_row _ _ 7 _ _ _ hSz.2.1; have c2_8 := cell_of_row _ _ 8 _ _ _ hSz.2.1; have c2_9 := cell_of_row _ _ 9 _ _ _ hSz.2.1; have c2_10 := cell_of_row _ _ 10 _ _ _ hSz.2.1; have c2_11 := cell_of_row _ _ 11 _ _ _ hSz.2.1; have c3_0 := cell_of_row _ _ 0 _ _ _ hSz.2.2; have c3_1 := cell_of_row _ _ 1 _ _ _ hSz.2.2; have c3_2 := cell_of_row _ _ 2 _ _ _ hSz.2.2; have c3_3 := cell_of_row _ _ 3 _ _ _ hSz.2.2; have c3_4 := cell_of_row _ _ 4 _ _ _ hSz.2.2; have c3_5 := cell_of_row _ _ 5 _ _ _ hSz.2.2; have c3_6 := cell_of_row _ _ 6 _ _ _ hSz.2.2; have c3_7 := cell_of_row _ _ 7 _ _ _ hSz.2.2; have c3_8 := cell_of_row _ _ 8 _ _ _ hSz.2.2; have c3_9 := cell_of_row _ _ 9 _ _ _ hSz.2.2; have c3_10 := cell_of_row _ _ 10 _ _ _ hSz.2.2; have c3_11 := cell_of_row _ _ 11 _ _ _ hSz.2.2; simp at c0_0 c0_1 c0_2 c0_3 c0_4 c0_5 c0_6 c0_7 c0_8 c0_9 c0_10 c0_11 c0_12 c0_13 c0_14 c0_15 c0_16 c0_17 c0_18 c0_19 c0_20 c0_21 c0_22 c0_23 c2_0 c2_1 c2_2 c2_3 c2_4 c2_5 c2_6 c2_7 c2_8 c2_9 c2_10 c2_11 c3_0 c3_1 c3_2 c3_3 c3_4 c3_5 c3_6 c3_7 c3_8 c3_9 c3_10 c3_11; go_simp; try with_reducible rfl)⟩) hS0 ?_
      go_simp
      refine wpAnyH_take (i := 9) (v := ?_) rfl (by kernel_rfl) (by kernel_rfl) (by kernel_rfl) (fun _ _ _ h => h) (Or.inl ⟨by kernel_rfl, by (intro wz hSz; go_simp; try with_reducible rfl)⟩) hS0 ?_
      go_simp
      refine wpAnyH_take (i := 10) (v := ?_) rfl (by kernel_rfl) (by kernel_rfl) (by kernel_rfl) (fun _ _ _ h => h) (Or.inl ⟨by kernel_rfl, by (intro wz hSz; go_simp; try with_reducible rfl)⟩) hS0 ?_
      go_simp
      refine wpAnyH_take (i := 11) (v := ?_) rfl (by kernel_rfl) (by kernel_rfl) (by kernel_rfl) (fun _ _ _ h => h) (Or.inl ⟨by kernel_rfl, by (intro wz hSz; have c0_0 := cell_of_row _ _ 0 _ _ _ hSz.1; have c0_1 := cell_of_row _ _ 1 _ _ _ hSz.1; have c0_2 := cell_of_row _ _ 2 _ _ _ hSz.1; have c0_3 := cell_of_row _ _ 3 _ _ _ hSz.1; have c0_4 := cell_of_row _ _ 4 _ _ _ hSz.1; have c0_5 := cell_of_row _ _ 5 _ _ _ hSz.1; have c0_6 := cell_of_row _ _ 6 _ _ _ hSz.1; have c0_7 := cell_of_row _ _ 7 _ _ _ hSz.1; have c0_8 := cell_of_row _ _ 8 _ _ _ hSz.1; have c0_9 := cell_of_row _ _ 9 _ _ _ hSz.1; have c0_10 := cell_of_row _ _ 10 _ _ _ hSz.1; have c0_11 := cell_of_row _ _ 11 _ _ _ hSz.1; have c0_12 := cell_of_row _ _ 12 _ _ _ hSz.1; have c0_13 := cell_of_row _ _ 13 _ _ _ hSz.1; have c0_14 := cell_of_row _ _ 14 _ _ _ hSz.1; have c0_15 := cell_of_row _ _ 15 _ _ _ hSz.1; have c0_16 := cell_of_row _ _ 16 _ _ _ hSz.1; have c0_17 := cell_of_row _ _ 17 _ _ _ hSz.1; have c0_18 := cell_of_row _ _ 18 _ _ _ hSz.1; have c0_19 := cell_of_row _ _ 19 _ _ _ hSz.1; have c0_20 := cell_of_row _ _ 20 _ _ _ hSz.1; have c0_21 := cell_of_row _ _ 21 _ _ _ hSz.1; have c0_22 := cell_of_row _ _ 22 _ _ _ hSz.1; have c0_23 := cell_of_row _ _ 23 _ _ _ hSz.1; have c2_0 := cell_of_row _ _ 0 _ _ _ hSz.2.1; have c2_1 := cell_of_row _ _ 1 _ _ _ hSz.2.1; have c2_2 := cell_of_row _ _ 2 _ _ _ hSz.2.1; have c2_3 := cell_of_row _ _ 3 _ _ _ hSz.2.1; have c2_4 := cell_of_row _ _ 4 _ _ _ hSz.2.1; have c2_5 := cell_of_row _ _ 5 _ _ _ hSz.2.1; have c2_6 := cell_of_row _ _ 6 _ _ _ hSz.2.1; have c2_7 := cell_of_row _ _ 7 _ _ _ hSz.2.1; have c2_8 := cell_of_row _ _ 8 _ _ _ hSz.2.1; have c2_9 := cell_of_row _ _ 9 _ _ _ hSz.2.1; have c2_10 := cell_of_row _ _ 10 _ _ _ hSz.2.1; have c2_11 := cell_of_row _ _ 11 _ _ _ hSz.2.1; have c3_0 := cell_of_row _ _ 0 _ _ _ hSz.2.2; have c3_1 := cell_of_row _ _ 1 _ _ _ hSz.2.2; have c3_2 := cell_of_row _ _ 2 _ _ _ hSz.2.2; have c3_3 := cell_of_row _ _ 3 _ _ _ hSz.2.2; have c3_4 := cell_of_row _ _ 4 _ _ _ hSz.2.2; have c3_5 := cell_of_row _ _ 5 _ _ _ hSz.2.2; have c3_6 := cell_of_row _ _ 6 _ _ _ hSz.2.2; have c3_7 := cell_of_row _ _ 7 _ _ _ hSz.2.2; have c3_8 := cell_of_row _ _ 8 _ _ _ hSz.2.2; have c3_9 := cell_of_row _ _ 9 _ _ _ hSz.2.2; have c3_10 := cell_of_row _ _ 10 _ _ _ hSz.2.2; have c3_11 := cell_of_row _ _ 11 _ _ _ hSz.2.2; simp at c0_0 c0_1 c0_2 c0_3 c0_4 c0_5 c0_6 c0_7 c0_8 c0_9 c0_10 c0_11 c0_12 c0_13 c0_14 c0_15 c0_16 c0_17 c0_18 c0_19 c0_20 c0_21 c0_22 c0_23 c2_0 c2_1 c2_2 c2_3 c2_4 c2_5 c2_6 c2_7 c2_8 c2_9 c2_10 c2_11 c3_0 c3_1 c3_2 c3_3 c3_4 c3_5 c3_6 c3_7 c3_8 c3_9 c3_10 c3_11; go_simp; try with_reducible rfl)⟩) hS0 ?_
      go_simp
      refine wpAnyH_take (i := 12) (v := ?_) rfl (by kernel_rfl) (by kernel_rfl) (by kernel_rfl) (fun _ _ _ h => h) (Or.inl ⟨by kernel_rfl, by (intro wz hSz; go_simp; try with_reducible rfl)⟩) hS0 ?_
      go_simp
      refine wpAnyH_take (i := 13) (v := ?_) rfl (by kernel_rfl) (by kernel_rfl) (by kernel_rfl) (fun _ _ _ h => h) (Or.inl ⟨by kernel_rfl, by (intro wz hSz; have c0_0 := cell_of_row _ _ 0 _ _ _ hSz.1; have c0_1 := cell_of_row _ _ 1 _ _ _ hSz.1; have c0_2 := cell_of_row _ _ 2 _ _ _ hSz.1; have c0_3 := cell_of_row _ _ 3 _ _ _ hSz.1; have c0_4 := cell_of_row _ _ 4 _ _ _ hSz.1; have c0_5 := cell_of_row _ _ 5 _ _ _ hSz.1; have c0_6 := cell_of_row _ _ 6 _ _ _ hSz.1; have c0_7 := cell_of_row _ _ 7 _ _ _ hSz.1; have c0_8 := cell_of_row _ _ 8 _ _ _ hSz.1; have c0_9 := cell_of_row _ _ 9 _ _ _ hSz.1; have c0_10 := cell_of_row _ _ 10 _ _ _ hSz.1; have c0_11 := cell_of_row _ _ 11 _ _ _ hSz.1; have c0_12 := cell_of_row _ _ 12 _ _ _ hSz.1; have c0_13 := cell_of_row _ _ 13 _ _ _ hSz.1; have c0_14 := cell_of_row _ _ 14 _ _ _ hSz.1; have c0_15 := cell_of_row _ _ 15 _ _ _ hSz.1; have c0_16 := cell_of_row _ _ 16 _ _ _ hSz.1; have c0_17 := cell_of_row _ _ 17 _ _ _ hSz.1; have c0_18 := cell_of_row _ _ 18 _ _ _ hSz.1; have c0_19 := cell_of_row _ _ 19 _ _ _ hSz.1; have c0_20 := cell_of_row _ _ 20 _ _ _ hSz.1; have c0_21 := cell_of_row _ _ 21 _ _ _ hSz.1; have c0_22 := cell_of_row _ _ 22 _ _ _ hSz.1; have c0_23 := cell_of_row _ _ 23 _ _ _ hSz.1; have c2_0 := cell_of_row _ _ 0 _ _ _ hSz.2.1; have c2_1 := cell_of_row _ _ 1 _ _ _ hSz.2.1; have c2_2 := cell_of_row _ _ 2 _ _ _ hSz.2.1; have c2_3 := cell_of_row _ _ 3 _ _ _ hSz.2.1; have c2_4 := cell_of_row _ _ 4 _ _ _ hSz.2.1; have c2_5 := cell_of_row _ _ 5 _ _ _ hSz.2.1; have c2_6 := cell_of_row _ _ 6 _ _ _ hSz.2.1; have c2_7 := cell_of_row _ _ 7 _ _ _ hSz.2.1; have c2_8 := cell_of_row _ _ 8 _ _ _ hSz.2.1; have c2_9 := cell_of_row _ _ 9 _ _ _ hSz.2.1; have c2_10 := cell_of_row _ _ 10 _ _ _ hSz.2.1; have c2_11 := cell_of_row _ _ 11 _ _ _ hSz.2.1; have c3_0 := cell_of_row _ _ 0 _ _ _ hSz.2.2; have c3_1 := cell_of_row _ _ 1 _ _ _ hSz.2.2; have c3_2 := cell_of_row _ _ 2 _ _ _ hSz.2.2; have c3_3 := cell_of_row _ _ 3 _ _ _ hSz.2.2; have c3_4 := cell_of_row _ _ 4 _ _ _ hSz.2.2; have c3_5 := cell_of_row _ _ 5 _ _ _ hSz.2.2; have c3_6 := cell_of_row _ _ 6 _ _ _ hSz.2.2; have c3_7 := cell_of_row _ _ 7 _ _ _ hSz.2.2; have c3_8 := cell_of_row _ _ 8 _ _ _ hSz.2.2; have c3_9 := cell_of_row _ _ 9 _ _ _ hSz.2.2; have c3_10 := cell_of_row _ _ 10 _ _ _ hSz.2.2; have c3_11 := cell_of_row _ _ 11 _ _ _ hSz.2.2; simp at c0_0 c0_1 c0_2 c0_3 c0_4 c0_5 c0_6 c0_7 c0_8 c0_9 c0_10 c0_11 c0_12 c0_13 c0_14 c0_15 c0_16 c0_17 c0_18 c0_19 c0_20 c0_21 c0_22 c0_23 c2_0 c2_1 c2_2 c2_3 c2_4 c2_5 c2_6 c2_7 c2_8 c2_9 c2_10 c2_11 c3_0 c3_1 c3_2 c3_3 c3_4 c3_5 c3_6 c3_7 c3_8 c3_9 c3_10 c3_11; go_simp; try with_reducible rfl)⟩) hS0 ?_
      go_simp
      refine wpAnyH_take (i := 16) (v := ?_) rfl (by kernel_rfl) (by kernel_rfl) (by kernel_rfl) (fun _ _ _ h => h) (Or.inl ⟨by kernel_rfl, by (intro wz hSz; have c0_0 := cell_of_row _ _ 0 _ _ _ hSz.1; have c0_1 := cell_of_row _ _ 1 _ _ _ hSz.1; have c0_2 := cell_of_row _ _ 2 _ _ _ hSz.1; have c0_3 := cell_of_row _ _ 3 _ _ _ hSz.1; have c0_4 := cell_of_row _ _ 4 _ _ _ hSz.1; have c0_5 := cell_of_row _ _ 5 _ _ _ hSz.1; have c0_6 := cell_of_row _ _ 6 _ _ _ hSz.1; have c0_7 := cell_of_row _ _ 7 _ _ _ hSz.1; have c0_8 := cell_of_row _ _ 8 _ _ _ hSz.1; have c0_9 := cell_of_row _ _ 9 _ _ _ hSz.1; have c0_10 := cell_of_row _ _ 10 _ _ _ hSz.1; have c0_11 := cell_of_row _ _ 11 _ _ _ hSz.1; have c0_12 := cell_of_row _ _ 12 _ _ _ hSz.1; have c0_13 := cell_of_row _ _ 13 _ _ _ hSz.1; have c0_14 := cell_of_row _ _ 14 _ _ _ hSz.1; have c0_15 := cell_of_row _ _ 15 _ _ _ hSz.1; have c0_16 := cell_of_row _ _ 16 _ _ _ hSz.1; have c0_17 := cell_of_row _ _ 17 _ _ _ hSz.1; have c0_18 := cell_of_row _ _ 18 _ _ _ hSz.1; have c0_19 := cell_of_row _ _ 19 _ _ _ hSz.1; have c0_20 := cell_of_row _ _ 20 _ _ _ hSz.1; have c0_21 := cell_of_row _ _ 21 _ _ _ hSz.1; have c0_22 := cell_of_row _ _ 22 _ _ _ hSz.1; have c0_23 := cell_of_row _ _ 23 _ _ _ hSz.1; have c2_0 := cell_of_row _ _ 0 _ _ _ hSz.2.1; have c2_1 := cell_of_row _ _ 1 _ _ _ hSz.2.1; have c2_2 := cell_of_row _ _ 2 _ _ _ hSz.2.1; have c2_3 := cell_of_row _ _ 3 _ _ _ hSz.2.1; have c2_4 := cell_of_row _ _ 4 _ _ _ hSz.2.1; have c2_5 := cell_of_row _ _ 5 _ _ _ hSz.2.1; have c2_6 := cell_of_row _ _ 6 _ _ _ hSz.2.1; have c2_7 := cell_of_row _ _ 7 _ _ _ hSz.2.1; have c2_8 := cell_of_row _ _ 8 _ _ _ hSz.2.1; have c2_9 := cell_of_row _ _ 9 _ _ _ hSz.2.1; have c2_10 := cell_of_row _ _ 10 _ _ _ hSz.2.1; have c2_11 := cell_of_row _ _ 11 _ _ _ hSz.2.1; have c3_0 := cell_of_row _ _ 0 _ _ _ hSz.2.2; have c3_1 := cell_of_row _ _ 1 _ _ _ hSz.2.2; have c3_2 := cell_of_row _ _ 2 _ _ _ hSz.2.2; have c3_3 := cell_of_row _ _ 3 _ _ _ hSz.2.2; have c3_4 := cell_of_row _ _ 4 _ _ _ hSz.2.2; have c3_5 := cell_of_row _ _ 5 _ _ _ hSz.2.2; have c3_6 := cell_of_row _ _ 6 _ _ _ hSz.2.2; have c3_7 := cell_of_row _ _ 7 _ _ _ hSz.2.2; have c3_8 := cell_of_row _ _ 8 _ _ _ hSz.2.2; have c3_9 := cell_of_row _ _ 9 _ _ _ hSz.2.2; have c3_10 := cell_of_row _ _ 10 _ _ _ hSz.2.2; have c3_11 := cell_of_row _ _ 11 _ _ _ hSz.2.2; simp at c0_0 c0_1 c0_2 c0_3 c0_4 c0_5 c0_6 c0_7 c0_8 c0_9 c0_10 c0_11 c0_12 c0_13 c0_14 c0_15 c0_16 c0_17 c0_18 c0_19 c0_20 c0_21 c0_22 c0_23 c2_0 c2_1 c2_2 c2_3 c2_4 c2_5 c2_6 c2_7 c2_8 c2_9 c2_10 c2_11 c3_0 c3_1 c3_2 c3_3 c3_4 c3_5 c3_6 c3_7 c3_8 c3_9 c3_10 c3_11; go_simp; try with_reducible rfl)⟩) hS0 ?_
      go_simp
      refine wpAnyH_ready (rs := [14]) (by kernel_rfl) (by simp) ?_
      refine AllReadyH.cons rfl (fun K hK => ?_) AllReadyH.nil
      go_simp
      go_wp2_with (go_at_call 70; refine (reach_any _ _ _ _ _ _ _ _ _ _ _ _ _ ).mono ?_; rintro e y7 ⟨rfl, hb7⟩)
      have hr7_0 := (hb7.block _ (lt_heap hr6_0)).trans hr6_0
      have hr7_1 := (hb7.block _ (lt_heap hr6_1)).trans hr6_1
      have hr7_2 := (hb7.block _ (lt_heap hr6_2)).trans hr6_2
      have hr7_3 := (hb7.block _ (lt_heap hr6_3)).trans hr6_3
      have HU7 := Lib.hid (HU6.out.trans (hb7.mono HU6.out.size))
      refine hK.out _ _ (⟨(hb7.block _ (lt_heap hS0.1)).trans hS0.1, (hb7.block _ (lt_heap hS0.2.1)).trans hS0.2.1, (hb7.block _ (lt_heap hS0.2.2)).trans hS0.2.2⟩) (fun hS7c => ?_)
      clear hK K
      refine wpAnyH_ready (rs := [15]) (by kernel_rfl) (by simp) ?_
      refine AllReadyH.cons rfl (fun K hK => ?_) AllReadyH.nil
      go_simp
      go_wp2_with (go_at_call 69; refine (alike_any _ _).mono ?_; rintro e y8 ⟨rfl, hb8⟩)
      have hr8_0 := (hb8.block _ (lt_heap hr7_0)).trans hr7_0
      have hr8_1 := (hb8.block _ (lt_heap hr7_1)).trans hr7_1
      have hr8_2 := (hb8.block _ (lt_heap hr7_2)).trans hr7_2
      have hr8_3 := (hb8.block _ (lt_heap hr7_3)).trans hr7_3
      have HU8 := Lib.hid (HU7.out.trans (hb8.mono HU7.out.size))
      refine hK.out _ _ (⟨(hb8.block _ (lt_heap hS7c.1)).trans hS7c.1, (hb8.block _ (lt_heap hS7c.2.1)).trans hS7c.2.1, (hb8.block _ (lt_heap hS7c.2.2)).trans hS7c.2.2⟩) (fun hS8c => ?_)
      clear hK K
      refine wpAnyH_ready (rs := [17]) (by kernel_rfl) (by simp) ?_
      refine AllReadyH.cons rfl (fun K hK => ?_) AllReadyH.nil
      go_simp
      go_wp2_with (go_at_call 70; refine (reach_any _ _ _ _ _ _ _ _ _ _ _ _ _ ).mono ?_; rintro e y9 ⟨rfl, hb9⟩)
      have hr9_0 := (hb9.block _ (lt_heap hr8_0)).trans hr8_0
      have hr9_1 := (hb9.block _ (lt_heap hr8_1)).trans hr8_1
      have hr9_2 := (hb9.block _ (lt_heap hr8_2)).trans hr8_2
      have hr9_3 := (hb9.block _ (lt_heap hr8_3)).trans hr8_3
      have HU9 := Lib.hid (HU8.out.trans (hb9.mono HU8.out.size))
      refine hK.out _ _ (⟨(hb9.block _ (lt_heap hS8c.1)).trans hS8c.1, (hb9.block _ (lt_heap hS8c.2.1)).trans hS8c.2.1, (hb9.block _ (lt_heap hS8c.2.2)).trans hS8c.2.2⟩) (fun hS9c => ?_)
      clear hK K
      refine wpAnyH_ready (rs := [18]) (by kernel_rfl) (by simp) ?_
      refine AllReadyH.cons rfl (fun K hK => ?_) AllReadyH.nil
      go_simp
      go_wp2_with (go_at_call 69; refine (alike_any _ _).mono ?_; rintro e y10 ⟨rfl, hb10⟩)
      have hr10_0 := (hb10.block _ (lt_heap hr9_0)).trans hr9_0
      have hr10_1 := (hb10.block _ (lt_heap hr9_1)).trans hr9_1
      have hr10_2 := (hb10.block _ (lt_heap hr9_2)).trans hr9_2
      have hr10_3 := (hb10.block _ (lt_heap hr9_3)).trans hr9_3
      have HU10 := Lib.hid (HU9.out.trans (hb10.mono HU9.out.size))
      refine hK.out _ _ (⟨(hb10.block _ (lt_heap hS9c.1)).trans hS9c.1, (hb10.block _ (lt_heap hS9c.2.1)).trans hS9c.2.1, (hb10.block _ (lt_heap hS9c.2.2)).trans hS9c.2.2⟩) (fun hS10c => ?_)
      clear hK K
      refine wpAnyH_ready (rs := [19]) (by kernel_rfl) (by simp) ?_
      refine AllReadyH.cons rfl (fun K hK => ?_) AllReadyH.nil
      go_simp
      have hb11 := below_n1 y10 (.cells #[.int .i64 (Pl.sub a2 (Pl.add a11 8192)), .int .i64 (Pl.sub a3 (Pl.add a11 8192)), .int .i64 (Pl.sub a4 (Pl.add a11 8192)), .int .i64 (Pl.add a2 (Pl.add a11 8192)), .int .i64 (Pl.add a3 (Pl.add a11 8192)), .int .i64 (Pl.add a4 (Pl.add a11 8192)), .int .i64 (Pl.sub a14 (Pl.add a23 8192)), .int .i64 (Pl.sub a15 (Pl.add a23 8192)), .int .i64 (Pl.sub a16 (Pl.add a23 8192)), .int .i64 (Pl.add a14 (Pl.add a23 8192)), .int .i64 (Pl.add a15 (Pl.add a23 8192)), .int .i64 (Pl.add a16 (Pl.add a23 8192)), .int .i64 (Pl.add a11 8192), .int .i64 (Pl.add a11 8192), .int .i64 (Pl.add a11 8192), .int .i64 (Pl.add a23 8192), .int .i64 (Pl.add a23 8192), .int .i64 (Pl.add a23 8192)] 71)
      have hN := heap_alloc_last y10 (.cells #[.int .i64 (Pl.sub a2 (Pl.add a11 8192)), .int .i64 (Pl.sub a3 (Pl.add a11 8192)), .int .i64 (Pl.sub a4 (Pl.add a11 8192)), .int .i64 (Pl.add a2 (Pl.add a11 8192)), .int .i64 (Pl.add a3 (Pl.add a11 8192)), .int .i64 (Pl.add a4 (Pl.add a11 8192)), .int .i64 (Pl.sub a14 (Pl.add a23 8192)), .int .i64 (Pl.sub a15 (Pl.add a23 8192)), .int .i64 (Pl.sub a16 (Pl.add a23 8192)), .int .i64 (Pl.add a14 (Pl.add a23 8192)), .int .i64 (Pl.add a15 (Pl.add a23 8192)), .int .i64 (Pl.add a16 (Pl.add a23 8192)), .int .i64 (Pl.add a11 8192), .int .i64 (Pl.add a11 8192), .int .i64 (Pl.add a11 8192), .int .i64 (Pl.add a23 8192), .int .i64 (Pl.add a23 8192), .int .i64 (Pl.add a23 8192)] 71)
      obtain ⟨y11, hy11⟩ : ∃ y, y10.alloc (.cells #[.int .i64 (Pl.sub a2 (Pl.add a11 8192)), .int .i64 (Pl.sub a3 (Pl.add a11 8192)), .int .i64 (Pl.sub a4 (Pl.add a11 8192)), .int .i64 (Pl.add a2 (Pl.add a11 8192)), .int .i64 (Pl.add a3 (Pl.add a11 8192)), .int .i64 (Pl.add a4 (Pl.add a11 8192)), .int .i64 (Pl.sub a14 (Pl.add a23 8192)), .int .i64 (Pl.sub a15 (Pl.add a23 8192)), .int .i64 (Pl.sub a16 (Pl.add a23 8192)), .int .i64 (Pl.add a14 (Pl.add a23 8192)), .int .i64 (Pl.add a15 (Pl.add a23 8192)), .int .i64 (Pl.add a16 (Pl.add a23 8192)), .int .i64 (Pl.add a11 8192), .int .i64 (Pl.add a11 8192), .int .i64 (Pl.add a11 8192), .int .i64 (Pl.add a23 8192), .int .i64 (Pl.add a23 8192), .int .i64 (Pl.add a23 8192)] 71) = y := ⟨_, rfl⟩
      rw [hy11] at hb11 hN ⊢
      clear hy11
      have hl11_0 := lt_heap hr10_0
      have hr11_0 := (hb11.block _ (lt_heap hr10_0)).trans hr10_0
      have hl11_1 := lt_heap hr10_1
      have hr11_1 := (hb11.block _ (lt_heap hr10_1)).trans hr10_1
      have hl11_2 := lt_heap hr10_2
      have hr11_2 := (hb11.block _ (lt_heap hr10_2)).trans hr10_2
      have hl11_3 := lt_heap hr10_3
      have hr11_3 := (hb11.block _ (lt_heap hr10_3)).trans hr10_3
      have hr11_4 := hN
      clear hN
      have HU11 := Lib.hid (HU10.out.trans (hb11.mono HU10.out.size))
      refine hK.out _ _ (⟨(hb11.block _ (lt_heap hS10c.1)).trans hS10c.1, (hb11.block _ (lt_heap hS10c.2.1)).trans hS10c.2.1, (hb11.block _ (lt_heap hS10c.2.2)).trans hS10c.2.2⟩) (fun hS11a => ?_)
      clear hK K
      refine wpAnyH_ready (rs := [20]) (by kernel_rfl) (by simp) ?_
      refine AllReadyH.cons rfl (fun K hK => ?_) AllReadyH.nil
      go_simp
      go_wp2_with (go_at_call 68; refine (atend_row (y10.heap.size) 6 _ (l18 (Pl.sub a2 (Pl.add a11 8192)) (Pl.sub a3 (Pl.add a11 8192)) (Pl.sub a4 (Pl.add a11 8192)) (Pl.add a2 (Pl.add a11 8192)) (Pl.add a3 (Pl.add a11 8192)) (Pl.add a4 (Pl.add a11 8192)) (Pl.sub a14 (Pl.add a23 8192)) (Pl.sub a15 (Pl.add a23 8192)) (Pl.sub a16 (Pl.add a23 8192)) (Pl.add a14 (Pl.add a23 8192)) (Pl.add a15 (Pl.add a23 8192)) (Pl.add a16 (Pl.add a23 8192)) (Pl.add a11 8192) (Pl.add a23 8192)) (by omega) _ (lt_heap hr11_4) (fun j hj => by rcases (show j = 0 ∨ j = 1 ∨ j = 2 ∨ j = 3 ∨ j = 4 ∨ j = 5 ∨ j = 6 ∨ j = 7 ∨ j = 8 ∨ j = 9 ∨ j = 10 ∨ j = 11 ∨ j = 12 ∨ j = 13 ∨ j = 14 ∨ j = 15 ∨ j = 16 ∨ j = 17 by omega) with rfl | rfl | rfl | rfl | rfl | rfl | rfl | rfl | rfl | rfl | rfl | rfl | rfl | rfl | rfl | rfl | rfl | rfl <;> exact cell_of_row _ _ _ _ _ _ hr11_4)).mono ?_; rintro e y12 ⟨rfl, hb12⟩; rw [hv])
      have hr12_0 := (hb12.block _ (lt_heap hr11_0)).trans hr11_0
      have hr12_1 := (hb12.block _ (lt_heap hr11_1)).trans hr11_1
      have hr12_2 := (hb12.block _ (lt_heap hr11_2)).trans hr11_2
      have hr12_3 := (hb12.block _ (lt_heap hr11_3)).trans hr11_3
      have hr12_4 := (hb12.block _ (lt_heap hr11_4)).trans hr11_4
      have HU12 := Lib.hid (HU11.out.trans (hb12.mono HU11.out.size))
      refine hK.out _ _ (⟨(hb12.block _ (lt_heap hS11a.1)).trans hS11a.1, (hb12.block _ (lt_heap hS11a.2.1)).trans hS11a.2.1, (hb12.block _ (lt_heap hS11a.2.2)).trans hS11a.2.2⟩) (fun hS12c => ?_)
      clear hK K
      refine wpAnyH_done (by kernel_rfl) ?_ _
      have c3_0 := cell_of_row _ _ 0 _ _ _ hr12_3
      have c3_1 := cell_of_row _ _ 1 _ _ _ hr12_3
      have c3_2 := cell_of_row _ _ 2 _ _ _ hr12_3
      have c3_3 := cell_of_row _ _ 3 _ _ _ hr12_3
      have c3_4 := cell_of_row _ _ 4 _ _ _ hr12_3
      have c3_5 := cell_of_row _ _ 5 _ _ _ hr12_3
      have c3_6 := cell_of_row _ _ 6 _ _ _ hr12_3
      have c3_7 := cell_of_row _ _ 7 _ _ _ hr12_3
      have c3_8 := cell_of_row _ _ 8 _ _ _ hr12_3
      have c3_9 := cell_of_row _ _ 9 _ _ _ hr12_3
      have c3_10 := cell_of_row _ _ 10 _ _ _ hr12_3
      have c3_11 := cell_of_row _ _ 11 _ _ _ hr12_3
      simp at c3_0 c3_1 c3_2 c3_3 c3_4 c3_5 c3_6 c3_7 c3_8 c3_9 c3_10 c3_11
      have hHr := Lib.hid hr12_1
      have hHi := Lib.hid (show (Try.prog.info? 75).map (·.size) = some (#[.int .i64 (Pl.sub a2 (Pl.add a11 8192)), .int .i64 (Pl.sub a3 (Pl.add a11 8192)), .int .i64 (Pl.sub a4 (Pl.add a11 8192)), .int .i64 (Pl.add a2 (Pl.add a11 8192)), .int .i64 (Pl.add a3 (Pl.add a11 8192)), .int .i64 (Pl.add a4 (Pl.add a11 8192)), .int .i64 (Pl.sub a14 (Pl.add a23 8192)), .int .i64 (Pl.sub a15 (Pl.add a23 8192)), .int .i64 (Pl.sub a16 (Pl.add a23 8192)), .int .i64 (Pl.add a14 (Pl.add a23 8192)), .int .i64 (Pl.add a15 (Pl.add a23 8192)), .int .i64 (Pl.add a16 (Pl.add a23 8192))] : Array Value).size by kernel_rfl)
      have hHz := Lib.hid (show (#[.int .i64 0, .int .i64 0, .int .i64 0, .int .i64 0, .int .i64 0, .int .i64 0, .int .i64 0, .int .i64 0, .int .i64 0, .int .i64 0, .int .i64 0, .int .i64 0] : Array Value).size = (#[.int .i64 (Pl.sub a2 (Pl.add a11 8192)), .int .i64 (Pl.sub a3 (Pl.add a11 8192)), .int .i64 (Pl.sub a4 (Pl.add a11 8192)), .int .i64 (Pl.add a2 (Pl.add a11 8192)), .int .i64 (Pl.add a3 (Pl.add a11 8192)), .int .i64 (Pl.add a4 (Pl.add a11 8192)), .int .i64 (Pl.sub a14 (Pl.add a23 8192)), .int .i64 (Pl.sub a15 (Pl.add a23 8192)), .int .i64 (Pl.sub a16 (Pl.add a23 8192)), .int .i64 (Pl.add a14 (Pl.add a23 8192)), .int .i64 (Pl.add a15 (Pl.add a23 8192)), .int .i64 (Pl.add a16 (Pl.add a23 8192))] : Array Value).size from rfl)
      have hHo := Lib.hid (show (#[.int .i64 (Pl.sub a2 (Pl.add a11 8192)), .int .i64 (Pl.sub a3 (Pl.add a11 8192)), .int .i64 (Pl.sub a4 (Pl.add a11 8192)), .int .i64 (Pl.add a2 (Pl.add a11 8192)), .int .i64 (Pl.add a3 (Pl.add a11 8192)), .int .i64 (Pl.add a4 (Pl.add a11 8192)), .int .i64 (Pl.sub a14 (Pl.add a23 8192)), .int .i64 (Pl.sub a15 (Pl.add a23 8192)), .int .i64 (Pl.sub a16 (Pl.add a23 8192)), .int .i64 (Pl.add a14 (Pl.add a23 8192)), .int .i64 (Pl.add a15 (Pl.add a23 8192)), .int .i64 (Pl.add a16 (Pl.add a23 8192))] : Array Value).all (·.oneCell') = true by simp [Value.oneCell'])
      go_wp2_with (first | (refine Au.wpList_store_row rfl 75 (.tmp 2) (.tmp 41) rfl y12 #[.int .i64 0, .int .i64 0, .int .i64 0, .int .i64 0, .int .i64 0, .int .i64 0, .int .i64 0, .int .i64 0, .int .i64 0, .int .i64 0, .int .i64 0, .int .i64 0] #[.int .i64 (Pl.sub a2 (Pl.add a11 8192)), .int .i64 (Pl.sub a3 (Pl.add a11 8192)), .int .i64 (Pl.sub a4 (Pl.add a11 8192)), .int .i64 (Pl.add a2 (Pl.add a11 8192)), .int .i64 (Pl.add a3 (Pl.add a11 8192)), .int .i64 (Pl.add a4 (Pl.add a11 8192)), .int .i64 (Pl.sub a14 (Pl.add a23 8192)), .int .i64 (Pl.sub a15 (Pl.add a23 8192)), .int .i64 (Pl.sub a16 (Pl.add a23 8192)), .int .i64 (Pl.add a14 (Pl.add a23 8192)), .int .i64 (Pl.add a15 (Pl.add a23 8192)), .int .i64 (Pl.add a16 (Pl.add a23 8192))] (w.heap.size + 1) 75 hHr.out rfl rfl hHi.out hHz.out hHo.out ?_))
      all_goals
        clear c3_0 c3_1 c3_2 c3_3 c3_4 c3_5 c3_6 c3_7 c3_8 c3_9 c3_10 c3_11
        clear hHr hHi hHz hHo
        have hN := setRow_heap _ (w.heap.size + 1) _ #[.int .i64 (Pl.sub a2 (Pl.add a11 8192)), .int .i64 (Pl.sub a3 (Pl.add a11 8192)), .int .i64 (Pl.sub a4 (Pl.add a11 8192)), .int .i64 (Pl.add a2 (Pl.add a11 8192)), .int .i64 (Pl.add a3 (Pl.add a11 8192)), .int .i64 (Pl.add a4 (Pl.add a11 8192)), .int .i64 (Pl.sub a14 (Pl.add a23 8192)), .int .i64 (Pl.sub a15 (Pl.add a23 8192)), .int .i64 (Pl.sub a16 (Pl.add a23 8192)), .int .i64 (Pl.add a14 (Pl.add a23 8192)), .int .i64 (Pl.add a15 (Pl.add a23 8192)), .int .i64 (Pl.add a16 (Pl.add a23 8192))] _ _ hr12_1
        have hsz := HU12.out.size
        have HUx := below_setRow (g := w.heap.size + 1) HU12.out (by first | omega | (simp at *; omega)) #[.int .i64 (Pl.sub a2 (Pl.add a11 8192)), .int .i64 (Pl.sub a3 (Pl.add a11 8192)), .int .i64 (Pl.sub a4 (Pl.add a11 8192)), .int .i64 (Pl.add a2 (Pl.add a11 8192)), .int .i64 (Pl.add a3 (Pl.add a11 8192)), .int .i64 (Pl.add a4 (Pl.add a11 8192)), .int .i64 (Pl.sub a14 (Pl.add a23 8192)), .int .i64 (Pl.sub a15 (Pl.add a23 8192)), .int .i64 (Pl.sub a16 (Pl.add a23 8192)), .int .i64 (Pl.add a14 (Pl.add a23 8192)), .int .i64 (Pl.add a15 (Pl.add a23 8192)), .int .i64 (Pl.add a16 (Pl.add a23 8192))]
        have hO : ∀ kk, kk ≠ w.heap.size + 1 → (y12.setRow (w.heap.size + 1) #[.int .i64 (Pl.sub a2 (Pl.add a11 8192)), .int .i64 (Pl.sub a3 (Pl.add a11 8192)), .int .i64 (Pl.sub a4 (Pl.add a11 8192)), .int .i64 (Pl.add a2 (Pl.add a11 8192)), .int .i64 (Pl.add a3 (Pl.add a11 8192)), .int .i64 (Pl.add a4 (Pl.add a11 8192)), .int .i64 (Pl.sub a14 (Pl.add a23 8192)), .int .i64 (Pl.sub a15 (Pl.add a23 8192)), .int .i64 (Pl.sub a16 (Pl.add a23 8192)), .int .i64 (Pl.add a14 (Pl.add a23 8192)), .int .i64 (Pl.add a15 (Pl.add a23 8192)), .int .i64 (Pl.add a16 (Pl.add a23 8192))]).heap[kk]? = y12.heap[kk]? := fun kk hk => setRow_other _ _ _ _ hk
        obtain ⟨y13, hy13⟩ : ∃ y, y12.setRow (w.heap.size + 1) #[.int .i64 (Pl.sub a2 (Pl.add a11 8192)), .int .i64 (Pl.sub a3 (Pl.add a11 8192)), .int .i64 (Pl.sub a4 (Pl.add a11 8192)), .int .i64 (Pl.add a2 (Pl.add a11 8192)), .int .i64 (Pl.add a3 (Pl.add a11 8192)), .int .i64 (Pl.add a4 (Pl.add a11 8192)), .int .i64 (Pl.sub a14 (Pl.add a23 8192)), .int .i64 (Pl.sub a15 (Pl.add a23 8192)), .int .i64 (Pl.sub a16 (Pl.add a23 8192)), .int .i64 (Pl.add a14 (Pl.add a23 8192)), .int .i64 (Pl.add a15 (Pl.add a23 8192)), .int .i64 (Pl.add a16 (Pl.add a23 8192))] = y := ⟨_, rfl⟩
        rw [hy13] at hN HUx hO ⊢
        clear hy13 hsz
        have HU13 := Lib.hid HUx
        clear HUx
        have hr13_0 := (hO _ (by omega)).trans hr12_0
        have hr13_1 := hN
        have hr13_2 := (hO _ (by omega)).trans hr12_2
        have hr13_3 := (hO _ (by omega)).trans hr12_3
        have hr13_4 := (hO _ (by omega)).trans hr12_4
        clear hN hO
        clear hr12_0 hr12_1 hr12_2 hr12_3 hr12_4 HU12
        go_wp2
        all_goals exact bodyPost_ret (v := .agg #[.int .i64 (Pl.sub a2 (Pl.add a11 8192)), .int .i64 (Pl.sub a3 (Pl.add a11 8192)), .int .i64 (Pl.sub a4 (Pl.add a11 8192)), .int .i64 (Pl.add a2 (Pl.add a11 8192)), .int .i64 (Pl.add a3 (Pl.add a11 8192)), .int .i64 (Pl.add a4 (Pl.add a11 8192)), .int .i64 (Pl.sub a14 (Pl.add a23 8192)), .int .i64 (Pl.sub a15 (Pl.add a23 8192)), .int .i64 (Pl.sub a16 (Pl.add a23 8192)), .int .i64 (Pl.add a14 (Pl.add a23 8192)), .int .i64 (Pl.add a15 (Pl.add a23 8192)), .int .i64 (Pl.add a16 (Pl.add a23 8192))]) (results_row (t := 75) Try.results24 rfl hr13_1 Try.underlying75 rfl (by kernel_rfl)) rfl ⟨by first | rfl | rw [if_neg (by decide)] | simp, HU13.out⟩
    · skip
      go_wp2_with fail
      refine wp_region_held_drew (S := fun y => y.heap[w.heap.size]? = some (.cells #[.int .i64 0, .int .i64 a1, .int .i64 a2, .int .i64 a3, .int .i64 a4, .int .i64 a5, .int .i64 a6, .int .i64 a7, .int .i64 a8, .int .i64 a9, .int .i64 a10, .int .i64 a11, .int .i64 a12, .int .i64 a13, .int .i64 a14, .int .i64 a15, .int .i64 a16, .int .i64 a17, .int .i64 a18, .int .i64 a19, .int .i64 a20, .int .i64 a21, .int .i64 a22, .int .i64 a23] 91 (0, 0)) ∧ y.heap[y0.heap.size]? = some (.cells #[.int .i64 0, .int .i64 a13, .int .i64 a14, .int .i64 a15, .int .i64 a16, .int .i64 a17, .int .i64 a18, .int .i64 a19, .int .i64 a20, .int .i64 a21, .int .i64 a22, .int .i64 a23] 89 (0, 0)) ∧ y.heap[gp]? = some (.cells #[.int .i64 (Pl.sub a2 (Pl.add a11 8192)), .int .i64 (Pl.sub a3 (Pl.add a11 8192)), .int .i64 (Pl.sub a4 (Pl.add a11 8192)), .int .i64 (Pl.add a2 (Pl.add a11 8192)), .int .i64 (Pl.add a3 (Pl.add a11 8192)), .int .i64 (Pl.add a4 (Pl.add a11 8192)), .int .i64 (Pl.sub a14 (Pl.add a23 8192)), .int .i64 (Pl.sub a15 (Pl.add a23 8192)), .int .i64 (Pl.sub a16 (Pl.add a23 8192)), .int .i64 (Pl.add a14 (Pl.add a23 8192)), .int .i64 (Pl.add a15 (Pl.add a23 8192)), .int .i64 (Pl.add a16 (Pl.add a23 8192))] 75 (0, 0))) (by kernel_rfl) (⟨hr5_0, hr5_2, hr5_3⟩) (fun hS0 => ?_)
      obtain ⟨y6, hy6⟩ : ∃ y, y5.drew = y := ⟨_, rfl⟩
      have HU6 := Lib.hid (show Below w.heap.size w y6 by rw [← hy6]; exact HU5.out.drew)
      have hr6_0 : y6.heap[w.heap.size]? = some (.cells #[.int .i64 0, .int .i64 a1, .int .i64 a2, .int .i64 a3, .int .i64 a4, .int .i64 a5, .int .i64 a6, .int .i64 a7, .int .i64 a8, .int .i64 a9, .int .i64 a10, .int .i64 a11, .int .i64 a12, .int .i64 a13, .int .i64 a14, .int .i64 a15, .int .i64 a16, .int .i64 a17, .int .i64 a18, .int .i64 a19, .int .i64 a20, .int .i64 a21, .int .i64 a22, .int .i64 a23] 91 (0, 0)) := by rw [← hy6]; exact hr5_0
      have hr6_1 : y6.heap[w.heap.size + 1]? = some (.cells #[.int .i64 0, .int .i64 0, .int .i64 0, .int .i64 0, .int .i64 0, .int .i64 0, .int .i64 0, .int .i64 0, .int .i64 0, .int .i64 0, .int .i64 0, .int .i64 0] 75 (0, 0)) := by rw [← hy6]; exact hr5_1
      have hr6_2 : y6.heap[y0.heap.size]? = some (.cells #[.int .i64 0, .int .i64 a13, .int .i64 a14, .int .i64 a15, .int .i64 a16, .int .i64 a17, .int .i64 a18, .int .i64 a19, .int .i64 a20, .int .i64 a21, .int .i64 a22, .int .i64 a23] 89 (0, 0)) := by rw [← hy6]; exact hr5_2
      have hr6_3 : y6.heap[gp]? = some (.cells #[.int .i64 (Pl.sub a2 (Pl.add a11 8192)), .int .i64 (Pl.sub a3 (Pl.add a11 8192)), .int .i64 (Pl.sub a4 (Pl.add a11 8192)), .int .i64 (Pl.add a2 (Pl.add a11 8192)), .int .i64 (Pl.add a3 (Pl.add a11 8192)), .int .i64 (Pl.add a4 (Pl.add a11 8192)), .int .i64 (Pl.sub a14 (Pl.add a23 8192)), .int .i64 (Pl.sub a15 (Pl.add a23 8192)), .int .i64 (Pl.sub a16 (Pl.add a23 8192)), .int .i64 (Pl.add a14 (Pl.add a23 8192)), .int .i64 (Pl.add a15 (Pl.add a23 8192)), .int .i64 (Pl.add a16 (Pl.add a23 8192))] 75 (0, 0)) := by rw [← hy6]; exact hr5_3
      rw [hy6] at hS0 ⊢
      clear hy6
      refine wpAnyH_take (i := 0) (v := ?_) rfl (by kernel_rfl) (by kernel_rfl) (by kernel_rfl) (fun _ _ _ h => h) (Or.inl ⟨by kernel_rfl, by (intro wz hSz; go_simp; try with_reducible rfl)⟩) hS0 ?_
      go_simp
      refine wpAnyH_take (i := 1) (v := ?_) rfl (by kernel_rfl) (by kernel_rfl) (by kernel_rfl) (fun _ _ _ h => h) (Or.inl ⟨by kernel_rfl, by (intro wz hSz; go_simp; try with_reducible rfl)⟩) hS0 ?_
      go_simp
      refine wpAnyH_take (i := 2) (v := ?_) rfl (by kernel_rfl) (by kernel_rfl) (by kernel_rfl) (fun _ _ _ h => h) (Or.inl ⟨by kernel_rfl, by (intro wz hSz; have c0_0 := cell_of_row _ _ 0 _ _ _ hSz.1; have c0_1 := cell_of_row _ _ 1 _ _ _ hSz.1; have c0_2 := cell_of_row _ _ 2 _ _ _ hSz.1; have c0_3 := cell_of_row _ _ 3 _ _ _ hSz.1; have c0_4 := cell_of_row _ _ 4 _ _ _ hSz.1; have c0_5 := cell_of_row _ _ 5 _ _ _ hSz.1; have c0_6 := cell_of_row _ _ 6 _ _ _ hSz.1; have c0_7 := cell_of_row _ _ 7 _ _ _ hSz.1; have c0_8 := cell_of_row _ _ 8 _ _ _ hSz.1; have c0_9 := cell_of_row _ _ 9 _ _ _ hSz.1; have c0_10 := cell_of_row _ _ 10 _ _ _ hSz.1; have c0_11 := cell_of_row _ _ 11 _ _ _ hSz.1; have c0_12 := cell_of_row _ _ 12 _ _ _ hSz.1; have c0_13 := cell_of_row _ _ 13 _ _ _ hSz.1; have c0_14 := cell_of_row _ _ 14 _ _ _ hSz.1; have c0_15 := cell_of_row _ _ 15 _ _ _ hSz.1; have c0_16 := cell_of_row _ _ 16 _ _ _ hSz.1; have c0_17 := cell_of_row _ _ 17 _ _ _ hSz.1; have c0_18 := cell_of_row _ _ 18 _ _ _ hSz.1; have c0_19 := cell_of_row _ _ 19 _ _ _ hSz.1; have c0_20 := cell_of_row _ _ 20 _ _ _ hSz.1; have c0_21 := cell_of_row _ _ 21 _ _ _ hSz.1; have c0_22 := cell_of_row _ _ 22 _ _ _ hSz.1; have c0_23 := cell_of_row _ _ 23 _ _ _ hSz.1; have c2_0 := cell_of_row _ _ 0 _ _ _ hSz.2.1; have c2_1 := cell_of_row _ _ 1 _ _ _ hSz.2.1; have c2_2 := cell_of_row _ _ 2 _ _ _ hSz.2.1; have c2_3 := cell_of_row _ _ 3 _ _ _ hSz.2.1; have c2_4 := cell_of_row _ _ 4 _ _ _ hSz.2.1; have c2_5 := cell_of_row _ _ 5 _ _ _ hSz.2.1; have c2_6 := cell_of_row _ _ 6 _ _ _ hSz.2.1; have c2_7 := cell_of_row _ _ 7 _ _ _ hSz.2.1; have c2_8 := cell_of_row _ _ 8 _ _ _ hSz.2.1; have c2_9 := cell_of_row _ _ 9 _ _ _ hSz.2.1; have c2_10 := cell_of_row _ _ 10 _ _ _ hSz.2.1; have c2_11 := cell_of_row _ _ 11 _ _ _ hSz.2.1; have c3_0 := cell_of_row _ _ 0 _ _ _ hSz.2.2; have c3_1 := cell_of_row _ _ 1 _ _ _ hSz.2.2; have c3_2 := cell_of_row _ _ 2 _ _ _ hSz.2.2; have c3_3 := cell_of_row _ _ 3 _ _ _ hSz.2.2; have c3_4 := cell_of_row _ _ 4 _ _ _ hSz.2.2; have c3_5 := cell_of_row _ _ 5 _ _ _ hSz.2.2; have c3_6 := cell_of_row _ _ 6 _ _ _ hSz.2.2; have c3_7 := cell_of_row _ _ 7 _ _ _ hSz.2.2; have c3_8 := cell_of_row _ _ 8 _ _ _ hSz.2.2; have c3_9 := cell_of_row _ _ 9 _ _ _ hSz.2.2; have c3_10 := cell_of_row _ _ 10 _ _ _ hSz.2.2; have c3_11 := cell_of_row _ _ 11 _ _ _ hSz.2.2; simp at c0_0 c0_1 c0_2 c0_3 c0_4 c0_5 c0_6 c0_7 c0_8 c0_9 c0_10 c0_11 c0_12 c0_13 c0_14 c0_15 c0_16 c0_17 c0_18 c0_19 c0_20 c0_21 c0_22 c0_23 c2_0 c2_1 c2_2 c2_3 c2_4 c2_5 c2_6 c2_7 c2_8 c2_9 c2_10 c2_11 c3_0 c3_1 c3_2 c3_3 c3_4 c3_5 c3_6 c3_7 c3_8 c3_9 c3_10 c3_11; go_simp; try with_reducible rfl)⟩) hS0 ?_
      go_simp
      refine wpAnyH_take (i := 3) (v := ?_) rfl (by kernel_rfl) (by kernel_rfl) (by kernel_rfl) (fun _ _ _ h => h) (Or.inl ⟨by kernel_rfl, by (intro wz hSz; go_simp; try with_reducible rfl)⟩) hS0 ?_
      go_simp
      refine wpAnyH_take (i := 4) (v := ?_) rfl (by kernel_rfl) (by kernel_rfl) (by kernel_rfl) (fun _ _ _ h => h) (Or.inl ⟨by kernel_rfl, by (intro wz hSz; go_simp; try with_reducible rfl)⟩) hS0 ?_
      go_simp
      refine wpAnyH_take (i := 5) (v := ?_) rfl (by kernel_rfl) (by kernel_rfl) (by kernel_rfl) (fun _ _ _ h => h) (Or.inl ⟨by kernel_rfl, by (intro wz hSz; have c0_0 := cell_of_row _ _ 0 _ _ _ hSz.1; have c0_1 := cell_of_row _ _ 1 _ _ _ hSz.1; have c0_2 := cell_of_row _ _ 2 _ _ _ hSz.1; have c0_3 := cell_of_row _ _ 3 _ _ _ hSz.1; have c0_4 := cell_of_row _ _ 4 _ _ _ hSz.1; have c0_5 := cell_of_row _ _ 5 _ _ _ hSz.1; have c0_6 := cell_of_row _ _ 6 _ _ _ hSz.1; have c0_7 := cell_of_row _ _ 7 _ _ _ hSz.1; have c0_8 := cell_of_row _ _ 8 _ _ _ hSz.1; have c0_9 := cell_of_row _ _ 9 _ _ _ hSz.1; have c0_10 := cell_of_row _ _ 10 _ _ _ hSz.1; have c0_11 := cell_of_row _ _ 11 _ _ _ hSz.1; have c0_12 := cell_of_row _ _ 12 _ _ _ hSz.1; have c0_13 := cell_of_row _ _ 13 _ _ _ hSz.1; have c0_14 := cell_of_row _ _ 14 _ _ _ hSz.1; have c0_15 := cell_of_row _ _ 15 _ _ _ hSz.1; have c0_16 := cell_of_row _ _ 16 _ _ _ hSz.1; have c0_17 := cell_of_row _ _ 17 _ _ _ hSz.1; have c0_18 := cell_of_row _ _ 18 _ _ _ hSz.1; have c0_19 := cell_of_row _ _ 19 _ _ _ hSz.1; have c0_20 := cell_of_row _ _ 20 _ _ _ hSz.1; have c0_21 := cell_of_row _ _ 21 _ _ _ hSz.1; have c0_22 := cell_of_row _ _ 22 _ _ _ hSz.1; have c0_23 := cell_of_row _ _ 23 _ _ _ hSz.1; have c2_0 := cell_of_row _ _ 0 _ _ _ hSz.2.1; have c2_1 := cell_of_row _ _ 1 _ _ _ hSz.2.1; have c2_2 := cell_of_row _ _ 2 _ _ _ hSz.2.1; have c2_3 := cell_of_row _ _ 3 _ _ _ hSz.2.1; have c2_4 := cell_of_row _ _ 4 _ _ _ hSz.2.1; have c2_5 := cell_of_row _ _ 5 _ _ _ hSz.2.1; have c2_6 := cell_of_row _ _ 6 _ _ _ hSz.2.1; have c2_7 := cell_of_row _ _ 7 _ _ _ hSz.2.1; have c2_8 := cell_of_row _ _ 8 _ _ _ hSz.2.1; have c2_9 := cell_of_row _ _ 9 _ _ _ hSz.2.1; have c2_10 := cell_of_row _ _ 10 _ _ _ hSz.2.1; have c2_11 := cell_of_row _ _ 11 _ _ _ hSz.2.1; have c3_0 := cell_of_row _ _ 0 _ _ _ hSz.2.2; have c3_1 := cell_of_row _ _ 1 _ _ _ hSz.2.2; have c3_2 := cell_of_row _ _ 2 _ _ _ hSz.2.2; have c3_3 := cell_of_row _ _ 3 _ _ _ hSz.2.2; have c3_4 := cell_of_row _ _ 4 _ _ _ hSz.2.2; have c3_5 := cell_of_row _ _ 5 _ _ _ hSz.2.2; have c3_6 := cell_of_row _ _ 6 _ _ _ hSz.2.2; have c3_7 := cell_of_row _ _ 7 _ _ _ hSz.2.2; have c3_8 := cell_of_row _ _ 8 _ _ _ hSz.2.2; have c3_9 := cell_of_row _ _ 9 _ _ _ hSz.2.2; have c3_10 := cell_of_row _ _ 10 _ _ _ hSz.2.2; have c3_11 := cell_of_row _ _ 11 _ _ _ hSz.2.2; simp at c0_0 c0_1 c0_2 c0_3 c0_4 c0_5 c0_6 c0_7 c0_8 c0_9 c0_10 c0_11 c0_12 c0_13 c0_14 c0_15 c0_16 c0_17 c0_18 c0_19 c0_20 c0_21 c0_22 c0_23 c2_0 c2_1 c2_2 c2_3 c2_4 c2_5 c2_6 c2_7 c2_8 c2_9 c2_10 c2_11 c3_0 c3_1 c3_2 c3_3 c3_4 c3_5 c3_6 c3_7 c3_8 c3_9 c3_10 c3_11; go_simp; try with_reducible rfl)⟩) hS0 ?_
      go_simp
      refine wpAnyH_take (i := 6) (v := ?_) rfl (by kernel_rfl) (by kernel_rfl) (by kernel_rfl) (fun _ _ _ h => h) (Or.inl ⟨by kernel_rfl, by (intro wz hSz; go_simp; try with_reducible rfl)⟩) hS0 ?_
      go_simp
      refine wpAnyH_take (i := 7) (v := ?_) rfl (by kernel_rfl) (by kernel_rfl) (by kernel_rfl) (fun _ _ _ h => h) (Or.inl ⟨by kernel_rfl, by (intro wz hSz; go_simp; try with_reducible rfl)⟩) hS0 ?_
      go_simp
      refine wpAnyH_take (i := 8) (v := ?_) rfl (by kernel_rfl) (by kernel_rfl) (by kernel_rfl) (fun _ _ _ h => h) (Or.inl ⟨by kernel_rfl, by (intro wz hSz; have c0_0 := cell_of_row _ _ 0 _ _ _ hSz.1; have c0_1 := cell_of_row _ _ 1 _ _ _ hSz.1; have c0_2 := cell_of_row _ _ 2 _ _ _ hSz.1; have c0_3 := cell_of_row _ _ 3 _ _ _ hSz.1; have c0_4 := cell_of_row _ _ 4 _ _ _ hSz.1; have c0_5 := cell_of_row _ _ 5 _ _ _ hSz.1; have c0_6 := cell_of_row _ _ 6 _ _ _ hSz.1; have c0_7 := cell_of_row _ _ 7 _ _ _ hSz.1; have c0_8 := cell_of_row _ _ 8 _ _ _ hSz.1; have c0_9 := cell_of_row _ _ 9 _ _ _ hSz.1; have c0_10 := cell_of_row _ _ 10 _ _ _ hSz.1; have c0_11 := cell_of_row _ _ 11 _ _ _ hSz.1; have c0_12 := cell_of_row _ _ 12 _ _ _ hSz.1; have c0_13 := cell_of_row _ _ 13 _ _ _ hSz.1; have c0_14 := cell_of_row _ _ 14 _ _ _ hSz.1; have c0_15 := cell_of_row _ _ 15 _ _ _ hSz.1; have c0_16 := cell_of_row _ _ 16 _ _ _ hSz.1; have c0_17 := cell_of_row _ _ 17 _ _ _ hSz.1; have c0_18 := cell_of_row _ _ 18 _ _ _ hSz.1; have c0_19 := cell_of_row _ _ 19 _ _ _ hSz.1; have c0_20 := cell_of_row _ _ 20 _ _ _ hSz.1; have c0_21 := cell_of_row _ _ 21 _ _ _ hSz.1; have c0_22 := cell_of_row _ _ 22 _ _ _ hSz.1; have c0_23 := cell_of_row _ _ 23 _ _ _ hSz.1; have c2_0 := cell_of_row _ _ 0 _ _ _ hSz.2.1; have c2_1 := cell_of_row _ _ 1 _ _ _ hSz.2.1; have c2_2 := cell_of_row _ _ 2 _ _ _ hSz.2.1; have c2_3 := cell_of_row _ _ 3 _ _ _ hSz.2.1; have c2_4 := cell_of_row _ _ 4 _ _ _ hSz.2.1; have c2_5 := cell_of_row _ _ 5 _ _ _ hSz.2.1; have c2_6 := cell_of_row _ _ 6 _ _ _ hSz.2.1; have c2_7 := cell_of_row _ _ 7 _ _ _ hSz.2.1; have c2_8 := cell_of_row _ _ 8 _ _ _ hSz.2.1; have c2_9 := cell_of_row _ _ 9 _ _ _ hSz.2.1; have c2_10 := cell_of_row _ _ 10 _ _ _ hSz.2.1; have c2_11 := cell_of_row _ _ 11 _ _ _ hSz.2.1; have c3_0 := cell_of_row _ _ 0 _ _ _ hSz.2.2; have c3_1 := cell_of_row _ _ 1 _ _ _ hSz.2.2; have c3_2 := cell_of_row _ _ 2 _ _ _ hSz.2.2; have c3_3 := cell_of_row _ _ 3 _ _ _ hSz.2.2; have c3_4 := cell_of_row _ _ 4 _ _ _ hSz.2.2; have c3_5 := cell_of_row _ _ 5 _ _ _ hSz.2.2; have c3_6 := cell_of_row _ _ 6 _ _ _ hSz.2.2; have c3_7 := cell_of_row _ _ 7 _ _ _ hSz.2.2; have c3_8 := cell_of_row _ _ 8 _ _ _ hSz.2.2; have c3_9 := cell_of_row _ _ 9 _ _ _ hSz.2.2; have c3_10 := cell_of_row _ _ 10 _ _ _ hSz.2.2; have c3_11 := cell_of_row _ _ 11 _ _ _ hSz.2.2; simp at c0_0 c0_1 c0_2 c0_3 c0_4 c0_5 c0_6 c0_7 c0_8 c0_9 c0_10 c0_11 c0_12 c0_13 c0_14 c0_15 c0_16 c0_17 c0_18 c0_19 c0_20 c0_21 c0_22 c0_23 c2_0 c2_1 c2_2 c2_3 c2_4 c2_5 c2_6 c2_7 c2_8 c2_9 c2_10 c2_11 c3_0 c3_1 c3_2 c3_3 c3_4 c3_5 c3_6 c3_7 c3_8 c3_9 c3_10 c3_11; go_simp; try with_reducible rfl)⟩) hS0 ?_
      go_simp
      refine wpAnyH_take (i := 9) (v := ?_) rfl (by kernel_rfl) (by kernel_rfl) (by kernel_rfl) (fun _ _ _ h => h) (Or.inl ⟨by kernel_rfl, by (intro wz hSz; go_simp; try with_reducible rfl)⟩) hS0 ?_
      go_simp
      refine wpAnyH_take (i := 10) (v := ?_) rfl (by kernel_rfl) (by kernel_rfl) (by kernel_rfl) (fun _ _ _ h => h) (Or.inl ⟨by kernel_rfl, by (intro wz hSz; go_simp; try with_reducible rfl)⟩) hS0 ?_
      go_simp
      refine wpAnyH_take (i := 11) (v := ?_) rfl (by kernel_rfl) (by kernel_rfl) (by kernel_rfl) (fun _ _ _ h => h) (Or.inl ⟨by kernel_rfl, by (intro wz hSz; have c0_0 := cell_of_row _ _ 0 _ _ _ hSz.1; have c0_1 := cell_of_row _ _ 1 _ _ _ hSz.1; have c0_2 := cell_of_row _ _ 2 _ _ _ hSz.1; have c0_3 := cell_of_row _ _ 3 _ _ _ hSz.1; have c0_4 := cell_of_row _ _ 4 _ _ _ hSz.1; have c0_5 := cell_of_row _ _ 5 _ _ _ hSz.1; have c0_6 := cell_of_row _ _ 6 _ _ _ hSz.1; have c0_7 := cell_of_row _ _ 7 _ _ _ hSz.1; have c0_8 := cell_of_row _ _ 8 _ _ _ hSz.1; have c0_9 := cell_of_row _ _ 9 _ _ _ hSz.1; have c0_10 := cell_of_row _ _ 10 _ _ _ hSz.1; have c0_11 := cell_of_row _ _ 11 _ _ _ hSz.1; have c0_12 := cell_of_row _ _ 12 _ _ _ hSz.1; have c0_13 := cell_of_row _ _ 13 _ _ _ hSz.1; have c0_14 := cell_of_row _ _ 14 _ _ _ hSz.1; have c0_15 := cell_of_row _ _ 15 _ _ _ hSz.1; have c0_16 := cell_of_row _ _ 16 _ _ _ hSz.1; have c0_17 := cell_of_row _ _ 17 _ _ _ hSz.1; have c0_18 := cell_of_row _ _ 18 _ _ _ hSz.1; have c0_19 := cell_of_row _ _ 19 _ _ _ hSz.1; have c0_20 := cell_of_row _ _ 20 _ _ _ hSz.1; have c0_21 := cell_of_row _ _ 21 _ _ _ hSz.1; have c0_22 := cell_of_row _ _ 22 _ _ _ hSz.1; have c0_23 := cell_of_row _ _ 23 _ _ _ hSz.1; have c2_0 := cell_of_row _ _ 0 _ _ _ hSz.2.1; have c2_1 := cell_of_row _ _ 1 _ _ _ hSz.2.1; have c2_2 := cell_of_row _ _ 2 _ _ _ hSz.2.1; have c2_3 := cell_of_row _ _ 3 _ _ _ hSz.2.1; have c2_4 := cell_of_row _ _ 4 _ _ _ hSz.2.1; have c2_5 := cell_of_row _ _ 5 _ _ _ hSz.2.1; have c2_6 := cell_of_row _ _ 6 _ _ _ hSz.2.1; have c2_7 := cell_of_row _ _ 7 _ _ _ hSz.2.1; have c2_8 := cell_of_row _ _ 8 _ _ _ hSz.2.1; have c2_9 := cell_of_row _ _ 9 _ _ _ hSz.2.1; have c2_10 := cell_of_row _ _ 10 _ _ _ hSz.2.1; have c2_11 := cell_of_row _ _ 11 _ _ _ hSz.2.1; have c3_0 := cell_of_row _ _ 0 _ _ _ hSz.2.2; have c3_1 := cell_of_row _ _ 1 _ _ _ hSz.2.2; have c3_2 := cell_of_row _ _ 2 _ _ _ hSz.2.2; have c3_3 := cell_of_row _ _ 3 _ _ _ hSz.2.2; have c3_4 := cell_of_row _ _ 4 _ _ _ hSz.2.2; have c3_5 := cell_of_row _ _ 5 _ _ _ hSz.2.2; have c3_6 := cell_of_row _ _ 6 _ _ _ hSz.2.2; have c3_7 := cell_of_row _ _ 7 _ _ _ hSz.2.2; have c3_8 := cell_of_row _ _ 8 _ _ _ hSz.2.2; have c3_9 := cell_of_row _ _ 9 _ _ _ hSz.2.2; have c3_10 := cell_of_row _ _ 10 _ _ _ hSz.2.2; have c3_11 := cell_of_row _ _ 11 _ _ _ hSz.2.2; simp at c0_0 c0_1 c0_2 c0_3 c0_4 c0_5 c0_6 c0_7 c0_8 c0_9 c0_10 c0_11 c0_12 c0_13 c0_14 c0_15 c0_16 c0_17 c0_18 c0_19 c0_20 c0_21 c0_22 c0_23 c2_0 c2_1 c2_2 c2_3 c2_4 c2_5 c2_6 c2_7 c2_8 c2_9 c2_10 c2_11 c3_0 c3_1 c3_2 c3_3 c3_4 c3_5 c3_6 c3_7 c3_8 c3_9 c3_10 c3_11; go_simp; try with_reducible rfl)⟩) hS0 ?_
      go_simp
      refine wpAnyH_take (i := 12) (v := ?_) rfl (by kernel_rfl) (by kernel_rfl) (by kernel_rfl) (fun _ _ _ h => h) (Or.inl ⟨by kernel_rfl, by (intro wz hSz; go_simp; try with_reducible rfl)⟩) hS0 ?_
      go_simp
      refine wpAnyH_take (i := 13) (v := ?_) rfl (by kernel_rfl) (by kernel_rfl) (by kernel_rfl) (fun _ _ _ h => h) (Or.inl ⟨by kernel_rfl, by (intro wz hSz; have c0_0 := cell_of_row _ _ 0 _ _ _ hSz.1; have c0_1 := cell_of_row _ _ 1 _ _ _ hSz.1; have c0_2 := cell_of_row _ _ 2 _ _ _ hSz.1; have c0_3 := cell_of_row _ _ 3 _ _ _ hSz.1; have c0_4 := cell_of_row _ _ 4 _ _ _ hSz.1; have c0_5 := cell_of_row _ _ 5 _ _ _ hSz.1; have c0_6 := cell_of_row _ _ 6 _ _ _ hSz.1; have c0_7 := cell_of_row _ _ 7 _ _ _ hSz.1; have c0_8 := cell_of_row _ _ 8 _ _ _ hSz.1; have c0_9 := cell_of_row _ _ 9 _ _ _ hSz.1; have c0_10 := cell_of_row _ _ 10 _ _ _ hSz.1; have c0_11 := cell_of_row _ _ 11 _ _ _ hSz.1; have c0_12 := cell_of_row _ _ 12 _ _ _ hSz.1; have c0_13 := cell_of_row _ _ 13 _ _ _ hSz.1; have c0_14 := cell_of_row _ _ 14 _ _ _ hSz.1; have c0_15 := cell_of_row _ _ 15 _ _ _ hSz.1; have c0_16 := cell_of_row _ _ 16 _ _ _ hSz.1; have c0_17 := cell_of_row _ _ 17 _ _ _ hSz.1; have c0_18 := cell_of_row _ _ 18 _ _ _ hSz.1; have c0_19 := cell_of_row _ _ 19 _ _ _ hSz.1; have c0_20 := cell_of_row _ _ 20 _ _ _ hSz.1; have c0_21 := cell_of_row _ _ 21 _ _ _ hSz.1; have c0_22 := cell_of_row _ _ 22 _ _ _ hSz.1; have c0_23 := cell_of_row _ _ 23 _ _ _ hSz.1; have c2_0 := cell_of_row _ _ 0 _ _ _ hSz.2.1; have c2_1 := cell_of_row _ _ 1 _ _ _ hSz.2.1; have c2_2 := cell_of_row _ _ 2 _ _ _ hSz.2.1; have c2_3 := cell_of_row _ _ 3 _ _ _ hSz.2.1; have c2_4 := cell_of_row _ _ 4 _ _ _ hSz.2.1; have c2_5 := cell_of_row _ _ 5 _ _ _ hSz.2.1; have c2_6 := cell_of_row _ _ 6 _ _ _ hSz.2.1; have c2_7 := cell_of_row _ _ 7 _ _ _ hSz.2.1; have c2_8 := cell_of_row _ _ 8 _ _ _ hSz.2.1; have c2_9 := cell_of_row _ _ 9 _ _ _ hSz.2.1; have c2_10 := cell_of_row _ _ 10 _ _ _ hSz.2.1; have c2_11 := cell_of_row _ _ 11 _ _ _ hSz.2.1; have c3_0 := cell_of_row _ _ 0 _ _ _ hSz.2.2; have c3_1 := cell_of_row _ _ 1 _ _ _ hSz.2.2; have c3_2 := cell_of_row _ _ 2 _ _ _ hSz.2.2; have c3_3 := cell_of_row _ _ 3 _ _ _ hSz.2.2; have c3_4 := cell_of_row _ _ 4 _ _ _ hSz.2.2; have c3_5 := cell_of_row _ _ 5 _ _ _ hSz.2.2; have c3_6 := cell_of_row _ _ 6 _ _ _ hSz.2.2; have c3_7 := cell_of_row _ _ 7 _ _ _ hSz.2.2; have c3_8 := cell_of_row _ _ 8 _ _ _ hSz.2.2; have c3_9 := cell_of_row _ _ 9 _ _ _ hSz.2.2; have c3_10 := cell_of_row _ _ 10 _ _ _ hSz.2.2; have c3_11 := cell_of_row _ _ 11 _ _ _ hSz.2.2; simp at c0_0 c0_1 c0_2 c0_3 c0_4 c0_5 c0_6 c0_7 c0_8 c0_9 c0_10 c0_11 c0_12 c0_13 c0_14 c0_15 c0_16 c0_17 c0_18 c0_19 c0_20 c0_21 c0_22 c0_23 c2_0 c2_1 c2_2 c2_3 c2_4 c2_5 c2_6 c2_7 c2_8 c2_9 c2_10 c2_11 c3_0 c3_1 c3_2 c3_3 c3_4 c3_5 c3_6 c3_7 c3_8 c3_9 c3_10 c3_11; go_simp; try with_reducible rfl)⟩) hS0 ?_
      go_simp
      refine wpAnyH_take (i := 16) (v := ?_) rfl (by kernel_rfl) (by kernel_rfl) (by kernel_rfl) (fun _ _ _ h => h) (Or.inl ⟨by kernel_rfl, by (intro wz hSz; have c0_0 := cell_of_row _ _ 0 _ _ _ hSz.1; have c0_1 := cell_of_row _ _ 1 _ _ _ hSz.1; have c0_2 := cell_of_row _ _ 2 _ _ _ hSz.1; have c0_3 := cell_of_row _ _ 3 _ _ _ hSz.1; have c0_4 := cell_of_row _ _ 4 _ _ _ hSz.1; have c0_5 := cell_of_row _ _ 5 _ _ _ hSz.1; have c0_6 := cell_of_row _ _ 6 _ _ _ hSz.1; have c0_7 := cell_of_row _ _ 7 _ _ _ hSz.1; have c0_8 := cell_of_row _ _ 8 _ _ _ hSz.1; have c0_9 := cell_of_row _ _ 9 _ _ _ hSz.1; have c0_10 := cell_of_row _ _ 10 _ _ _ hSz.1; have c0_11 := cell_of_row _ _ 11 _ _ _ hSz.1; have c0_12 := cell_of_row _ _ 12 _ _ _ hSz.1; have c0_13 := cell_of_row _ _ 13 _ _ _ hSz.1; have c0_14 := cell_of_row _ _ 14 _ _ _ hSz.1; have c0_15 := cell_of_row _ _ 15 _ _ _ hSz.1; have c0_16 := cell_of_row _ _ 16 _ _ _ hSz.1; have c0_17 := cell_of_row _ _ 17 _ _ _ hSz.1; have c0_18 := cell_of_row _ _ 18 _ _ _ hSz.1; have c0_19 := cell_of_row _ _ 19 _ _ _ hSz.1; have c0_20 := cell_of_row _ _ 20 _ _ _ hSz.1; have c0_21 := cell_of_row _ _ 21 _ _ _ hSz.1; have c0_22 := cell_of_row _ _ 22 _ _ _ hSz.1; have c0_23 := cell_of_row _ _ 23 _ _ _ hSz.1; have c2_0 := cell_of_row _ _ 0 _ _ _ hSz.2.1; have c2_1 := cell_of_row _ _ 1 _ _ _ hSz.2.1; have c2_2 := cell_of_row _ _ 2 _ _ _ hSz.2.1; have c2_3 := cell_of_row _ _ 3 _ _ _ hSz.2.1; have c2_4 := cell_of_row _ _ 4 _ _ _ hSz.2.1; have c2_5 := cell_of_row _ _ 5 _ _ _ hSz.2.1; have c2_6 := cell_of_row _ _ 6 _ _ _ hSz.2.1; have c2_7 := cell_of_row _ _ 7 _ _ _ hSz.2.1; have c2_8 := cell_of_row _ _ 8 _ _ _ hSz.2.1; have c2_9 := cell_of_row _ _ 9 _ _ _ hSz.2.1; have c2_10 := cell_of_row _ _ 10 _ _ _ hSz.2.1; have c2_11 := cell_of_row _ _ 11 _ _ _ hSz.2.1; have c3_0 := cell_of_row _ _ 0 _ _ _ hSz.2.2; have c3_1 := cell_of_row _ _ 1 _ _ _ hSz.2.2; have c3_2 := cell_of_row _ _ 2 _ _ _ hSz.2.2; have c3_3 := cell_of_row _ _ 3 _ _ _ hSz.2.2; have c3_4 := cell_of_row _ _ 4 _ _ _ hSz.2.2; have c3_5 := cell_of_row _ _ 5 _ _ _ hSz.2.2; have c3_6 := cell_of_row _ _ 6 _ _ _ hSz.2.2; have c3_7 := cell_of_row _ _ 7 _ _ _ hSz.2.2; have c3_8 := cell_of_row _ _ 8 _ _ _ hSz.2.2; have c3_9 := cell_of_row _ _ 9 _ _ _ hSz.2.2; have c3_10 := cell_of_row _ _ 10 _ _ _ hSz.2.2; have c3_11 := cell_of_row _ _ 11 _ _ _ hSz.2.2; simp at c0_0 c0_1 c0_2 c0_3 c0_4 c0_5 c0_6 c0_7 c0_8 c0_9 c0_10 c0_11 c0_12 c0_13 c0_14 c0_15 c0_16 c0_17 c0_18 c0_19 c0_20 c0_21 c0_22 c0_23 c2_0 c2_1 c2_2 c2_3 c2_4 c2_5 c2_6 c2_7 c2_8 c2_9 c2_10 c2_11 c3_0 c3_1 c3_2 c3_3 c3_4 c3_5 c3_6 c3_7 c3_8 c3_9 c3_10 c3_11; go_simp; try with_reducible rfl)⟩) hS0 ?_
      go_simp
      refine wpAnyH_ready (rs := [14]) (by kernel_rfl) (by simp) ?_
      refine AllReadyH.cons rfl (fun K hK => ?_) AllReadyH.nil
      go_simp
      go_wp2_with (go_at_call 70; refine (reach_any _ _ _ _ _ _ _ _ _ _ _ _ _ ).mono ?_; rintro e y7 ⟨rfl, hb7⟩)
      have hr7_0 := (hb7.block _ (lt_heap hr6_0)).trans hr6_0
      have hr7_1 := (hb7.block _ (lt_heap hr6_1)).trans hr6_1
      have hr7_2 := (hb7.block _ (lt_heap hr6_2)).trans hr6_2
      have hr7_3 := (hb7.block _ (lt_heap hr6_3)).trans hr6_3
      have HU7 := Lib.hid (HU6.out.trans (hb7.mono HU6.out.size))
      refine hK.out _ _ (⟨(hb7.block _ (lt_heap hS0.1)).trans hS0.1, (hb7.block _ (lt_heap hS0.2.1)).trans hS0.2.1, (hb7.block _ (lt_heap hS0.2.2)).trans hS0.2.2⟩) (fun hS7c => ?_)
      clear hK K
      refine wpAnyH_ready (rs := [15]) (by kernel_rfl) (by simp) ?_
      refine AllReadyH.cons rfl (fun K hK => ?_) AllReadyH.nil
      go_simp
      go_wp2_with (go_at_call 69; refine (alike_any _ _).mono ?_; rintro e y8 ⟨rfl, hb8⟩)
      have hr8_0 := (hb8.block _ (lt_heap hr7_0)).trans hr7_0
      have hr8_1 := (hb8.block _ (lt_heap hr7_1)).trans hr7_1
      have hr8_2 := (hb8.block _ (lt_heap hr7_2)).trans hr7_2
      have hr8_3 := (hb8.block _ (lt_heap hr7_3)).trans hr7_3
      have HU8 := Lib.hid (HU7.out.trans (hb8.mono HU7.out.size))
      refine hK.out _ _ (⟨(hb8.block _ (lt_heap hS7c.1)).trans hS7c.1, (hb8.block _ (lt_heap hS7c.2.1)).trans hS7c.2.1, (hb8.block _ (lt_heap hS7c.2.2)).trans hS7c.2.2⟩) (fun hS8c => ?_)
      clear hK K
      refine wpAnyH_ready (rs := [17]) (by kernel_rfl) (by simp) ?_
      refine AllReadyH.cons rfl (fun K hK => ?_) AllReadyH.nil
      go_simp
      go_wp2_with (go_at_call 70; refine (reach_any _ _ _ _ _ _ _ _ _ _ _ _ _ ).mono ?_; rintro e y9 ⟨rfl, hb9⟩)
      have hr9_0 := (hb9.block _ (lt_heap hr8_0)).trans hr8_0
      have hr9_1 := (hb9.block _ (lt_heap hr8_1)).trans hr8_1
      have hr9_2 := (hb9.block _ (lt_heap hr8_2)).trans hr8_2
      have hr9_3 := (hb9.block _ (lt_heap hr8_3)).trans hr8_3
      have HU9 := Lib.hid (HU8.out.trans (hb9.mono HU8.out.size))
      refine hK.out _ _ (⟨(hb9.block _ (lt_heap hS8c.1)).trans hS8c.1, (hb9.block _ (lt_heap hS8c.2.1)).trans hS8c.2.1, (hb9.block _ (lt_heap hS8c.2.2)).trans hS8c.2.2⟩) (fun hS9c => ?_)
      clear hK K
      refine wpAnyH_ready (rs := [18]) (by kernel_rfl) (by simp) ?_
      refine AllReadyH.cons rfl (fun K hK => ?_) AllReadyH.nil
      go_simp
      go_wp2_with (go_at_call 69; refine (alike_any _ _).mono ?_; rintro e y10 ⟨rfl, hb10⟩)
      have hr10_0 := (hb10.block _ (lt_heap hr9_0)).trans hr9_0
      have hr10_1 := (hb10.block _ (lt_heap hr9_1)).trans hr9_1
      have hr10_2 := (hb10.block _ (lt_heap hr9_2)).trans hr9_2
      have hr10_3 := (hb10.block _ (lt_heap hr9_3)).trans hr9_3
      have HU10 := Lib.hid (HU9.out.trans (hb10.mono HU9.out.size))
      refine hK.out _ _ (⟨(hb10.block _ (lt_heap hS9c.1)).trans hS9c.1, (hb10.block _ (lt_heap hS9c.2.1)).trans hS9c.2.1, (hb10.block _ (lt_heap hS9c.2.2)).trans hS9c.2.2⟩) (fun hS10c => ?_)
      clear hK K
      refine wpAnyH_ready (rs := [19]) (by kernel_rfl) (by simp) ?_
      refine AllReadyH.cons rfl (fun K hK => ?_) AllReadyH.nil
      go_simp
      have hb11 := below_n1 y10 (.cells #[.int .i64 (Pl.sub a2 (Pl.add a11 8192)), .int .i64 (Pl.sub a3 (Pl.add a11 8192)), .int .i64 (Pl.sub a4 (Pl.add a11 8192)), .int .i64 (Pl.add a2 (Pl.add a11 8192)), .int .i64 (Pl.add a3 (Pl.add a11 8192)), .int .i64 (Pl.add a4 (Pl.add a11 8192)), .int .i64 (Pl.sub a14 (Pl.add a23 8192)), .int .i64 (Pl.sub a15 (Pl.add a23 8192)), .int .i64 (Pl.sub a16 (Pl.add a23 8192)), .int .i64 (Pl.add a14 (Pl.add a23 8192)), .int .i64 (Pl.add a15 (Pl.add a23 8192)), .int .i64 (Pl.add a16 (Pl.add a23 8192)), .int .i64 (Pl.add a11 8192), .int .i64 (Pl.add a11 8192), .int .i64 (Pl.add a11 8192), .int .i64 (Pl.add a23 8192), .int .i64 (Pl.add a23 8192), .int .i64 (Pl.add a23 8192)] 71)
      have hN := heap_alloc_last y10 (.cells #[.int .i64 (Pl.sub a2 (Pl.add a11 8192)), .int .i64 (Pl.sub a3 (Pl.add a11 8192)), .int .i64 (Pl.sub a4 (Pl.add a11 8192)), .int .i64 (Pl.add a2 (Pl.add a11 8192)), .int .i64 (Pl.add a3 (Pl.add a11 8192)), .int .i64 (Pl.add a4 (Pl.add a11 8192)), .int .i64 (Pl.sub a14 (Pl.add a23 8192)), .int .i64 (Pl.sub a15 (Pl.add a23 8192)), .int .i64 (Pl.sub a16 (Pl.add a23 8192)), .int .i64 (Pl.add a14 (Pl.add a23 8192)), .int .i64 (Pl.add a15 (Pl.add a23 8192)), .int .i64 (Pl.add a16 (Pl.add a23 8192)), .int .i64 (Pl.add a11 8192), .int .i64 (Pl.add a11 8192), .int .i64 (Pl.add a11 8192), .int .i64 (Pl.add a23 8192), .int .i64 (Pl.add a23 8192), .int .i64 (Pl.add a23 8192)] 71)
      obtain ⟨y11, hy11⟩ : ∃ y, y10.alloc (.cells #[.int .i64 (Pl.sub a2 (Pl.add a11 8192)), .int .i64 (Pl.sub a3 (Pl.add a11 8192)), .int .i64 (Pl.sub a4 (Pl.add a11 8192)), .int .i64 (Pl.add a2 (Pl.add a11 8192)), .int .i64 (Pl.add a3 (Pl.add a11 8192)), .int .i64 (Pl.add a4 (Pl.add a11 8192)), .int .i64 (Pl.sub a14 (Pl.add a23 8192)), .int .i64 (Pl.sub a15 (Pl.add a23 8192)), .int .i64 (Pl.sub a16 (Pl.add a23 8192)), .int .i64 (Pl.add a14 (Pl.add a23 8192)), .int .i64 (Pl.add a15 (Pl.add a23 8192)), .int .i64 (Pl.add a16 (Pl.add a23 8192)), .int .i64 (Pl.add a11 8192), .int .i64 (Pl.add a11 8192), .int .i64 (Pl.add a11 8192), .int .i64 (Pl.add a23 8192), .int .i64 (Pl.add a23 8192), .int .i64 (Pl.add a23 8192)] 71) = y := ⟨_, rfl⟩
      rw [hy11] at hb11 hN ⊢
      clear hy11
      have hl11_0 := lt_heap hr10_0
      have hr11_0 := (hb11.block _ (lt_heap hr10_0)).trans hr10_0
      have hl11_1 := lt_heap hr10_1
      have hr11_1 := (hb11.block _ (lt_heap hr10_1)).trans hr10_1
      have hl11_2 := lt_heap hr10_2
      have hr11_2 := (hb11.block _ (lt_heap hr10_2)).trans hr10_2
      have hl11_3 := lt_heap hr10_3
      have hr11_3 := (hb11.block _ (lt_heap hr10_3)).trans hr10_3
      have hr11_4 := hN
      clear hN
      have HU11 := Lib.hid (HU10.out.trans (hb11.mono HU10.out.size))
      refine hK.out _ _ (⟨(hb11.block _ (lt_heap hS10c.1)).trans hS10c.1, (hb11.block _ (lt_heap hS10c.2.1)).trans hS10c.2.1, (hb11.block _ (lt_heap hS10c.2.2)).trans hS10c.2.2⟩) (fun hS11a => ?_)
      clear hK K
      refine wpAnyH_ready (rs := [20]) (by kernel_rfl) (by simp) ?_
      refine AllReadyH.cons rfl (fun K hK => ?_) AllReadyH.nil
      go_simp
      go_wp2_with (go_at_call 68; refine (atend_row (y10.heap.size) 6 _ (l18 (Pl.sub a2 (Pl.add a11 8192)) (Pl.sub a3 (Pl.add a11 8192)) (Pl.sub a4 (Pl.add a11 8192)) (Pl.add a2 (Pl.add a11 8192)) (Pl.add a3 (Pl.add a11 8192)) (Pl.add a4 (Pl.add a11 8192)) (Pl.sub a14 (Pl.add a23 8192)) (Pl.sub a15 (Pl.add a23 8192)) (Pl.sub a16 (Pl.add a23 8192)) (Pl.add a14 (Pl.add a23 8192)) (Pl.add a15 (Pl.add a23 8192)) (Pl.add a16 (Pl.add a23 8192)) (Pl.add a11 8192) (Pl.add a23 8192)) (by omega) _ (lt_heap hr11_4) (fun j hj => by rcases (show j = 0 ∨ j = 1 ∨ j = 2 ∨ j = 3 ∨ j = 4 ∨ j = 5 ∨ j = 6 ∨ j = 7 ∨ j = 8 ∨ j = 9 ∨ j = 10 ∨ j = 11 ∨ j = 12 ∨ j = 13 ∨ j = 14 ∨ j = 15 ∨ j = 16 ∨ j = 17 by omega) with rfl | rfl | rfl | rfl | rfl | rfl | rfl | rfl | rfl | rfl | rfl | rfl | rfl | rfl | rfl | rfl | rfl | rfl <;> exact cell_of_row _ _ _ _ _ _ hr11_4)).mono ?_; rintro e y12 ⟨rfl, hb12⟩; rw [hv])
      have hr12_0 := (hb12.block _ (lt_heap hr11_0)).trans hr11_0
      have hr12_1 := (hb12.block _ (lt_heap hr11_1)).trans hr11_1
      have hr12_2 := (hb12.block _ (lt_heap hr11_2)).trans hr11_2
      have hr12_3 := (hb12.block _ (lt_heap hr11_3)).trans hr11_3
      have hr12_4 := (hb12.block _ (lt_heap hr11_4)).trans hr11_4
      have HU12 := Lib.hid (HU11.out.trans (hb12.mono HU11.out.size))
      refine hK.out _ _ (⟨(hb12.block _ (lt_heap hS11a.1)).trans hS11a.1, (hb12.block _ (lt_heap hS11a.2.1)).trans hS11a.2.1, (hb12.block _ (lt_heap hS11a.2.2)).trans hS11a.2.2⟩) (fun hS12c => ?_)
      clear hK K
      refine wpAnyH_done (by kernel_rfl) ?_ _
      go_wp2_with fail
      refine (ball_any _).mono ?_
      rintro e y13 ⟨rfl, hb13⟩
      have hr13_0 := (hb13.block _ (lt_heap hr12_0)).trans hr12_0
      have hr13_1 := (hb13.block _ (lt_heap hr12_1)).trans hr12_1
      have hr13_2 := (hb13.block _ (lt_heap hr12_2)).trans hr12_2
      have hr13_3 := (hb13.block _ (lt_heap hr12_3)).trans hr12_3
      have hr13_4 := (hb13.block _ (lt_heap hr12_4)).trans hr12_4
      have HU13 := Lib.hid (HU12.out.trans (hb13.mono HU12.out.size))
      clear hr12_0 hr12_1 hr12_2 hr12_3 hr12_4 HU12
      go_wp2_with fail
      refine (ball_any _).mono ?_
      rintro e y14 ⟨rfl, hb14⟩
      have hr14_0 := (hb14.block _ (lt_heap hr13_0)).trans hr13_0
      have hr14_1 := (hb14.block _ (lt_heap hr13_1)).trans hr13_1
      have hr14_2 := (hb14.block _ (lt_heap hr13_2)).trans hr13_2
      have hr14_3 := (hb14.block _ (lt_heap hr13_3)).trans hr13_3
      have hr14_4 := (hb14.block _ (lt_heap hr13_4)).trans hr13_4
      have HU14 := Lib.hid (HU13.out.trans (hb14.mono HU13.out.size))
      clear hr13_0 hr13_1 hr13_2 hr13_3 hr13_4 HU13
      have hHr := Lib.hid hr14_1
      have hHi := Lib.hid (show (Try.prog.info? 75).map (·.size) = some (#[.int .i64 (-2147483648), .int .i64 (-2147483648), .int .i64 (-2147483648), .int .i64 2147483648, .int .i64 2147483648, .int .i64 2147483648, .int .i64 (-2147483648), .int .i64 (-2147483648), .int .i64 (-2147483648), .int .i64 2147483648, .int .i64 2147483648, .int .i64 2147483648] : Array Value).size by kernel_rfl)
      have hHz := Lib.hid (show (#[.int .i64 0, .int .i64 0, .int .i64 0, .int .i64 0, .int .i64 0, .int .i64 0, .int .i64 0, .int .i64 0, .int .i64 0, .int .i64 0, .int .i64 0, .int .i64 0] : Array Value).size = (#[.int .i64 (-2147483648), .int .i64 (-2147483648), .int .i64 (-2147483648), .int .i64 2147483648, .int .i64 2147483648, .int .i64 2147483648, .int .i64 (-2147483648), .int .i64 (-2147483648), .int .i64 (-2147483648), .int .i64 2147483648, .int .i64 2147483648, .int .i64 2147483648] : Array Value).size from rfl)
      have hHo := Lib.hid (show (#[.int .i64 (-2147483648), .int .i64 (-2147483648), .int .i64 (-2147483648), .int .i64 2147483648, .int .i64 2147483648, .int .i64 2147483648, .int .i64 (-2147483648), .int .i64 (-2147483648), .int .i64 (-2147483648), .int .i64 2147483648, .int .i64 2147483648, .int .i64 2147483648] : Array Value).all (·.oneCell') = true by simp [Value.oneCell'])
      go_wp2_with (first | (refine Au.wpList_store_row rfl 75 (.tmp 2) (.tmp 40) rfl y14 #[.int .i64 0, .int .i64 0, .int .i64 0, .int .i64 0, .int .i64 0, .int .i64 0, .int .i64 0, .int .i64 0, .int .i64 0, .int .i64 0, .int .i64 0, .int .i64 0] #[.int .i64 (-2147483648), .int .i64 (-2147483648), .int .i64 (-2147483648), .int .i64 2147483648, .int .i64 2147483648, .int .i64 2147483648, .int .i64 (-2147483648), .int .i64 (-2147483648), .int .i64 (-2147483648), .int .i64 2147483648, .int .i64 2147483648, .int .i64 2147483648] (w.heap.size + 1) 75 hHr.out rfl rfl hHi.out hHz.out hHo.out ?_))
      clear hHr hHi hHz hHo
      have hN := setRow_heap _ (w.heap.size + 1) _ #[.int .i64 (-2147483648), .int .i64 (-2147483648), .int .i64 (-2147483648), .int .i64 2147483648, .int .i64 2147483648, .int .i64 2147483648, .int .i64 (-2147483648), .int .i64 (-2147483648), .int .i64 (-2147483648), .int .i64 2147483648, .int .i64 2147483648, .int .i64 2147483648] _ _ hr14_1
      have hsz := HU14.out.size
      have HUx := below_setRow (g := w.heap.size + 1) HU14.out (by first | omega | (simp at *; omega)) #[.int .i64 (-2147483648), .int .i64 (-2147483648), .int .i64 (-2147483648), .int .i64 2147483648, .int .i64 2147483648, .int .i64 2147483648, .int .i64 (-2147483648), .int .i64 (-2147483648), .int .i64 (-2147483648), .int .i64 2147483648, .int .i64 2147483648, .int .i64 2147483648]
      have hO : ∀ kk, kk ≠ w.heap.size + 1 → (y14.setRow (w.heap.size + 1) #[.int .i64 (-2147483648), .int .i64 (-2147483648), .int .i64 (-2147483648), .int .i64 2147483648, .int .i64 2147483648, .int .i64 2147483648, .int .i64 (-2147483648), .int .i64 (-2147483648), .int .i64 (-2147483648), .int .i64 2147483648, .int .i64 2147483648, .int .i64 2147483648]).heap[kk]? = y14.heap[kk]? := fun kk hk => setRow_other _ _ _ _ hk
      obtain ⟨y15, hy15⟩ : ∃ y, y14.setRow (w.heap.size + 1) #[.int .i64 (-2147483648), .int .i64 (-2147483648), .int .i64 (-2147483648), .int .i64 2147483648, .int .i64 2147483648, .int .i64 2147483648, .int .i64 (-2147483648), .int .i64 (-2147483648), .int .i64 (-2147483648), .int .i64 2147483648, .int .i64 2147483648, .int .i64 2147483648] = y := ⟨_, rfl⟩
      rw [hy15] at hN HUx hO ⊢
      clear hy15 hsz
      have HU15 := Lib.hid HUx
      clear HUx
      have hr15_0 := (hO _ (by omega)).trans hr14_0
      have hr15_1 := hN
      have hr15_2 := (hO _ (by omega)).trans hr14_2
      have hr15_3 := (hO _ (by omega)).trans hr14_3
      have hr15_4 := (hO _ (by omega)).trans hr14_4
      clear hN hO
      clear hr14_0 hr14_1 hr14_2 hr14_3 hr14_4 HU14
      go_wp2
      all_goals exact bodyPost_ret (v := .agg #[.int .i64 (-2147483648), .int .i64 (-2147483648), .int .i64 (-2147483648), .int .i64 2147483648, .int .i64 2147483648, .int .i64 2147483648, .int .i64 (-2147483648), .int .i64 (-2147483648), .int .i64 (-2147483648), .int .i64 2147483648, .int .i64 2147483648, .int .i64 2147483648]) (results_row (t := 75) Try.results24 rfl hr15_1 Try.underlying75 rfl (by kernel_rfl)) rfl ⟨by first | rfl | rw [if_pos rfl] | simp, HU15.out⟩

set_option maxHeartbeats 8000000 in
set_option maxRecDepth 100000 in
theorem bmoving_face (a0 a1 a2 a3 a4 a5 a6 a7 a8 a9 a10 a11 a12 a13 a14 a15 a16 a17 a18 a19 a20 a21 a22 a23 : Int) (hk : ¬ a0 = 0) (w : World)  : Calls Try.prog 24 #[.agg #[.int .i64 a0, .int .i64 a1, .int .i64 a2, .int .i64 a3, .int .i64 a4, .int .i64 a5, .int .i64 a6, .int .i64 a7, .int .i64 a8, .int .i64 a9, .int .i64 a10, .int .i64 a11, .int .i64 a12, .int .i64 a13, .int .i64 a14, .int .i64 a15, .int .i64 a16, .int .i64 a17, .int .i64 a18, .int .i64 a19, .int .i64 a20, .int .i64 a21, .int .i64 a22, .int .i64 a23]] w fun e' w' => e' = .returned (if anyE (l18 (Pl.sub (min a2 (min a5 a8)) 8192) (Pl.sub (min a3 (min a6 a9)) 8192) (Pl.sub (min a4 (min a7 a10)) 8192) (Pl.add (max a2 (max a5 a8)) 8192) (Pl.add (max a3 (max a6 a9)) 8192) (Pl.add (max a4 (max a7 a10)) 8192) (Pl.sub (min a14 (min a17 a20)) 8192) (Pl.sub (min a15 (min a18 a21)) 8192) (Pl.sub (min a16 (min a19 a22)) 8192) (Pl.add (max a14 (max a17 a20)) 8192) (Pl.add (max a15 (max a18 a21)) 8192) (Pl.add (max a16 (max a19 a22)) 8192) (Pl.add a11 8192) (Pl.add a23 8192)) 6 = true then .agg #[.int .i64 (-2147483648), .int .i64 (-2147483648), .int .i64 (-2147483648), .int .i64 2147483648, .int .i64 2147483648, .int .i64 2147483648, .int .i64 (-2147483648), .int .i64 (-2147483648), .int .i64 (-2147483648), .int .i64 2147483648, .int .i64 2147483648, .int .i64 2147483648] else .agg #[.int .i64 (Pl.sub (min a2 (min a5 a8)) 8192), .int .i64 (Pl.sub (min a3 (min a6 a9)) 8192), .int .i64 (Pl.sub (min a4 (min a7 a10)) 8192), .int .i64 (Pl.add (max a2 (max a5 a8)) 8192), .int .i64 (Pl.add (max a3 (max a6 a9)) 8192), .int .i64 (Pl.add (max a4 (max a7 a10)) 8192), .int .i64 (Pl.sub (min a14 (min a17 a20)) 8192), .int .i64 (Pl.sub (min a15 (min a18 a21)) 8192), .int .i64 (Pl.sub (min a16 (min a19 a22)) 8192), .int .i64 (Pl.add (max a14 (max a17 a20)) 8192), .int .i64 (Pl.add (max a15 (max a18 a21)) 8192), .int .i64 (Pl.add (max a16 (max a19 a22)) 8192)]) ∧ Below w.heap.size w w' := by
  go_enter Try.func24, Try.ntmps24
  go_upto_region 1 with fail
  have hR := Au.rows2 w (.cells #[.int .i64 a0, .int .i64 a1, .int .i64 a2, .int .i64 a3, .int .i64 a4, .int .i64 a5, .int .i64 a6, .int .i64 a7, .int .i64 a8, .int .i64 a9, .int .i64 a10, .int .i64 a11, .int .i64 a12, .int .i64 a13, .int .i64 a14, .int .i64 a15, .int .i64 a16, .int .i64 a17, .int .i64 a18, .int .i64 a19, .int .i64 a20, .int .i64 a21, .int .i64 a22, .int .i64 a23] 91) (.cells #[.int .i64 0, .int .i64 0, .int .i64 0, .int .i64 0, .int .i64 0, .int .i64 0, .int .i64 0, .int .i64 0, .int .i64 0, .int .i64 0, .int .i64 0, .int .i64 0] 75)
  have HUx := below_n2 w (.cells #[.int .i64 a0, .int .i64 a1, .int .i64 a2, .int .i64 a3, .int .i64 a4, .int .i64 a5, .int .i64 a6, .int .i64 a7, .int .i64 a8, .int .i64 a9, .int .i64 a10, .int .i64 a11, .int .i64 a12, .int .i64 a13, .int .i64 a14, .int .i64 a15, .int .i64 a16, .int .i64 a17, .int .i64 a18, .int .i64 a19, .int .i64 a20, .int .i64 a21, .int .i64 a22, .int .i64 a23] 91) (.cells #[.int .i64 0, .int .i64 0, .int .i64 0, .int .i64 0, .int .i64 0, .int .i64 0, .int .i64 0, .int .i64 0, .int .i64 0, .int .i64 0, .int .i64 0, .int .i64 0] 75)
  obtain ⟨y0, hy0⟩ : ∃ y0, (w.alloc (.cells #[.int .i64 a0, .int .i64 a1, .int .i64 a2, .int .i64 a3, .int .i64 a4, .int .i64 a5, .int .i64 a6, .int .i64 a7, .int .i64 a8, .int .i64 a9, .int .i64 a10, .int .i64 a11, .int .i64 a12, .int .i64 a13, .int .i64 a14, .int .i64 a15, .int .i64 a16, .int .i64 a17, .int .i64 a18, .int .i64 a19, .int .i64 a20, .int .i64 a21, .int .i64 a22, .int .i64 a23] 91)).alloc (.cells #[.int .i64 0, .int .i64 0, .int .i64 0, .int .i64 0, .int .i64 0, .int .i64 0, .int .i64 0, .int .i64 0, .int .i64 0, .int .i64 0, .int .i64 0, .int .i64 0] 75) = y0 := ⟨_, rfl⟩
  rw [hy0] at hR HUx ⊢
  clear hy0
  have HU0 := Lib.hid HUx
  clear HUx
  obtain ⟨hr0_0, hr0_1⟩ := hR
  have c0_0 := cell_of_row _ _ 0 _ _ _ hr0_0
  have c0_1 := cell_of_row _ _ 1 _ _ _ hr0_0
  have c0_2 := cell_of_row _ _ 2 _ _ _ hr0_0
  have c0_3 := cell_of_row _ _ 3 _ _ _ hr0_0
  have c0_4 := cell_of_row _ _ 4 _ _ _ hr0_0
  have c0_5 := cell_of_row _ _ 5 _ _ _ hr0_0
  have c0_6 := cell_of_row _ _ 6 _ _ _ hr0_0
  have c0_7 := cell_of_row _ _ 7 _ _ _ hr0_0
  have c0_8 := cell_of_row _ _ 8 _ _ _ hr0_0
  have c0_9 := cell_of_row _ _ 9 _ _ _ hr0_0
  have c0_10 := cell_of_row _ _ 10 _ _ _ hr0_0
  have c0_11 := cell_of_row _ _ 11 _ _ _ hr0_0
  have c0_12 := cell_of_row _ _ 12 _ _ _ hr0_0
  have c0_13 := cell_of_row _ _ 13 _ _ _ hr0_0
  have c0_14 := cell_of_row _ _ 14 _ _ _ hr0_0
  have c0_15 := cell_of_row _ _ 15 _ _ _ hr0_0
  have c0_16 := cell_of_row _ _ 16 _ _ _ hr0_0
  have c0_17 := cell_of_row _ _ 17 _ _ _ hr0_0
  have c0_18 := cell_of_row _ _ 18 _ _ _ hr0_0
  have c0_19 := cell_of_row _ _ 19 _ _ _ hr0_0
  have c0_20 := cell_of_row _ _ 20 _ _ _ hr0_0
  have c0_21 := cell_of_row _ _ 21 _ _ _ hr0_0
  have c0_22 := cell_of_row _ _ 22 _ _ _ hr0_0
  have c0_23 := cell_of_row _ _ 23 _ _ _ hr0_0
  have c1_0 := cell_of_row _ _ 0 _ _ _ hr0_1
  have c1_1 := cell_of_row _ _ 1 _ _ _ hr0_1
  have c1_2 := cell_of_row _ _ 2 _ _ _ hr0_1
  have c1_3 := cell_of_row _ _ 3 _ _ _ hr0_1
  have c1_4 := cell_of_row _ _ 4 _ _ _ hr0_1
  have c1_5 := cell_of_row _ _ 5 _ _ _ hr0_1
  have c1_6 := cell_of_row _ _ 6 _ _ _ hr0_1
  have c1_7 := cell_of_row _ _ 7 _ _ _ hr0_1
  have c1_8 := cell_of_row _ _ 8 _ _ _ hr0_1
  have c1_9 := cell_of_row _ _ 9 _ _ _ hr0_1
  have c1_10 := cell_of_row _ _ 10 _ _ _ hr0_1
  have c1_11 := cell_of_row _ _ 11 _ _ _ hr0_1
  simp at c0_0 c0_1 c0_2 c0_3 c0_4 c0_5 c0_6 c0_7 c0_8 c0_9 c0_10 c0_11 c0_12 c0_13 c0_14 c0_15 c0_16 c0_17 c0_18 c0_19 c0_20 c0_21 c0_22 c0_23 c1_0 c1_1 c1_2 c1_3 c1_4 c1_5 c1_6 c1_7 c1_8 c1_9 c1_10 c1_11
  go_upto_region 2 with fail
  clear c0_0 c0_1 c0_2 c0_3 c0_4 c0_5 c0_6 c0_7 c0_8 c0_9 c0_10 c0_11 c0_12 c0_13 c0_14 c0_15 c0_16 c0_17 c0_18 c0_19 c0_20 c0_21 c0_22 c0_23 c1_0 c1_1 c1_2 c1_3 c1_4 c1_5 c1_6 c1_7 c1_8 c1_9 c1_10 c1_11
  have hb1 := below_n1 y0 (.cells #[.int .i64 a12, .int .i64 a13, .int .i64 a14, .int .i64 a15, .int .i64 a16, .int .i64 a17, .int .i64 a18, .int .i64 a19, .int .i64 a20, .int .i64 a21, .int .i64 a22, .int .i64 a23] 89)
  have hN := heap_alloc_last y0 (.cells #[.int .i64 a12, .int .i64 a13, .int .i64 a14, .int .i64 a15, .int .i64 a16, .int .i64 a17, .int .i64 a18, .int .i64 a19, .int .i64 a20, .int .i64 a21, .int .i64 a22, .int .i64 a23] 89)
  obtain ⟨y1, hy1⟩ : ∃ y, y0.alloc (.cells #[.int .i64 a12, .int .i64 a13, .int .i64 a14, .int .i64 a15, .int .i64 a16, .int .i64 a17, .int .i64 a18, .int .i64 a19, .int .i64 a20, .int .i64 a21, .int .i64 a22, .int .i64 a23] 89) = y := ⟨_, rfl⟩
  have hs1 : y1.heap.size = y0.heap.size + 1 := by rw [← hy1]; simp
  rw [hy1] at hb1 hN ⊢
  clear hy1
  have hl1_0 := lt_heap hr0_0
  have hl1_1 := lt_heap hr0_1
  have hr1_0 := (hb1.block _ (lt_heap hr0_0)).trans hr0_0
  have hr1_1 := (hb1.block _ (lt_heap hr0_1)).trans hr0_1
  have HU1 := Lib.hid (HU0.out.trans (hb1.mono HU0.out.size))
  clear hr0_0 hr0_1 HU0
  have hr1_2 := hN
  clear hN
  have c0_0 := cell_of_row _ _ 0 _ _ _ hr1_0
  have c0_1 := cell_of_row _ _ 1 _ _ _ hr1_0
  have c0_2 := cell_of_row _ _ 2 _ _ _ hr1_0
  have c0_3 := cell_of_row _ _ 3 _ _ _ hr1_0
  have c0_4 := cell_of_row _ _ 4 _ _ _ hr1_0
  have c0_5 := cell_of_row _ _ 5 _ _ _ hr1_0
  have c0_6 := cell_of_row _ _ 6 _ _ _ hr1_0
  have c0_7 := cell_of_row _ _ 7 _ _ _ hr1_0
  have c0_8 := cell_of_row _ _ 8 _ _ _ hr1_0
  have c0_9 := cell_of_row _ _ 9 _ _ _ hr1_0
  have c0_10 := cell_of_row _ _ 10 _ _ _ hr1_0
  have c0_11 := cell_of_row _ _ 11 _ _ _ hr1_0
  have c0_12 := cell_of_row _ _ 12 _ _ _ hr1_0
  have c0_13 := cell_of_row _ _ 13 _ _ _ hr1_0
  have c0_14 := cell_of_row _ _ 14 _ _ _ hr1_0
  have c0_15 := cell_of_row _ _ 15 _ _ _ hr1_0
  have c0_16 := cell_of_row _ _ 16 _ _ _ hr1_0
  have c0_17 := cell_of_row _ _ 17 _ _ _ hr1_0
  have c0_18 := cell_of_row _ _ 18 _ _ _ hr1_0
  have c0_19 := cell_of_row _ _ 19 _ _ _ hr1_0
  have c0_20 := cell_of_row _ _ 20 _ _ _ hr1_0
  have c0_21 := cell_of_row _ _ 21 _ _ _ hr1_0
  have c0_22 := cell_of_row _ _ 22 _ _ _ hr1_0
  have c0_23 := cell_of_row _ _ 23 _ _ _ hr1_0
  have c2_0 := cell_of_row _ _ 0 _ _ _ hr1_2
  have c2_1 := cell_of_row _ _ 1 _ _ _ hr1_2
  have c2_2 := cell_of_row _ _ 2 _ _ _ hr1_2
  have c2_3 := cell_of_row _ _ 3 _ _ _ hr1_2
  have c2_4 := cell_of_row _ _ 4 _ _ _ hr1_2
  have c2_5 := cell_of_row _ _ 5 _ _ _ hr1_2
  have c2_6 := cell_of_row _ _ 6 _ _ _ hr1_2
  have c2_7 := cell_of_row _ _ 7 _ _ _ hr1_2
  have c2_8 := cell_of_row _ _ 8 _ _ _ hr1_2
  have c2_9 := cell_of_row _ _ 9 _ _ _ hr1_2
  have c2_10 := cell_of_row _ _ 10 _ _ _ hr1_2
  have c2_11 := cell_of_row _ _ 11 _ _ _ hr1_2
  simp at c0_0 c0_1 c0_2 c0_3 c0_4 c0_5 c0_6 c0_7 c0_8 c0_9 c0_10 c0_11 c0_12 c0_13 c0_14 c0_15 c0_16 c0_17 c0_18 c0_19 c0_20 c0_21 c0_22 c0_23 c2_0 c2_1 c2_2 c2_3 c2_4 c2_5 c2_6 c2_7 c2_8 c2_9 c2_10 c2_11
  have fz : ∀ j, y1.frozen? ⟨y0.heap.size, j, none⟩ = false := fun j => by simp [World.frozen?, hr1_2]
  go_upto_region 3 with fail
  clear fz
  clear c0_0 c0_1 c0_2 c0_3 c0_4 c0_5 c0_6 c0_7 c0_8 c0_9 c0_10 c0_11 c0_12 c0_13 c0_14 c0_15 c0_16 c0_17 c0_18 c0_19 c0_20 c0_21 c0_22 c0_23 c2_0 c2_1 c2_2 c2_3 c2_4 c2_5 c2_6 c2_7 c2_8 c2_9 c2_10 c2_11
  have hN : (y1.setCell ⟨y0.heap.size, 0, none⟩ (.int .i64 a0)).heap[y0.heap.size]? = some (.cells #[.int .i64 a0, .int .i64 a13, .int .i64 a14, .int .i64 a15, .int .i64 a16, .int .i64 a17, .int .i64 a18, .int .i64 a19, .int .i64 a20, .int .i64 a21, .int .i64 a22, .int .i64 a23] 89 (0, 0)) := heap_setCell_same _ _ 0 _ _ _ hr1_2
  have hO : ∀ kk, kk ≠ y0.heap.size → (y1.setCell ⟨y0.heap.size, 0, none⟩ (.int .i64 a0)).heap[kk]? = y1.heap[kk]? := fun kk hk => Below.heap_setCell _ _ _ _ hk
  have HUx : Below w.heap.size w (y1.setCell ⟨y0.heap.size, 0, none⟩ (.int .i64 a0)) := HU1.out.setCell (by show w.heap.size ≤ y0.heap.size; omega) _
  obtain ⟨y2, hy2⟩ : ∃ y, y1.setCell ⟨y0.heap.size, 0, none⟩ (.int .i64 a0) = y := ⟨_, rfl⟩
  rw [hy2] at hN hO HUx ⊢
  clear hy2
  have HU2 := Lib.hid HUx
  have hr2_0 := (hO _ (by omega)).trans hr1_0
  have hr2_1 := (hO _ (by omega)).trans hr1_1
  have hr2_2 := hN
  clear hN hO HUx
  clear hr1_0 hr1_1 hr1_2 HU1
  go_cut [4] (fun s4 wx => ∃ gp : Nat, s4 = .pointer (some ⟨gp, 0, none⟩) ∧ y0.heap.size < gp ∧ wx.heap[gp]? = some (.cells #[.int .i64 (Pl.sub (min a2 (min a5 a8)) 8192), .int .i64 (Pl.sub (min a3 (min a6 a9)) 8192), .int .i64 (Pl.sub (min a4 (min a7 a10)) 8192), .int .i64 (Pl.add (max a2 (max a5 a8)) 8192), .int .i64 (Pl.add (max a3 (max a6 a9)) 8192), .int .i64 (Pl.add (max a4 (max a7 a10)) 8192), .int .i64 (Pl.sub (min a14 (min a17 a20)) 8192), .int .i64 (Pl.sub (min a15 (min a18 a21)) 8192), .int .i64 (Pl.sub (min a16 (min a19 a22)) 8192), .int .i64 (Pl.add (max a14 (max a17 a20)) 8192), .int .i64 (Pl.add (max a15 (max a18 a21)) 8192), .int .i64 (Pl.add (max a16 (max a19 a22)) 8192)] 75 (0, 0)) ∧ wx.heap[w.heap.size]? = some (.cells #[.int .i64 a0, .int .i64 a1, .int .i64 a2, .int .i64 a3, .int .i64 a4, .int .i64 a5, .int .i64 a6, .int .i64 a7, .int .i64 a8, .int .i64 a9, .int .i64 a10, .int .i64 a11, .int .i64 a12, .int .i64 a13, .int .i64 a14, .int .i64 a15, .int .i64 a16, .int .i64 a17, .int .i64 a18, .int .i64 a19, .int .i64 a20, .int .i64 a21, .int .i64 a22, .int .i64 a23] 91 (0, 0)) ∧ wx.heap[w.heap.size + 1]? = some (.cells #[.int .i64 0, .int .i64 0, .int .i64 0, .int .i64 0, .int .i64 0, .int .i64 0, .int .i64 0, .int .i64 0, .int .i64 0, .int .i64 0, .int .i64 0, .int .i64 0] 75 (0, 0)) ∧ wx.heap[y0.heap.size]? = some (.cells #[.int .i64 a0, .int .i64 a13, .int .i64 a14, .int .i64 a15, .int .i64 a16, .int .i64 a17, .int .i64 a18, .int .i64 a19, .int .i64 a20, .int .i64 a21, .int .i64 a22, .int .i64 a23] 89 (0, 0)) ∧ Hid (Below w.heap.size w wx))
  case first =>
    refine wp_region_held_drew (S := fun y => y.heap[w.heap.size]? = some (.cells #[.int .i64 a0, .int .i64 a1, .int .i64 a2, .int .i64 a3, .int .i64 a4, .int .i64 a5, .int .i64 a6, .int .i64 a7, .int .i64 a8, .int .i64 a9, .int .i64 a10, .int .i64 a11, .int .i64 a12, .int .i64 a13, .int .i64 a14, .int .i64 a15, .int .i64 a16, .int .i64 a17, .int .i64 a18, .int .i64 a19, .int .i64 a20, .int .i64 a21, .int .i64 a22, .int .i64 a23] 91 (0, 0)) ∧ y.heap[y0.heap.size]? = some (.cells #[.int .i64 a0, .int .i64 a13, .int .i64 a14, .int .i64 a15, .int .i64 a16, .int .i64 a17, .int .i64 a18, .int .i64 a19, .int .i64 a20, .int .i64 a21, .int .i64 a22, .int .i64 a23] 89 (0, 0))) (by kernel_rfl) (⟨hr2_0, hr2_2⟩) (fun hS0 => ?_)
    obtain ⟨y3, hy3⟩ : ∃ y, y2.drew = y := ⟨_, rfl⟩
    have HU3 := Lib.hid (show Below w.heap.size w y3 by rw [← hy3]; exact HU2.out.drew)
    have hr3_0 : y3.heap[w.heap.size]? = some (.cells #[.int .i64 a0, .int .i64 a1, .int .i64 a2, .int .i64 a3, .int .i64 a4, .int .i64 a5, .int .i64 a6, .int .i64 a7, .int .i64 a8, .int .i64 a9, .int .i64 a10, .int .i64 a11, .int .i64 a12, .int .i64 a13, .int .i64 a14, .int .i64 a15, .int .i64 a16, .int .i64 a17, .int .i64 a18, .int .i64 a19, .int .i64 a20, .int .i64 a21, .int .i64 a22, .int .i64 a23] 91 (0, 0)) := by rw [← hy3]; exact hr2_0
    have hr3_1 : y3.heap[w.heap.size + 1]? = some (.cells #[.int .i64 0, .int .i64 0, .int .i64 0, .int .i64 0, .int .i64 0, .int .i64 0, .int .i64 0, .int .i64 0, .int .i64 0, .int .i64 0, .int .i64 0, .int .i64 0] 75 (0, 0)) := by rw [← hy3]; exact hr2_1
    have hr3_2 : y3.heap[y0.heap.size]? = some (.cells #[.int .i64 a0, .int .i64 a13, .int .i64 a14, .int .i64 a15, .int .i64 a16, .int .i64 a17, .int .i64 a18, .int .i64 a19, .int .i64 a20, .int .i64 a21, .int .i64 a22, .int .i64 a23] 89 (0, 0)) := by rw [← hy3]; exact hr2_2
    rw [hy3] at hS0 ⊢
    clear hy3
    refine wpAnyH_take (i := 0) (v := ?_) rfl (by kernel_rfl) (by kernel_rfl) (by kernel_rfl) (fun _ _ _ h => h) (Or.inl ⟨by kernel_rfl, by (intro wz hSz; go_simp; try with_reducible rfl)⟩) hS0 ?_
    go_simp
    refine wpAnyH_take (i := 1) (v := ?_) rfl (by kernel_rfl) (by kernel_rfl) (by kernel_rfl) (fun _ _ _ h => h) (Or.inl ⟨by kernel_rfl, by (intro wz hSz; have c0_0 := cell_of_row _ _ 0 _ _ _ hSz.1; have c0_1 := cell_of_row _ _ 1 _ _ _ hSz.1; have c0_2 := cell_of_row _ _ 2 _ _ _ hSz.1; have c0_3 := cell_of_row _ _ 3 _ _ _ hSz.1; have c0_4 := cell_of_row _ _ 4 _ _ _ hSz.1; have c0_5 := cell_of_row _ _ 5 _ _ _ hSz.1; have c0_6 := cell_of_row _ _ 6 _ _ _ hSz.1; have c0_7 := cell_of_row _ _ 7 _ _ _ hSz.1; have c0_8 := cell_of_row _ _ 8 _ _ _ hSz.1; have c0_9 := cell_of_row _ _ 9 _ _ _ hSz.1; have c0_10 := cell_of_row _ _ 10 _ _ _ hSz.1; have c0_11 := cell_of_row _ _ 11 _ _ _ hSz.1; have c0_12 := cell_of_row _ _ 12 _ _ _ hSz.1; have c0_13 := cell_of_row _ _ 13 _ _ _ hSz.1; have c0_14 := cell_of_row _ _ 14 _ _ _ hSz.1; have c0_15 := cell_of_row _ _ 15 _ _ _ hSz.1; have c0_16 := cell_of_row _ _ 16 _ _ _ hSz.1; have c0_17 := cell_of_row _ _ 17 _ _ _ hSz.1; have c0_18 := cell_of_row _ _ 18 _ _ _ hSz.1; have c0_19 := cell_of_row _ _ 19 _ _ _ hSz.1; have c0_20 := cell_of_row _ _ 20 _ _ _ hSz.1; have c0_21 := cell_of_row _ _ 21 _ _ _ hSz.1; have c0_22 := cell_of_row _ _ 22 _ _ _ hSz.1; have c0_23 := cell_of_row _ _ 23 _ _ _ hSz.1; have c2_0 := cell_of_row _ _ 0 _ _ _ hSz.2; have c2_1 := cell_of_row _ _ 1 _ _ _ hSz.2; have c2_2 := cell_of_row _ _ 2 _ _ _ hSz.2; have c2_3 := cell_of_row _ _ 3 _ _ _ hSz.2; have c2_4 := cell_of_row _ _ 4 _ _ _ hSz.2; have c2_5 := cell_of_row _ _ 5 _ _ _ hSz.2; have c2_6 := cell_of_row _ _ 6 _ _ _ hSz.2; have c2_7 := cell_of_row _ _ 7 _ _ _ hSz.2; have c2_8 := cell_of_row _ _ 8 _ _ _ hSz.2; have c2_9 := cell_of_row _ _ 9 _ _ _ hSz.2; have c2_10 := cell_of_row _ _ 10 _ _ _ hSz.2; have c2_11 := cell_of_row _ _ 11 _ _ _ hSz.2; simp at c0_0 c0_1 c0_2 c0_3 c0_4 c0_5 c0_6 c0_7 c0_8 c0_9 c0_10 c0_11 c0_12 c0_13 c0_14 c0_15 c0_16 c0_17 c0_18 c0_19 c0_20 c0_21 c0_22 c0_23 c2_0 c2_1 c2_2 c2_3 c2_4 c2_5 c2_6 c2_7 c2_8 c2_9 c2_10 c2_11; go_simp; try with_reducible rfl)⟩) hS0 ?_
    go_simp
    refine wpAnyH_take (i := 3) (v := ?_) rfl (by kernel_rfl) (by kernel_rfl) (by kernel_rfl) (fun _ _ _ h => h) (Or.inl ⟨by kernel_rfl, by (intro wz hSz; have c0_0 := cell_of_row _ _ 0 _ _ _ hSz.1; have c0_1 := cell_of_row _ _ 1 _ _ _ hSz.1; have c0_2 := cell_of_row _ _ 2 _ _ _ hSz.1; have c0_3 := cell_of_row _ _ 3 _ _ _ hSz.1; have c0_4 := cell_of_row _ _ 4 _ _ _ hSz.1; have c0_5 := cell_of_row _ _ 5 _ _ _ hSz.1; have c0_6 := cell_of_row _ _ 6 _ _ _ hSz.1; have c0_7 := cell_of_row _ _ 7 _ _ _ hSz.1; have c0_8 := cell_of_row _ _ 8 _ _ _ hSz.1; have c0_9 := cell_of_row _ _ 9 _ _ _ hSz.1; have c0_10 := cell_of_row _ _ 10 _ _ _ hSz.1; have c0_11 := cell_of_row _ _ 11 _ _ _ hSz.1; have c0_12 := cell_of_row _ _ 12 _ _ _ hSz.1; have c0_13 := cell_of_row _ _ 13 _ _ _ hSz.1; have c0_14 := cell_of_row _ _ 14 _ _ _ hSz.1; have c0_15 := cell_of_row _ _ 15 _ _ _ hSz.1; have c0_16 := cell_of_row _ _ 16 _ _ _ hSz.1; have c0_17 := cell_of_row _ _ 17 _ _ _ hSz.1; have c0_18 := cell_of_row _ _ 18 _ _ _ hSz.1; have c0_19 := cell_of_row _ _ 19 _ _ _ hSz.1; have c0_20 := cell_of_row _ _ 20 _ _ _ hSz.1; have c0_21 := cell_of_row _ _ 21 _ _ _ hSz.1; have c0_22 := cell_of_row _ _ 22 _ _ _ hSz.1; have c0_23 := cell_of_row _ _ 23 _ _ _ hSz.1; have c2_0 := cell_of_row _ _ 0 _ _ _ hSz.2; have c2_1 := cell_of_row _ _ 1 _ _ _ hSz.2; have c2_2 := cell_of_row _ _ 2 _ _ _ hSz.2; have c2_3 := cell_of_row _ _ 3 _ _ _ hSz.2; have c2_4 := cell_of_row _ _ 4 _ _ _ hSz.2; have c2_5 := cell_of_row _ _ 5 _ _ _ hSz.2; have c2_6 := cell_of_row _ _ 6 _ _ _ hSz.2; have c2_7 := cell_of_row _ _ 7 _ _ _ hSz.2; have c2_8 := cell_of_row _ _ 8 _ _ _ hSz.2; have c2_9 := cell_of_row _ _ 9 _ _ _ hSz.2; have c2_10 := cell_of_row _ _ 10 _ _ _ hSz.2; have c2_11 := cell_of_row _ _ 11 _ _ _ hSz.2; simp at c0_0 c0_1 c0_2 c0_3 c0_4 c0_5 c0_6 c0_7 c0_8 c0_9 c0_10 c0_11 c0_12 c0_13 c0_14 c0_15 c0_16 c0_17 c0_18 c0_19 c0_20 c0_21 c0_22 c0_23 c2_0 c2_1 c2_2 c2_3 c2_4 c2_5 c2_6 c2_7 c2_8 c2_9 c2_10 c2_11; go_simp; try with_reducible rfl)⟩) hS0 ?_
    go_simp
    refine wpAnyH_ready (rs := [2, 6]) (by kernel_rfl) (by simp) ?_
    refine AllReadyH.cons rfl (fun K hK => ?_) (AllReadyH.cons rfl (fun K hK => ?_) AllReadyH.nil)
    · skip
      go_simp
      go_wp2_with (go_at_call 42; refine (around_face _ _ _ _ _ _ _ _ _ _ _ _ hk _).mono ?_; rintro e y4 ⟨rfl, hb4⟩)
      have hr4_0 := (hb4.block _ (lt_heap hr3_0)).trans hr3_0
      have hr4_1 := (hb4.block _ (lt_heap hr3_1)).trans hr3_1
      have hr4_2 := (hb4.block _ (lt_heap hr3_2)).trans hr3_2
      have HU4 := Lib.hid (HU3.out.trans (hb4.mono HU3.out.size))
      refine hK.out _ _ (⟨(hb4.block _ (lt_heap hS0.1)).trans hS0.1, (hb4.block _ (lt_heap hS0.2)).trans hS0.2⟩) (fun hS4c => ?_)
      clear hK K
      refine wpAnyH_ready (rs := [4, 6]) (by kernel_rfl) (by simp) ?_
      refine AllReadyH.cons rfl (fun K hK => ?_) (AllReadyH.cons rfl (fun K hK => ?_) AllReadyH.nil)
      · skip
        go_simp
        go_wp2_with (go_at_call 42; refine (around_face _ _ _ _ _ _ _ _ _ _ _ _ hk _).mono ?_; rintro e y5 ⟨rfl, hb5⟩)
        have hr5_0 := (hb5.block _ (lt_heap hr4_0)).trans hr4_0
        have hr5_1 := (hb5.block _ (lt_heap hr4_1)).trans hr4_1
        have hr5_2 := (hb5.block _ (lt_heap hr4_2)).trans hr4_2
        have HU5 := Lib.hid (HU4.out.trans (hb5.mono HU4.out.size))
        refine hK.out _ _ (⟨(hb5.block _ (lt_heap hS4c.1)).trans hS4c.1, (hb5.block _ (lt_heap hS4c.2)).trans hS4c.2⟩) (fun hS5c => ?_)
        clear hK K
        refine wpAnyH_take (i := 5) (v := ?_) rfl (by kernel_rfl) (by kernel_rfl) (by kernel_rfl) (fun _ _ _ h => h) (Or.inl ⟨by kernel_rfl, by (intro wz hSz; go_simp; try with_reducible rfl)⟩) hS5c ?_
        go_simp
        refine wpAnyH_ready (rs := [6]) (by kernel_rfl) (by simp) ?_
        refine AllReadyH.cons rfl (fun K hK => ?_) AllReadyH.nil
        go_simp
        have hb6 := below_n1 y5 (.cells #[.int .i64 0, .int .i64 0, .int .i64 0, .int .i64 0, .int .i64 0, .int .i64 0, .int .i64 0, .int .i64 0, .int .i64 0, .int .i64 0, .int .i64 0, .int .i64 0] 75)
        have hN := heap_alloc_last y5 (.cells #[.int .i64 0, .int .i64 0, .int .i64 0, .int .i64 0, .int .i64 0, .int .i64 0, .int .i64 0, .int .i64 0, .int .i64 0, .int .i64 0, .int .i64 0, .int .i64 0] 75)
        obtain ⟨y6, hy6⟩ : ∃ y, y5.alloc (.cells #[.int .i64 0, .int .i64 0, .int .i64 0, .int .i64 0, .int .i64 0, .int .i64 0, .int .i64 0, .int .i64 0, .int .i64 0, .int .i64 0, .int .i64 0, .int .i64 0] 75) = y := ⟨_, rfl⟩
        rw [hy6] at hb6 hN ⊢
        clear hy6
        have hl6_0 := lt_heap hr5_0
        have hr6_0 := (hb6.block _ (lt_heap hr5_0)).trans hr5_0
        have hl6_1 := lt_heap hr5_1
        have hr6_1 := (hb6.block _ (lt_heap hr5_1)).trans hr5_1
        have hl6_2 := lt_heap hr5_2
        have hr6_2 := (hb6.block _ (lt_heap hr5_2)).trans hr5_2
        have hr6_3 := hN
        clear hN
        have HU6 := Lib.hid (HU5.out.trans (hb6.mono HU5.out.size))
        refine hK.out _ _ (⟨(hb6.block _ (lt_heap hS5c.1)).trans hS5c.1, (hb6.block _ (lt_heap hS5c.2)).trans hS5c.2⟩) (fun hS6a => ?_)
        clear hK K
        refine wpAnyH_ready (rs := [7]) (by kernel_rfl) (by simp) ?_
        refine AllReadyH.cons rfl (fun K hK => ?_) AllReadyH.nil
        refine step_store_row rfl 75 (.tmp 4) (.tmp 16) rfl #[.int .i64 0, .int .i64 0, .int .i64 0, .int .i64 0, .int .i64 0, .int .i64 0, .int .i64 0, .int .i64 0, .int .i64 0, .int .i64 0, .int .i64 0, .int .i64 0] #[.int .i64 (Pl.sub (min a2 (min a5 a8)) 8192), .int .i64 (Pl.sub (min a3 (min a6 a9)) 8192), .int .i64 (Pl.sub (min a4 (min a7 a10)) 8192), .int .i64 (Pl.add (max a2 (max a5 a8)) 8192), .int .i64 (Pl.add (max a3 (max a6 a9)) 8192), .int .i64 (Pl.add (max a4 (max a7 a10)) 8192), .int .i64 (Pl.sub (min a14 (min a17 a20)) 8192), .int .i64 (Pl.sub (min a15 (min a18 a21)) 8192), .int .i64 (Pl.sub (min a16 (min a19 a22)) 8192), .int .i64 (Pl.add (max a14 (max a17 a20)) 8192), .int .i64 (Pl.add (max a15 (max a18 a21)) 8192), .int .i64 (Pl.add (max a16 (max a19 a22)) 8192)] _ 75 hr6_3 rfl (by first | rfl | (go_simp; done) | (go_simp; rfl)) (by kernel_rfl) rfl (by simp [Value.oneCell']) ?_
        have hN := setRow_heap _ (y5.heap.size) _ #[.int .i64 (Pl.sub (min a2 (min a5 a8)) 8192), .int .i64 (Pl.sub (min a3 (min a6 a9)) 8192), .int .i64 (Pl.sub (min a4 (min a7 a10)) 8192), .int .i64 (Pl.add (max a2 (max a5 a8)) 8192), .int .i64 (Pl.add (max a3 (max a6 a9)) 8192), .int .i64 (Pl.add (max a4 (max a7 a10)) 8192), .int .i64 (Pl.sub (min a14 (min a17 a20)) 8192), .int .i64 (Pl.sub (min a15 (min a18 a21)) 8192), .int .i64 (Pl.sub (min a16 (min a19 a22)) 8192), .int .i64 (Pl.add (max a14 (max a17 a20)) 8192), .int .i64 (Pl.add (max a15 (max a18 a21)) 8192), .int .i64 (Pl.add (max a16 (max a19 a22)) 8192)] _ _ hr6_3
        have hsz := HU6.out.size
        have HUx := below_setRow (g := y5.heap.size) HU6.out (by first | omega | (simp at *; omega)) #[.int .i64 (Pl.sub (min a2 (min a5 a8)) 8192), .int .i64 (Pl.sub (min a3 (min a6 a9)) 8192), .int .i64 (Pl.sub (min a4 (min a7 a10)) 8192), .int .i64 (Pl.add (max a2 (max a5 a8)) 8192), .int .i64 (Pl.add (max a3 (max a6 a9)) 8192), .int .i64 (Pl.add (max a4 (max a7 a10)) 8192), .int .i64 (Pl.sub (min a14 (min a17 a20)) 8192), .int .i64 (Pl.sub (min a15 (min a18 a21)) 8192), .int .i64 (Pl.sub (min a16 (min a19 a22)) 8192), .int .i64 (Pl.add (max a14 (max a17 a20)) 8192), .int .i64 (Pl.add (max a15 (max a18 a21)) 8192), .int .i64 (Pl.add (max a16 (max a19 a22)) 8192)]
        obtain ⟨y7, hy7⟩ : ∃ y, y6.setRow (y5.heap.size) #[.int .i64 (Pl.sub (min a2 (min a5 a8)) 8192), .int .i64 (Pl.sub (min a3 (min a6 a9)) 8192), .int .i64 (Pl.sub (min a4 (min a7 a10)) 8192), .int .i64 (Pl.add (max a2 (max a5 a8)) 8192), .int .i64 (Pl.add (max a3 (max a6 a9)) 8192), .int .i64 (Pl.add (max a4 (max a7 a10)) 8192), .int .i64 (Pl.sub (min a14 (min a17 a20)) 8192), .int .i64 (Pl.sub (min a15 (min a18 a21)) 8192), .int .i64 (Pl.sub (min a16 (min a19 a22)) 8192), .int .i64 (Pl.add (max a14 (max a17 a20)) 8192), .int .i64 (Pl.add (max a15 (max a18 a21)) 8192), .int .i64 (Pl.add (max a16 (max a19 a22)) 8192)] = y := ⟨_, rfl⟩
        have hO : ∀ k, k ≠ y5.heap.size → y7.heap[k]? = y6.heap[k]? := fun k hk => by rw [← hy7]; exact setRow_other _ _ _ _ hk
        rw [hy7] at hN HUx ⊢
        clear hy7
        have HU7 := Lib.hid HUx
        clear HUx
        have hr7_0 := (hO _ (by omega)).trans hr6_0
        have hr7_1 := (hO _ (by omega)).trans hr6_1
        have hr7_2 := (hO _ (by omega)).trans hr6_2
        have hr7_3 := hN
        clear hN
        refine hK.out _ _ (⟨(hO _ (by omega)).trans hS6a.1, (hO _ (by omega)).trans hS6a.2⟩) (fun hS7s => ?_)
        clear hK K
        refine wpAnyH_done (by kernel_rfl) ?_ _
        go_wp2_with fail
        go_meet
        exact ⟨_, rfl, by omega, hr7_3, hr7_0, hr7_1, hr7_2, HU7⟩
      · skip
        go_simp
        have hb5 := below_n1 y4 (.cells #[.int .i64 0, .int .i64 0, .int .i64 0, .int .i64 0, .int .i64 0, .int .i64 0, .int .i64 0, .int .i64 0, .int .i64 0, .int .i64 0, .int .i64 0, .int .i64 0] 75)
        have hN := heap_alloc_last y4 (.cells #[.int .i64 0, .int .i64 0, .int .i64 0, .int .i64 0, .int .i64 0, .int .i64 0, .int .i64 0, .int .i64 0, .int .i64 0, .int .i64 0, .int .i64 0, .int .i64 0] 75)
        obtain ⟨y5, hy5⟩ : ∃ y, y4.alloc (.cells #[.int .i64 0, .int .i64 0, .int .i64 0, .int .i64 0, .int .i64 0, .int .i64 0, .int .i64 0, .int .i64 0, .int .i64 0, .int .i64 0, .int .i64 0, .int .i64 0] 75) = y := ⟨_, rfl⟩
        rw [hy5] at hb5 hN ⊢
        clear hy5
        have hl5_0 := lt_heap hr4_0
        have hr5_0 := (hb5.block _ (lt_heap hr4_0)).trans hr4_0
        have hl5_1 := lt_heap hr4_1
        have hr5_1 := (hb5.block _ (lt_heap hr4_1)).trans hr4_1
        have hl5_2 := lt_heap hr4_2
        have hr5_2 := (hb5.block _ (lt_heap hr4_2)).trans hr4_2
        have hr5_3 := hN
        clear hN
        have HU5 := Lib.hid (HU4.out.trans (hb5.mono HU4.out.size))
        refine hK.out _ _ (⟨(hb5.block _ (lt_heap hS4c.1)).trans hS4c.1, (hb5.block _ (lt_heap hS4c.2)).trans hS4c.2⟩) (fun hS5a => ?_)
        clear hK K
        refine wpAnyH_ready (rs := [4]) (by kernel_rfl) (by simp) ?_
        refine AllReadyH.cons rfl (fun K hK => ?_) AllReadyH.nil
        go_simp
        go_wp2_with (go_at_call 42; refine (around_face _ _ _ _ _ _ _ _ _ _ _ _ hk _).mono ?_; rintro e y6 ⟨rfl, hb6⟩)
        have hr6_0 := (hb6.block _ (lt_heap hr5_0)).trans hr5_0
        have hr6_1 := (hb6.block _ (lt_heap hr5_1)).trans hr5_1
        have hr6_2 := (hb6.block _ (lt_heap hr5_2)).trans hr5_2
        have hr6_3 := (hb6.block _ (lt_heap hr5_3)).trans hr5_3
        have HU6 := Lib.hid (HU5.out.trans (hb6.mono HU5.out.size))
        refine hK.out _ _ (⟨(hb6.block _ (lt_heap hS5a.1)).trans hS5a.1, (hb6.block _ (lt_heap hS5a.2)).trans hS5a.2⟩) (fun hS6c => ?_)
        clear hK K
        refine wpAnyH_take (i := 5) (v := ?_) rfl (by kernel_rfl) (by kernel_rfl) (by kernel_rfl) (fun _ _ _ h => h) (Or.inl ⟨by kernel_rfl, by (intro wz hSz; go_simp; try with_reducible rfl)⟩) hS6c ?_
        go_simp
        refine wpAnyH_ready (rs := [7]) (by kernel_rfl) (by simp) ?_
        refine AllReadyH.cons rfl (fun K hK => ?_) AllReadyH.nil
        refine step_store_row rfl 75 (.tmp 4) (.tmp 16) rfl #[.int .i64 0, .int .i64 0, .int .i64 0, .int .i64 0, .int .i64 0, .int .i64 0, .int .i64 0, .int .i64 0, .int .i64 0, .int .i64 0, .int .i64 0, .int .i64 0] #[.int .i64 (Pl.sub (min a2 (min a5 a8)) 8192), .int .i64 (Pl.sub (min a3 (min a6 a9)) 8192), .int .i64 (Pl.sub (min a4 (min a7 a10)) 8192), .int .i64 (Pl.add (max a2 (max a5 a8)) 8192), .int .i64 (Pl.add (max a3 (max a6 a9)) 8192), .int .i64 (Pl.add (max a4 (max a7 a10)) 8192), .int .i64 (Pl.sub (min a14 (min a17 a20)) 8192), .int .i64 (Pl.sub (min a15 (min a18 a21)) 8192), .int .i64 (Pl.sub (min a16 (min a19 a22)) 8192), .int .i64 (Pl.add (max a14 (max a17 a20)) 8192), .int .i64 (Pl.add (max a15 (max a18 a21)) 8192), .int .i64 (Pl.add (max a16 (max a19 a22)) 8192)] _ 75 hr6_3 rfl (by first | rfl | (go_simp; done) | (go_simp; rfl)) (by kernel_rfl) rfl (by simp [Value.oneCell']) ?_
        have hN := setRow_heap _ (y4.heap.size) _ #[.int .i64 (Pl.sub (min a2 (min a5 a8)) 8192), .int .i64 (Pl.sub (min a3 (min a6 a9)) 8192), .int .i64 (Pl.sub (min a4 (min a7 a10)) 8192), .int .i64 (Pl.add (max a2 (max a5 a8)) 8192), .int .i64 (Pl.add (max a3 (max a6 a9)) 8192), .int .i64 (Pl.add (max a4 (max a7 a10)) 8192), .int .i64 (Pl.sub (min a14 (min a17 a20)) 8192), .int .i64 (Pl.sub (min a15 (min a18 a21)) 8192), .int .i64 (Pl.sub (min a16 (min a19 a22)) 8192), .int .i64 (Pl.add (max a14 (max a17 a20)) 8192), .int .i64 (Pl.add (max a15 (max a18 a21)) 8192), .int .i64 (Pl.add (max a16 (max a19 a22)) 8192)] _ _ hr6_3
        have hsz := HU6.out.size
        have HUx := below_setRow (g := y4.heap.size) HU6.out (by first | omega | (simp at *; omega)) #[.int .i64 (Pl.sub (min a2 (min a5 a8)) 8192), .int .i64 (Pl.sub (min a3 (min a6 a9)) 8192), .int .i64 (Pl.sub (min a4 (min a7 a10)) 8192), .int .i64 (Pl.add (max a2 (max a5 a8)) 8192), .int .i64 (Pl.add (max a3 (max a6 a9)) 8192), .int .i64 (Pl.add (max a4 (max a7 a10)) 8192), .int .i64 (Pl.sub (min a14 (min a17 a20)) 8192), .int .i64 (Pl.sub (min a15 (min a18 a21)) 8192), .int .i64 (Pl.sub (min a16 (min a19 a22)) 8192), .int .i64 (Pl.add (max a14 (max a17 a20)) 8192), .int .i64 (Pl.add (max a15 (max a18 a21)) 8192), .int .i64 (Pl.add (max a16 (max a19 a22)) 8192)]
        obtain ⟨y7, hy7⟩ : ∃ y, y6.setRow (y4.heap.size) #[.int .i64 (Pl.sub (min a2 (min a5 a8)) 8192), .int .i64 (Pl.sub (min a3 (min a6 a9)) 8192), .int .i64 (Pl.sub (min a4 (min a7 a10)) 8192), .int .i64 (Pl.add (max a2 (max a5 a8)) 8192), .int .i64 (Pl.add (max a3 (max a6 a9)) 8192), .int .i64 (Pl.add (max a4 (max a7 a10)) 8192), .int .i64 (Pl.sub (min a14 (min a17 a20)) 8192), .int .i64 (Pl.sub (min a15 (min a18 a21)) 8192), .int .i64 (Pl.sub (min a16 (min a19 a22)) 8192), .int .i64 (Pl.add (max a14 (max a17 a20)) 8192), .int .i64 (Pl.add (max a15 (max a18 a21)) 8192), .int .i64 (Pl.add (max a16 (max a19 a22)) 8192)] = y := ⟨_, rfl⟩
        have hO : ∀ k, k ≠ y4.heap.size → y7.heap[k]? = y6.heap[k]? := fun k hk => by rw [← hy7]; exact setRow_other _ _ _ _ hk
        rw [hy7] at hN HUx ⊢
        clear hy7
        have HU7 := Lib.hid HUx
        clear HUx
        have hr7_0 := (hO _ (by omega)).trans hr6_0
        have hr7_1 := (hO _ (by omega)).trans hr6_1
        have hr7_2 := (hO _ (by omega)).trans hr6_2
        have hr7_3 := hN
        clear hN
        refine hK.out _ _ (⟨(hO _ (by omega)).trans hS6c.1, (hO _ (by omega)).trans hS6c.2⟩) (fun hS7s => ?_)
        clear hK K
        refine wpAnyH_done (by kernel_rfl) ?_ _
        go_wp2_with fail
        go_meet
        exact ⟨_, rfl, by omega, hr7_3, hr7_0, hr7_1, hr7_2, HU7⟩
    · skip
      go_simp
      have hb4 := below_n1 y3 (.cells #[.int .i64 0, .int .i64 0, .int .i64 0, .int .i64 0, .int .i64 0, .int .i64 0, .int .i64 0, .int .i64 0, .int .i64 0, .int .i64 0, .int .i64 0, .int .i64 0] 75)
      have hN := heap_alloc_last y3 (.cells #[.int .i64 0, .int .i64 0, .int .i64 0, .int .i64 0, .int .i64 0, .int .i64 0, .int .i64 0, .int .i64 0, .int .i64 0, .int .i64 0, .int .i64 0, .int .i64 0] 75)
      obtain ⟨y4, hy4⟩ : ∃ y, y3.alloc (.cells #[.int .i64 0, .int .i64 0, .int .i64 0, .int .i64 0, .int .i64 0, .int .i64 0, .int .i64 0, .int .i64 0, .int .i64 0, .int .i64 0, .int .i64 0, .int .i64 0] 75) = y := ⟨_, rfl⟩
      rw [hy4] at hb4 hN ⊢
      clear hy4
      have hl4_0 := lt_heap hr3_0
      have hr4_0 := (hb4.block _ (lt_heap hr3_0)).trans hr3_0
      have hl4_1 := lt_heap hr3_1
      have hr4_1 := (hb4.block _ (lt_heap hr3_1)).trans hr3_1
      have hl4_2 := lt_heap hr3_2
      have hr4_2 := (hb4.block _ (lt_heap hr3_2)).trans hr3_2
      have hr4_3 := hN
      clear hN
      have HU4 := Lib.hid (HU3.out.trans (hb4.mono HU3.out.size))
      refine hK.out _ _ (⟨(hb4.block _ (lt_heap hS0.1)).trans hS0.1, (hb4.block _ (lt_heap hS0.2)).trans hS0.2⟩) (fun hS4a => ?_)
      clear hK K
      refine wpAnyH_ready (rs := [2]) (by kernel_rfl) (by simp) ?_
      refine AllReadyH.cons rfl (fun K hK => ?_) AllReadyH.nil
      go_simp
      go_wp2_with (go_at_call 42; refine (around_face _ _ _ _ _ _ _ _ _ _ _ _ hk _).mono ?_; rintro e y5 ⟨rfl, hb5⟩)
      have hr5_0 := (hb5.block _ (lt_heap hr4_0)).trans hr4_0
      have hr5_1 := (hb5.block _ (lt_heap hr4_1)).trans hr4_1
      have hr5_2 := (hb5.block _ (lt_heap hr4_2)).trans hr4_2
      have hr5_3 := (hb5.block _ (lt_heap hr4_3)).trans hr4_3
      have HU5 := Lib.hid (HU4.out.trans (hb5.mono HU4.out.size))
      refine hK.out _ _ (⟨(hb5.block _ (lt_heap hS4a.1)).trans hS4a.1, (hb5.block _ (lt_heap hS4a.2)).trans hS4a.2⟩) (fun hS5c => ?_)
      clear hK K
      refine wpAnyH_ready (rs := [4]) (by kernel_rfl) (by simp) ?_
      refine AllReadyH.cons rfl (fun K hK => ?_) AllReadyH.nil
      go_simp
      go_wp2_with (go_at_call 42; refine (around_face _ _ _ _ _ _ _ _ _ _ _ _ hk _).mono ?_; rintro e y6 ⟨rfl, hb6⟩)
      have hr6_0 := (hb6.block _ (lt_heap hr5_0)).trans hr5_0
      have hr6_1 := (hb6.block _ (lt_heap hr5_1)).trans hr5_1
      have hr6_2 := (hb6.block _ (lt_heap hr5_2)).trans hr5_2
      have hr6_3 := (hb6.block _ (lt_heap hr5_3)).trans hr5_3
      have HU6 := Lib.hid (HU5.out.trans (hb6.mono HU5.out.size))
      refine hK.out _ _ (⟨(hb6.block _ (lt_heap hS5c.1)).trans hS5c.1, (hb6.block _ (lt_heap hS5c.2)).trans hS5c.2⟩) (fun hS6c => ?_)
      clear hK K
      refine wpAnyH_take (i := 5) (v := ?_) rfl (by kernel_rfl) (by kernel_rfl) (by kernel_rfl) (fun _ _ _ h => h) (Or.inl ⟨by kernel_rfl, by (intro wz hSz; go_simp; try with_reducible rfl)⟩) hS6c ?_
      go_simp
      refine wpAnyH_ready (rs := [7]) (by kernel_rfl) (by simp) ?_
      refine AllReadyH.cons rfl (fun K hK => ?_) AllReadyH.nil
      refine step_store_row rfl 75 (.tmp 4) (.tmp 16) rfl #[.int .i64 0, .int .i64 0, .int .i64 0, .int .i64 0, .int .i64 0, .int .i64 0, .int .i64 0, .int .i64 0, .int .i64 0, .int .i64 0, .int .i64 0, .int .i64 0] #[.int .i64 (Pl.sub (min a2 (min a5 a8)) 8192), .int .i64 (Pl.sub (min a3 (min a6 a9)) 8192), .int .i64 (Pl.sub (min a4 (min a7 a10)) 8192), .int .i64 (Pl.add (max a2 (max a5 a8)) 8192), .int .i64 (Pl.add (max a3 (max a6 a9)) 8192), .int .i64 (Pl.add (max a4 (max a7 a10)) 8192), .int .i64 (Pl.sub (min a14 (min a17 a20)) 8192), .int .i64 (Pl.sub (min a15 (min a18 a21)) 8192), .int .i64 (Pl.sub (min a16 (min a19 a22)) 8192), .int .i64 (Pl.add (max a14 (max a17 a20)) 8192), .int .i64 (Pl.add (max a15 (max a18 a21)) 8192), .int .i64 (Pl.add (max a16 (max a19 a22)) 8192)] _ 75 hr6_3 rfl (by first | rfl | (go_simp; done) | (go_simp; rfl)) (by kernel_rfl) rfl (by simp [Value.oneCell']) ?_
      have hN := setRow_heap _ (y3.heap.size) _ #[.int .i64 (Pl.sub (min a2 (min a5 a8)) 8192), .int .i64 (Pl.sub (min a3 (min a6 a9)) 8192), .int .i64 (Pl.sub (min a4 (min a7 a10)) 8192), .int .i64 (Pl.add (max a2 (max a5 a8)) 8192), .int .i64 (Pl.add (max a3 (max a6 a9)) 8192), .int .i64 (Pl.add (max a4 (max a7 a10)) 8192), .int .i64 (Pl.sub (min a14 (min a17 a20)) 8192), .int .i64 (Pl.sub (min a15 (min a18 a21)) 8192), .int .i64 (Pl.sub (min a16 (min a19 a22)) 8192), .int .i64 (Pl.add (max a14 (max a17 a20)) 8192), .int .i64 (Pl.add (max a15 (max a18 a21)) 8192), .int .i64 (Pl.add (max a16 (max a19 a22)) 8192)] _ _ hr6_3
      have hsz := HU6.out.size
      have HUx := below_setRow (g := y3.heap.size) HU6.out (by first | omega | (simp at *; omega)) #[.int .i64 (Pl.sub (min a2 (min a5 a8)) 8192), .int .i64 (Pl.sub (min a3 (min a6 a9)) 8192), .int .i64 (Pl.sub (min a4 (min a7 a10)) 8192), .int .i64 (Pl.add (max a2 (max a5 a8)) 8192), .int .i64 (Pl.add (max a3 (max a6 a9)) 8192), .int .i64 (Pl.add (max a4 (max a7 a10)) 8192), .int .i64 (Pl.sub (min a14 (min a17 a20)) 8192), .int .i64 (Pl.sub (min a15 (min a18 a21)) 8192), .int .i64 (Pl.sub (min a16 (min a19 a22)) 8192), .int .i64 (Pl.add (max a14 (max a17 a20)) 8192), .int .i64 (Pl.add (max a15 (max a18 a21)) 8192), .int .i64 (Pl.add (max a16 (max a19 a22)) 8192)]
      obtain ⟨y7, hy7⟩ : ∃ y, y6.setRow (y3.heap.size) #[.int .i64 (Pl.sub (min a2 (min a5 a8)) 8192), .int .i64 (Pl.sub (min a3 (min a6 a9)) 8192), .int .i64 (Pl.sub (min a4 (min a7 a10)) 8192), .int .i64 (Pl.add (max a2 (max a5 a8)) 8192), .int .i64 (Pl.add (max a3 (max a6 a9)) 8192), .int .i64 (Pl.add (max a4 (max a7 a10)) 8192), .int .i64 (Pl.sub (min a14 (min a17 a20)) 8192), .int .i64 (Pl.sub (min a15 (min a18 a21)) 8192), .int .i64 (Pl.sub (min a16 (min a19 a22)) 8192), .int .i64 (Pl.add (max a14 (max a17 a20)) 8192), .int .i64 (Pl.add (max a15 (max a18 a21)) 8192), .int .i64 (Pl.add (max a16 (max a19 a22)) 8192)] = y := ⟨_, rfl⟩
      have hO : ∀ k, k ≠ y3.heap.size → y7.heap[k]? = y6.heap[k]? := fun k hk => by rw [← hy7]; exact setRow_other _ _ _ _ hk
      rw [hy7] at hN HUx ⊢
      clear hy7
      have HU7 := Lib.hid HUx
      clear HUx
      have hr7_0 := (hO _ (by omega)).trans hr6_0
      have hr7_1 := (hO _ (by omega)).trans hr6_1
      have hr7_2 := (hO _ (by omega)).trans hr6_2
      have hr7_3 := hN
      clear hN
      refine hK.out _ _ (⟨(hO _ (by omega)).trans hS6c.1, (hO _ (by omega)).trans hS6c.2⟩) (fun hS7s => ?_)
      clear hK K
      refine wpAnyH_done (by kernel_rfl) ?_ _
      go_wp2_with fail
      go_meet
      exact ⟨_, rfl, by omega, hr7_3, hr7_0, hr7_1, hr7_2, HU7⟩
  case rest =>
    obtain ⟨gp, rfl, hgp, hr5_3, hr5_0, hr5_1, hr5_2, HU5⟩ := hcut
    rename World => y5
    cases hv : anyE (l18 (Pl.sub (min a2 (min a5 a8)) 8192) (Pl.sub (min a3 (min a6 a9)) 8192) (Pl.sub (min a4 (min a7 a10)) 8192) (Pl.add (max a2 (max a5 a8)) 8192) (Pl.add (max a3 (max a6 a9)) 8192) (Pl.add (max a4 (max a7 a10)) 8192) (Pl.sub (min a14 (min a17 a20)) 8192) (Pl.sub (min a15 (min a18 a21)) 8192) (Pl.sub (min a16 (min a19 a22)) 8192) (Pl.add (max a14 (max a17 a20)) 8192) (Pl.add (max a15 (max a18 a21)) 8192) (Pl.add (max a16 (max a19 a22)) 8192) (Pl.add a11 8192) (Pl.add a23 8192)) 6
    · skip
      go_wp2_with fail
      refine wp_region_held_drew (S := fun y => y.heap[w.heap.size]? = some (.cells #[.int .i64 a0, .int .i64 a1, .int .i64 a2, .int .i64 a3, .int .i64 a4, .int .i64 a5, .int .i64 a6, .int .i64 a7, .int .i64 a8, .int .i64 a9, .int .i64 a10, .int .i64 a11, .int .i64 a12, .int .i64 a13, .int .i64 a14, .int .i64 a15, .int .i64 a16, .int .i64 a17, .int .i64 a18, .int .i64 a19, .int .i64 a20, .int .i64 a21, .int .i64 a22, .int .i64 a23] 91 (0, 0)) ∧ y.heap[y0.heap.size]? = some (.cells #[.int .i64 a0, .int .i64 a13, .int .i64 a14, .int .i64 a15, .int .i64 a16, .int .i64 a17, .int .i64 a18, .int .i64 a19, .int .i64 a20, .int .i64 a21, .int .i64 a22, .int .i64 a23] 89 (0, 0)) ∧ y.heap[gp]? = some (.cells #[.int .i64 (Pl.sub (min a2 (min a5 a8)) 8192), .int .i64 (Pl.sub (min a3 (min a6 a9)) 8192), .int .i64 (Pl.sub (min a4 (min a7 a10)) 8192), .int .i64 (Pl.add (max a2 (max a5 a8)) 8192), .int .i64 (Pl.add (max a3 (max a6 a9)) 8192), .int .i64 (Pl.add (max a4 (max a7 a10)) 8192), .int .i64 (Pl.sub (min a14 (min a17 a20)) 8192), .int .i64 (Pl.sub (min a15 (min a18 a21)) 8192), .int .i64 (Pl.sub (min a16 (min a19 a22)) 8192), .int .i64 (Pl.add (max a14 (max a17 a20)) 8192), .int .i64 (Pl.add (max a15 (max a18 a21)) 8192), .int .i64 (Pl.add (max a16 (max a19 a22)) 8192)] 75 (0, 0))) (by kernel_rfl) (⟨hr5_0, hr5_2, hr5_3⟩) (fun hS0 => ?_)
      obtain ⟨y6, hy6⟩ : ∃ y, y5.drew = y := ⟨_, rfl⟩
      have HU6 := Lib.hid (show Below w.heap.size w y6 by rw [← hy6]; exact HU5.out.drew)
      have hr6_0 : y6.heap[w.heap.size]? = some (.cells #[.int .i64 a0, .int .i64 a1, .int .i64 a2, .int .i64 a3, .int .i64 a4, .int .i64 a5, .int .i64 a6, .int .i64 a7, .int .i64 a8, .int .i64 a9, .int .i64 a10, .int .i64 a11, .int .i64 a12, .int .i64 a13, .int .i64 a14, .int .i64 a15, .int .i64 a16, .int .i64 a17, .int .i64 a18, .int .i64 a19, .int .i64 a20, .int .i64 a21, .int .i64 a22, .int .i64 a23] 91 (0, 0)) := by rw [← hy6]; exact hr5_0
      have hr6_1 : y6.heap[w.heap.size + 1]? = some (.cells #[.int .i64 0, .int .i64 0, .int .i64 0, .int .i64 0, .int .i64 0, .int .i64 0, .int .i64 0, .int .i64 0, .int .i64 0, .int .i64 0, .int .i64 0, .int .i64 0] 75 (0, 0)) := by rw [← hy6]; exact hr5_1
      have hr6_2 : y6.heap[y0.heap.size]? = some (.cells #[.int .i64 a0, .int .i64 a13, .int .i64 a14, .int .i64 a15, .int .i64 a16, .int .i64 a17, .int .i64 a18, .int .i64 a19, .int .i64 a20, .int .i64 a21, .int .i64 a22, .int .i64 a23] 89 (0, 0)) := by rw [← hy6]; exact hr5_2
      have hr6_3 : y6.heap[gp]? = some (.cells #[.int .i64 (Pl.sub (min a2 (min a5 a8)) 8192), .int .i64 (Pl.sub (min a3 (min a6 a9)) 8192), .int .i64 (Pl.sub (min a4 (min a7 a10)) 8192), .int .i64 (Pl.add (max a2 (max a5 a8)) 8192), .int .i64 (Pl.add (max a3 (max a6 a9)) 8192), .int .i64 (Pl.add (max a4 (max a7 a10)) 8192), .int .i64 (Pl.sub (min a14 (min a17 a20)) 8192), .int .i64 (Pl.sub (min a15 (min a18 a21)) 8192), .int .i64 (Pl.sub (min a16 (min a19 a22)) 8192), .int .i64 (Pl.add (max a14 (max a17 a20)) 8192), .int .i64 (Pl.add (max a15 (max a18 a21)) 8192), .int .i64 (Pl.add (max a16 (max a19 a22)) 8192)] 75 (0, 0)) := by rw [← hy6]; exact hr5_3
      rw [hy6] at hS0 ⊢
      clear hy6
      refine wpAnyH_take (i := 0) (v := ?_) rfl (by kernel_rfl) (by kernel_rfl) (by kernel_rfl) (fun _ _ _ h => h) (Or.inl ⟨by kernel_rfl, by (intro wz hSz; go_simp; try with_reducible rfl)⟩) hS0 ?_
      go_simp
      refine wpAnyH_take (i := 1) (v := ?_) rfl (by kernel_rfl) (by kernel_rfl) (by kernel_rfl) (fun _ _ _ h => h) (Or.inl ⟨by kernel_rfl, by (intro wz hSz; go_simp; try with_reducible rfl)⟩) hS0 ?_
      go_simp
      refine wpAnyH_take (i := 2) (v := ?_) rfl (by kernel_rfl) (by kernel_rfl) (by kernel_rfl) (fun _ _ _ h => h) (Or.inl ⟨by kernel_rfl, by (intro wz hSz; have c0_0 := cell_of_row _ _ 0 _ _ _ hSz.1; have c0_1 := cell_of_row _ _ 1 _ _ _ hSz.1; have c0_2 := cell_of_row _ _ 2 _ _ _ hSz.1; have c0_3 := cell_of_row _ _ 3 _ _ _ hSz.1; have c0_4 := cell_of_row _ _ 4 _ _ _ hSz.1; have c0_5 := cell_of_row _ _ 5 _ _ _ hSz.1; have c0_6 := cell_of_row _ _ 6 _ _ _ hSz.1; have c0_7 := cell_of_row _ _ 7 _ _ _ hSz.1; have c0_8 := cell_of_row _ _ 8 _ _ _ hSz.1; have c0_9 := cell_of_row _ _ 9 _ _ _ hSz.1; have c0_10 := cell_of_row _ _ 10 _ _ _ hSz.1; have c0_11 := cell_of_row _ _ 11 _ _ _ hSz.1; have c0_12 := cell_of_row _ _ 12 _ _ _ hSz.1; have c0_13 := cell_of_row _ _ 13 _ _ _ hSz.1; have c0_14 := cell_of_row _ _ 14 _ _ _ hSz.1; have c0_15 := cell_of_row _ _ 15 _ _ _ hSz.1; have c0_16 := cell_of_row _ _ 16 _ _ _ hSz.1; have c0_17 := cell_of_row _ _ 17 _ _ _ hSz.1; have c0_18 := cell_of_row _ _ 18 _ _ _ hSz.1; have c0_19 := cell_of_row _ _ 19 _ _ _ hSz.1; have c0_20 := cell_of_row _ _ 20 _ _ _ hSz.1; have c0_21 := cell_of_row _ _ 21 _ _ _ hSz.1; have c0_22 := cell_of_row _ _ 22 _ _ _ hSz.1; have c0_23 := cell_of_row _ _ 23 _ _ _ hSz.1; have c2_0 := cell_of_row _ _ 0 _ _ _ hSz.2.1; have c2_1 := cell_of_row _ _ 1 _ _ _ hSz.2.1; have c2_2 := cell_of_row _ _ 2 _ _ _ hSz.2.1; have c2_3 := cell_of_row _ _ 3 _ _ _ hSz.2.1; have c2_4 := cell_of_row _ _ 4 _ _ _ hSz.2.1; have c2_5 := cell_of_row _ _ 5 _ _ _ hSz.2.1; have c2_6 := cell_of_row _ _ 6 _ _ _ hSz.2.1; have c2_7 := cell_of_row _ _ 7 _ _ _ hSz.2.1; have c2_8 := cell_of_row _ _ 8 _ _ _ hSz.2.1; have c2_9 := cell_of_row _ _ 9 _ _ _ hSz.2.1; have c2_10 := cell_of_row _ _ 10 _ _ _ hSz.2.1; have c2_11 := cell_of_row _ _ 11 _ _ _ hSz.2.1; have c3_0 := cell_of_row _ _ 0 _ _ _ hSz.2.2; have c3_1 := cell_of_row _ _ 1 _ _ _ hSz.2.2; have c3_2 := cell_of_row _ _ 2 _ _ _ hSz.2.2; have c3_3 := cell_of_row _ _ 3 _ _ _ hSz.2.2; have c3_4 := cell_of_row _ _ 4 _ _ _ hSz.2.2; have c3_5 := cell_of_row _ _ 5 _ _ _ hSz.2.2; have c3_6 := cell_of_row _ _ 6 _ _ _ hSz.2.2; have c3_7 := cell_of_row _ _ 7 _ _ _ hSz.2.2; have c3_8 := cell_of_row _ _ 8 _ _ _ hSz.2.2; have c3_9 := cell_of_row _ _ 9 _ _ _ hSz.2.2; have c3_10 := cell_of_row _ _ 10 _ _ _ hSz.2.2; have c3_11 := cell_of_row _ _ 11 _ _ _ hSz.2.2; simp at c0_0 c0_1 c0_2 c0_3 c0_4 c0_5 c0_6 c0_7 c0_8 c0_9 c0_10 c0_11 c0_12 c0_13 c0_14 c0_15 c0_16 c0_17 c0_18 c0_19 c0_20 c0_21 c0_22 c0_23 c2_0 c2_1 c2_2 c2_3 c2_4 c2_5 c2_6 c2_7 c2_8 c2_9 c2_10 c2_11 c3_0 c3_1 c3_2 c3_3 c3_4 c3_5 c3_6 c3_7 c3_8 c3_9 c3_10 c3_11; go_simp; try with_reducible rfl)⟩) hS0 ?_
      go_simp
      refine wpAnyH_take (i := 3) (v := ?_) rfl (by kernel_rfl) (by kernel_rfl) (by kernel_rfl) (fun _ _ _ h => h) (Or.inl ⟨by kernel_rfl, by (intro wz hSz; go_simp; try with_reducible rfl)⟩) hS0 ?_
      go_simp
      refine wpAnyH_take (i := 4) (v := ?_) rfl (by kernel_rfl) (by kernel_rfl) (by kernel_rfl) (fun _ _ _ h => h) (Or.inl ⟨by kernel_rfl, by (intro wz hSz; go_simp; try with_reducible rfl)⟩) hS0 ?_
      go_simp
      refine wpAnyH_take (i := 5) (v := ?_) rfl (by kernel_rfl) (by kernel_rfl) (by kernel_rfl) (fun _ _ _ h => h) (Or.inl ⟨by kernel_rfl, by (intro wz hSz; have c0_0 := cell_of_row _ _ 0 _ _ _ hSz.1; have c0_1 := cell_of_row _ _ 1 _ _ _ hSz.1; have c0_2 := cell_of_row _ _ 2 _ _ _ hSz.1; have c0_3 := cell_of_row _ _ 3 _ _ _ hSz.1; have c0_4 := cell_of_row _ _ 4 _ _ _ hSz.1; have c0_5 := cell_of_row _ _ 5 _ _ _ hSz.1; have c0_6 := cell_of_row _ _ 6 _ _ _ hSz.1; have c0_7 := cell_of_row _ _ 7 _ _ _ hSz.1; have c0_8 := cell_of_row _ _ 8 _ _ _ hSz.1; have c0_9 := cell_of_row _ _ 9 _ _ _ hSz.1; have c0_10 := cell_of_row _ _ 10 _ _ _ hSz.1; have c0_11 := cell_of_row _ _ 11 _ _ _ hSz.1; have c0_12 := cell_of_row _ _ 12 _ _ _ hSz.1; have c0_13 := cell_of_row _ _ 13 _ _ _ hSz.1; have c0_14 := cell_of_row _ _ 14 _ _ _ hSz.1; have c0_15 := cell_of_row _ _ 15 _ _ _ hSz.1; have c0_16 := cell_of_row _ _ 16 _ _ _ hSz.1; have c0_17 := cell_of_row _ _ 17 _ _ _ hSz.1; have c0_18 := cell_of_row _ _ 18 _ _ _ hSz.1; have c0_19 := cell_of_row _ _ 19 _ _ _ hSz.1; have c0_20 := cell_of_row _ _ 20 _ _ _ hSz.1; have c0_21 := cell_of_row _ _ 21 _ _ _ hSz.1; have c0_22 := cell_of_row _ _ 22 _ _ _ hSz.1; have c0_23 := cell_of_row _ _ 23 _ _ _ hSz.1; have c2_0 := cell_of_row _ _ 0 _ _ _ hSz.2.1; have c2_1 := cell_of_row _ _ 1 _ _ _ hSz.2.1; have c2_2 := cell_of_row _ _ 2 _ _ _ hSz.2.1; have c2_3 := cell_of_row _ _ 3 _ _ _ hSz.2.1; have c2_4 := cell_of_row _ _ 4 _ _ _ hSz.2.1; have c2_5 := cell_of_row _ _ 5 _ _ _ hSz.2.1; have c2_6 := cell_of_row _ _ 6 _ _ _ hSz.2.1; have c2_7 := cell_of_row _ _ 7 _ _ _ hSz.2.1; have c2_8 := cell_of_row _ _ 8 _ _ _ hSz.2.1; have c2_9 := cell_of_row _ _ 9 _ _ _ hSz.2.1; have c2_10 := cell_of_row _ _ 10 _ _ _ hSz.2.1; have c2_11 := cell_of_row _ _ 11 _ _ _ hSz.2.1; have c3_0 := cell_of_row _ _ 0 _ _ _ hSz.2.2; have c3_1 := cell_of_row _ _ 1 _ _ _ hSz.2.2; have c3_2 := cell_of_row _ _ 2 _ _ _ hSz.2.2; have c3_3 := cell_of_row _ _ 3 _ _ _ hSz.2.2; have c3_4 := cell_of_row _ _ 4 _ _ _ hSz.2.2; have c3_5 := cell_of_row _ _ 5 _ _ _ hSz.2.2; have c3_6 := cell_of_row _ _ 6 _ _ _ hSz.2.2; have c3_7 := cell_of_row _ _ 7 _ _ _ hSz.2.2; have c3_8 := cell_of_row _ _ 8 _ _ _ hSz.2.2; have c3_9 := cell_of_row _ _ 9 _ _ _ hSz.2.2; have c3_10 := cell_of_row _ _ 10 _ _ _ hSz.2.2; have c3_11 := cell_of_row _ _ 11 _ _ _ hSz.2.2; simp at c0_0 c0_1 c0_2 c0_3 c0_4 c0_5 c0_6 c0_7 c0_8 c0_9 c0_10 c0_11 c0_12 c0_13 c0_14 c0_15 c0_16 c0_17 c0_18 c0_19 c0_20 c0_21 c0_22 c0_23 c2_0 c2_1 c2_2 c2_3 c2_4 c2_5 c2_6 c2_7 c2_8 c2_9 c2_10 c2_11 c3_0 c3_1 c3_2 c3_3 c3_4 c3_5 c3_6 c3_7 c3_8 c3_9 c3_10 c3_11; go_simp; try with_reducible rfl)⟩) hS0 ?_
      go_simp
      refine wpAnyH_take (i := 6) (v := ?_) rfl (by kernel_rfl) (by kernel_rfl) (by kernel_rfl) (fun _ _ _ h => h) (Or.inl ⟨by kernel_rfl, by (intro wz hSz; go_simp; try with_reducible rfl)⟩) hS0 ?_
      go_simp
      refine wpAnyH_take (i := 7) (v := ?_) rfl (by kernel_rfl) (by kernel_rfl) (by kernel_rfl) (fun _ _ _ h => h) (Or.inl ⟨by kernel_rfl, by (intro wz hSz; go_simp; try with_reducible rfl)⟩) hS0 ?_
      go_simp
      refine wpAnyH_take (i := 8) (v := ?_) rfl (by kernel_rfl) (by kernel_rfl) (by kernel_rfl) (fun _ _ _ h => h) (Or.inl ⟨by kernel_rfl, by (intro wz hSz; have c0_0 := cell_of_row _ _ 0 _ _ _ hSz.1; have c0_1 := cell_of_row _ _ 1 _ _ _ hSz.1; have c0_2 := cell_of_row _ _ 2 _ _ _ hSz.1; have c0_3 := cell_of_row _ _ 3 _ _ _ hSz.1; have c0_4 := cell_of_row _ _ 4 _ _ _ hSz.1; have c0_5 := cell_of_row _ _ 5 _ _ _ hSz.1; have c0_6 := cell_of_row _ _ 6 _ _ _ hSz.1; have c0_7 := cell_of_row _ _ 7 _ _ _ hSz.1; have c0_8 := cell_of_row _ _ 8 _ _ _ hSz.1; have c0_9 := cell_of_row _ _ 9 _ _ _ hSz.1; have c0_10 := cell_of_row _ _ 10 _ _ _ hSz.1; have c0_11 := cell_of_row _ _ 11 _ _ _ hSz.1; have c0_12 := cell_of_row _ _ 12 _ _ _ hSz.1; have c0_13 := cell_of_row _ _ 13 _ _ _ hSz.1; have c0_14 := cell_of_row _ _ 14 _ _ _ hSz.1; have c0_15 := cell_of_row _ _ 15 _ _ _ hSz.1; have c0_16 := cell_of_row _ _ 16 _ _ _ hSz.1; have c0_17 := cell_of_row _ _ 17 _ _ _ hSz.1; have c0_18 := cell_of_row _ _ 18 _ _ _ hSz.1; have c0_19 := cell_of_row _ _ 19 _ _ _ hSz.1; have c0_20 := cell_of_row _ _ 20 _ _ _ hSz.1; have c0_21 := cell_of_row _ _ 21 _ _ _ hSz.1; have c0_22 := cell_of_row _ _ 22 _ _ _ hSz.1; have c0_23 := cell_of_row _ _ 23 _ _ _ hSz.1; have c2_0 := cell_of_row _ _ 0 _ _ _ hSz.2.1; have c2_1 := cell_of_row _ _ 1 _ _ _ hSz.2.1; have c2_2 := cell_of_row _ _ 2 _ _ _ hSz.2.1; have c2_3 := cell_of_row _ _ 3 _ _ _ hSz.2.1; have c2_4 := cell_of_row _ _ 4 _ _ _ hSz.2.1; have c2_5 := cell_of_row _ _ 5 _ _ _ hSz.2.1; have c2_6 := cell_of_row _ _ 6 _ _ _ hSz.2.1; have c2_7 := cell_of_row _ _ 7 _ _ _ hSz.2.1; have c2_8 := cell_of_row _ _ 8 _ _ _ hSz.2.1; have c2_9 := cell_of_row _ _ 9 _ _ _ hSz.2.1; have c2_10 := cell_of_row _ _ 10 _ _ _ hSz.2.1; have c2_11 := cell_of_row _ _ 11 _ _ _ hSz.2.1; have c3_0 := cell_of_row _ _ 0 _ _ _ hSz.2.2; have c3_1 := cell_of_row _ _ 1 _ _ _ hSz.2.2; have c3_2 := cell_of_row _ _ 2 _ _ _ hSz.2.2; have c3_3 := cell_of_row _ _ 3 _ _ _ hSz.2.2; have c3_4 := cell_of_row _ _ 4 _ _ _ hSz.2.2; have c3_5 := cell_of_row _ _ 5 _ _ _ hSz.2.2; have c3_6 := cell_of_row _ _ 6 _ _ _ hSz.2.2; have c3_7 := cell_of_row _ _ 7 _ _ _ hSz.2.2; have c3_8 := cell_of_row _ _ 8 _ _ _ hSz.2.2; have c3_9 := cell_of_row _ _ 9 _ _ _ hSz.2.2; have c3_10 := cell_of_row _ _ 10 _ _ _ hSz.2.2; have c3_11 := cell_of_row _ _ 11 _ _ _ hSz.2.2; simp at c0_0 c0_1 c0_2 c0_3 c0_4 c0_5 c0_6 c0_7 c0_8 c0_9 c0_10 c0_11 c0_12 c0_13 c0_14 c0_15 c0_16 c0_17 c0_18 c0_19 c0_20 c0_21 c0_22 c0_23 c2_0 c2_1 c2_2 c2_3 c2_4 c2_5 c2_6 c2_7 c2_8 c2_9 c2_10 c2_11 c3_0 c3_1 c3_2 c3_3 c3_4 c3_5 c3_6 c3_7 c3_8 c3_9 c3_10 c3_11; go_simp; try with_reducible rfl)⟩) hS0 ?_
      go_simp
      refine wpAnyH_take (i := 9) (v := ?_) rfl (by kernel_rfl) (by kernel_rfl) (by kernel_rfl) (fun _ _ _ h => h) (Or.inl ⟨by kernel_rfl, by (intro wz hSz; go_simp; try with_reducible rfl)⟩) hS0 ?_
      go_simp
      refine wpAnyH_take (i := 10) (v := ?_) rfl (by kernel_rfl) (by kernel_rfl) (by kernel_rfl) (fun _ _ _ h => h) (Or.inl ⟨by kernel_rfl, by (intro wz hSz; go_simp; try with_reducible rfl)⟩) hS0 ?_
      go_simp
      refine wpAnyH_take (i := 11) (v := ?_) rfl (by kernel_rfl) (by kernel_rfl) (by kernel_rfl) (fun _ _ _ h => h) (Or.inl ⟨by kernel_rfl, by (intro wz hSz; have c0_0 := cell_of_row _ _ 0 _ _ _ hSz.1; have c0_1 := cell_of_row _ _ 1 _ _ _ hSz.1; have c0_2 := cell_of_row _ _ 2 _ _ _ hSz.1; have c0_3 := cell_of_row _ _ 3 _ _ _ hSz.1; have c0_4 := cell_of_row _ _ 4 _ _ _ hSz.1; have c0_5 := cell_of_row _ _ 5 _ _ _ hSz.1; have c0_6 := cell_of_row _ _ 6 _ _ _ hSz.1; have c0_7 := cell_of_row _ _ 7 _ _ _ hSz.1; have c0_8 := cell_of_row _ _ 8 _ _ _ hSz.1; have c0_9 := cell_of_row _ _ 9 _ _ _ hSz.1; have c0_10 := cell_of_row _ _ 10 _ _ _ hSz.1; have c0_11 := cell_of_row _ _ 11 _ _ _ hSz.1; have c0_12 := cell_of_row _ _ 12 _ _ _ hSz.1; have c0_13 := cell_of_row _ _ 13 _ _ _ hSz.1; have c0_14 := cell_of_row _ _ 14 _ _ _ hSz.1; have c0_15 := cell_of_row _ _ 15 _ _ _ hSz.1; have c0_16 := cell_of_row _ _ 16 _ _ _ hSz.1; have c0_17 := cell_of_row _ _ 17 _ _ _ hSz.1; have c0_18 := cell_of_row _ _ 18 _ _ _ hSz.1; have c0_19 := cell_of_row _ _ 19 _ _ _ hSz.1; have c0_20 := cell_of_row _ _ 20 _ _ _ hSz.1; have c0_21 := cell_of_row _ _ 21 _ _ _ hSz.1; have c0_22 := cell_of_row _ _ 22 _ _ _ hSz.1; have c0_23 := cell_of_row _ _ 23 _ _ _ hSz.1; have c2_0 := cell_of_row _ _ 0 _ _ _ hSz.2.1; have c2_1 := cell_of_row _ _ 1 _ _ _ hSz.2.1; have c2_2 := cell_of_row _ _ 2 _ _ _ hSz.2.1; have c2_3 := cell_of_row _ _ 3 _ _ _ hSz.2.1; have c2_4 := cell_of_row _ _ 4 _ _ _ hSz.2.1; have c2_5 := cell_of_row _ _ 5 _ _ _ hSz.2.1; have c2_6 := cell_of_row _ _ 6 _ _ _ hSz.2.1; have c2_7 := cell_of_row _ _ 7 _ _ _ hSz.2.1; have c2_8 := cell_of_row _ _ 8 _ _ _ hSz.2.1; have c2_9 := cell_of_row _ _ 9 _ _ _ hSz.2.1; have c2_10 := cell_of_row _ _ 10 _ _ _ hSz.2.1; have c2_11 := cell_of_row _ _ 11 _ _ _ hSz.2.1; have c3_0 := cell_of_row _ _ 0 _ _ _ hSz.2.2; have c3_1 := cell_of_row _ _ 1 _ _ _ hSz.2.2; have c3_2 := cell_of_row _ _ 2 _ _ _ hSz.2.2; have c3_3 := cell_of_row _ _ 3 _ _ _ hSz.2.2; have c3_4 := cell_of_row _ _ 4 _ _ _ hSz.2.2; have c3_5 := cell_of_row _ _ 5 _ _ _ hSz.2.2; have c3_6 := cell_of_row _ _ 6 _ _ _ hSz.2.2; have c3_7 := cell_of_row _ _ 7 _ _ _ hSz.2.2; have c3_8 := cell_of_row _ _ 8 _ _ _ hSz.2.2; have c3_9 := cell_of_row _ _ 9 _ _ _ hSz.2.2; have c3_10 := cell_of_row _ _ 10 _ _ _ hSz.2.2; have c3_11 := cell_of_row _ _ 11 _ _ _ hSz.2.2; simp at c0_0 c0_1 c0_2 c0_3 c0_4 c0_5 c0_6 c0_7 c0_8 c0_9 c0_10 c0_11 c0_12 c0_13 c0_14 c0_15 c0_16 c0_17 c0_18 c0_19 c0_20 c0_21 c0_22 c0_23 c2_0 c2_1 c2_2 c2_3 c2_4 c2_5 c2_6 c2_7 c2_8 c2_9 c2_10 c2_11 c3_0 c3_1 c3_2 c3_3 c3_4 c3_5 c3_6 c3_7 c3_8 c3_9 c3_10 c3_11; go_simp; try with_reducible rfl)⟩) hS0 ?_
      go_simp
      refine wpAnyH_take (i := 12) (v := ?_) rfl (by kernel_rfl) (by kernel_rfl) (by kernel_rfl) (fun _ _ _ h => h) (Or.inl ⟨by kernel_rfl, by (intro wz hSz; go_simp; try with_reducible rfl)⟩) hS0 ?_
      go_simp
      refine wpAnyH_take (i := 13) (v := ?_) rfl (by kernel_rfl) (by kernel_rfl) (by kernel_rfl) (fun _ _ _ h => h) (Or.inl ⟨by kernel_rfl, by (intro wz hSz; have c0_0 := cell_of_row _ _ 0 _ _ _ hSz.1; have c0_1 := cell_of_row _ _ 1 _ _ _ hSz.1; have c0_2 := cell_of_row _ _ 2 _ _ _ hSz.1; have c0_3 := cell_of_row _ _ 3 _ _ _ hSz.1; have c0_4 := cell_of_row _ _ 4 _ _ _ hSz.1; have c0_5 := cell_of_row _ _ 5 _ _ _ hSz.1; have c0_6 := cell_of_row _ _ 6 _ _ _ hSz.1; have c0_7 := cell_of_row _ _ 7 _ _ _ hSz.1; have c0_8 := cell_of_row _ _ 8 _ _ _ hSz.1; have c0_9 := cell_of_row _ _ 9 _ _ _ hSz.1; have c0_10 := cell_of_row _ _ 10 _ _ _ hSz.1; have c0_11 := cell_of_row _ _ 11 _ _ _ hSz.1; have c0_12 := cell_of_row _ _ 12 _ _ _ hSz.1; have c0_13 := cell_of_row _ _ 13 _ _ _ hSz.1; have c0_14 := cell_of_row _ _ 14 _ _ _ hSz.1; have c0_15 := cell_of_row _ _ 15 _ _ _ hSz.1; have c0_16 := cell_of_row _ _ 16 _ _ _ hSz.1; have c0_17 := cell_of_row _ _ 17 _ _ _ hSz.1; have c0_18 := cell_of_row _ _ 18 _ _ _ hSz.1; have c0_19 := cell_of_row _ _ 19 _ _ _ hSz.1; have c0_20 := cell_of_row _ _ 20 _ _ _ hSz.1; have c0_21 := cell_of_row _ _ 21 _ _ _ hSz.1; have c0_22 := cell_of_row _ _ 22 _ _ _ hSz.1; have c0_23 := cell_of_row _ _ 23 _ _ _ hSz.1; have c2_0 := cell_of_row _ _ 0 _ _ _ hSz.2.1; have c2_1 := cell_of_row _ _ 1 _ _ _ hSz.2.1; have c2_2 := cell_of_row _ _ 2 _ _ _ hSz.2.1; have c2_3 := cell_of_row _ _ 3 _ _ _ hSz.2.1; have c2_4 := cell_of_row _ _ 4 _ _ _ hSz.2.1; have c2_5 := cell_of_row _ _ 5 _ _ _ hSz.2.1; have c2_6 := cell_of_row _ _ 6 _ _ _ hSz.2.1; have c2_7 := cell_of_row _ _ 7 _ _ _ hSz.2.1; have c2_8 := cell_of_row _ _ 8 _ _ _ hSz.2.1; have c2_9 := cell_of_row _ _ 9 _ _ _ hSz.2.1; have c2_10 := cell_of_row _ _ 10 _ _ _ hSz.2.1; have c2_11 := cell_of_row _ _ 11 _ _ _ hSz.2.1; have c3_0 := cell_of_row _ _ 0 _ _ _ hSz.2.2; have c3_1 := cell_of_row _ _ 1 _ _ _ hSz.2.2; have c3_2 := cell_of_row _ _ 2 _ _ _ hSz.2.2; have c3_3 := cell_of_row _ _ 3 _ _ _ hSz.2.2; have c3_4 := cell_of_row _ _ 4 _ _ _ hSz.2.2; have c3_5 := cell_of_row _ _ 5 _ _ _ hSz.2.2; have c3_6 := cell_of_row _ _ 6 _ _ _ hSz.2.2; have c3_7 := cell_of_row _ _ 7 _ _ _ hSz.2.2; have c3_8 := cell_of_row _ _ 8 _ _ _ hSz.2.2; have c3_9 := cell_of_row _ _ 9 _ _ _ hSz.2.2; have c3_10 := cell_of_row _ _ 10 _ _ _ hSz.2.2; have c3_11 := cell_of_row _ _ 11 _ _ _ hSz.2.2; simp at c0_0 c0_1 c0_2 c0_3 c0_4 c0_5 c0_6 c0_7 c0_8 c0_9 c0_10 c0_11 c0_12 c0_13 c0_14 c0_15 c0_16 c0_17 c0_18 c0_19 c0_20 c0_21 c0_22 c0_23 c2_0 c2_1 c2_2 c2_3 c2_4 c2_5 c2_6 c2_7 c2_8 c2_9 c2_10 c2_11 c3_0 c3_1 c3_2 c3_3 c3_4 c3_5 c3_6 c3_7 c3_8 c3_9 c3_10 c3_11; go_simp; try with_reducible rfl)⟩) hS0 ?_
      go_simp
      refine wpAnyH_take (i := 16) (v := ?_) rfl (by kernel_rfl) (by kernel_rfl) (by kernel_rfl) (fun _ _ _ h => h) (Or.inl ⟨by kernel_rfl, by (intro wz hSz; have c0_0 := cell_of_row _ _ 0 _ _ _ hSz.1; have c0_1 := cell_of_row _ _ 1 _ _ _ hSz.1; have c0_2 := cell_of_row _ _ 2 _ _ _ hSz.1; have c0_3 := cell_of_row _ _ 3 _ _ _ hSz.1; have c0_4 := cell_of_row _ _ 4 _ _ _ hSz.1; have c0_5 := cell_of_row _ _ 5 _ _ _ hSz.1; have c0_6 := cell_of_row _ _ 6 _ _ _ hSz.1; have c0_7 := cell_of_row _ _ 7 _ _ _ hSz.1; have c0_8 := cell_of_row _ _ 8 _ _ _ hSz.1; have c0_9 := cell_of_row _ _ 9 _ _ _ hSz.1; have c0_10 := cell_of_row _ _ 10 _ _ _ hSz.1; have c0_11 := cell_of_row _ _ 11 _ _ _ hSz.1; have c0_12 := cell_of_row _ _ 12 _ _ _ hSz.1; have c0_13 := cell_of_row _ _ 13 _ _ _ hSz.1; have c0_14 := cell_of_row _ _ 14 _ _ _ hSz.1; have c0_15 := cell_of_row _ _ 15 _ _ _ hSz.1; have c0_16 := cell_of_row _ _ 16 _ _ _ hSz.1; have c0_17 := cell_of_row _ _ 17 _ _ _ hSz.1; have c0_18 := cell_of_row _ _ 18 _ _ _ hSz.1; have c0_19 := cell_of_row _ _ 19 _ _ _ hSz.1; have c0_20 := cell_of_row _ _ 20 _ _ _ hSz.1; have c0_21 := cell_of_row _ _ 21 _ _ _ hSz.1; have c0_22 := cell_of_row _ _ 22 _ _ _ hSz.1; have c0_23 := cell_of_row _ _ 23 _ _ _ hSz.1; have c2_0 := cell_of_row _ _ 0 _ _ _ hSz.2.1; have c2_1 := cell_of_row _ _ 1 _ _ _ hSz.2.1; have c2_2 := cell_of_row _ _ 2 _ _ _ hSz.2.1; have c2_3 := cell_of_row _ _ 3 _ _ _ hSz.2.1; have c2_4 := cell_of_row _ _ 4 _ _ _ hSz.2.1; have c2_5 := cell_of_row _ _ 5 _ _ _ hSz.2.1; have c2_6 := cell_of_row _ _ 6 _ _ _ hSz.2.1; have c2_7 := cell_of_row _ _ 7 _ _ _ hSz.2.1; have c2_8 := cell_of_row _ _ 8 _ _ _ hSz.2.1; have c2_9 := cell_of_row _ _ 9 _ _ _ hSz.2.1; have c2_10 := cell_of_row _ _ 10 _ _ _ hSz.2.1; have c2_11 := cell_of_row _ _ 11 _ _ _ hSz.2.1; have c3_0 := cell_of_row _ _ 0 _ _ _ hSz.2.2; have c3_1 := cell_of_row _ _ 1 _ _ _ hSz.2.2; have c3_2 := cell_of_row _ _ 2 _ _ _ hSz.2.2; have c3_3 := cell_of_row _ _ 3 _ _ _ hSz.2.2; have c3_4 := cell_of_row _ _ 4 _ _ _ hSz.2.2; have c3_5 := cell_of_row _ _ 5 _ _ _ hSz.2.2; have c3_6 := cell_of_row _ _ 6 _ _ _ hSz.2.2; have c3_7 := cell_of_row _ _ 7 _ _ _ hSz.2.2; have c3_8 := cell_of_row _ _ 8 _ _ _ hSz.2.2; have c3_9 := cell_of_row _ _ 9 _ _ _ hSz.2.2; have c3_10 := cell_of_row _ _ 10 _ _ _ hSz.2.2; have c3_11 := cell_of_row _ _ 11 _ _ _ hSz.2.2; simp at c0_0 c0_1 c0_2 c0_3 c0_4 c0_5 c0_6 c0_7 c0_8 c0_9 c0_10 c0_11 c0_12 c0_13 c0_14 c0_15 c0_16 c0_17 c0_18 c0_19 c0_20 c0_21 c0_22 c0_23 c2_0 c2_1 c2_2 c2_3 c2_4 c2_5 c2_6 c2_7 c2_8 c2_9 c2_10 c2_11 c3_0 c3_1 c3_2 c3_3 c3_4 c3_5 c3_6 c3_7 c3_8 c3_9 c3_10 c3_11; go_simp; try with_reducible rfl)⟩) hS0 ?_
      go_simp
      refine wpAnyH_ready (rs := [14]) (by kernel_rfl) (by simp) ?_
      refine AllReadyH.cons rfl (fun K hK => ?_) AllReadyH.nil
      go_simp
      go_wp2_with (go_at_call 70; refine (reach_any _ _ _ _ _ _ _ _ _ _ _ _ _ ).mono ?_; rintro e y7 ⟨rfl, hb7⟩)
      have hr7_0 := (hb7.block _ (lt_heap hr6_0)).trans hr6_0
      have hr7_1 := (hb7.block _ (lt_heap hr6_1)).trans hr6_1
      have hr7_2 := (hb7.block _ (lt_heap hr6_2)).trans hr6_2
      have hr7_3 := (hb7.block _ (lt_heap hr6_3)).trans hr6_3
      have HU7 := Lib.hid (HU6.out.trans (hb7.mono HU6.out.size))
      refine hK.out _ _ (⟨(hb7.block _ (lt_heap hS0.1)).trans hS0.1, (hb7.block _ (lt_heap hS0.2.1)).trans hS0.2.1, (hb7.block _ (lt_heap hS0.2.2)).trans hS0.2.2⟩) (fun hS7c => ?_)
      clear hK K
      refine wpAnyH_ready (rs := [15]) (by kernel_rfl) (by simp) ?_
      refine AllReadyH.cons rfl (fun K hK => ?_) AllReadyH.nil
      go_simp
      go_wp2_with (go_at_call 69; refine (alike_any _ _).mono ?_; rintro e y8 ⟨rfl, hb8⟩)
      have hr8_0 := (hb8.block _ (lt_heap hr7_0)).trans hr7_0
      have hr8_1 := (hb8.block _ (lt_heap hr7_1)).trans hr7_1
      have hr8_2 := (hb8.block _ (lt_heap hr7_2)).trans hr7_2
      have hr8_3 := (hb8.block _ (lt_heap hr7_3)).trans hr7_3
      have HU8 := Lib.hid (HU7.out.trans (hb8.mono HU7.out.size))
      refine hK.out _ _ (⟨(hb8.block _ (lt_heap hS7c.1)).trans hS7c.1, (hb8.block _ (lt_heap hS7c.2.1)).trans hS7c.2.1, (hb8.block _ (lt_heap hS7c.2.2)).trans hS7c.2.2⟩) (fun hS8c => ?_)
      clear hK K
      refine wpAnyH_ready (rs := [17]) (by kernel_rfl) (by simp) ?_
      refine AllReadyH.cons rfl (fun K hK => ?_) AllReadyH.nil
      go_simp
      go_wp2_with (go_at_call 70; refine (reach_any _ _ _ _ _ _ _ _ _ _ _ _ _ ).mono ?_; rintro e y9 ⟨rfl, hb9⟩)
      have hr9_0 := (hb9.block _ (lt_heap hr8_0)).trans hr8_0
      have hr9_1 := (hb9.block _ (lt_heap hr8_1)).trans hr8_1
      have hr9_2 := (hb9.block _ (lt_heap hr8_2)).trans hr8_2
      have hr9_3 := (hb9.block _ (lt_heap hr8_3)).trans hr8_3
      have HU9 := Lib.hid (HU8.out.trans (hb9.mono HU8.out.size))
      refine hK.out _ _ (⟨(hb9.block _ (lt_heap hS8c.1)).trans hS8c.1, (hb9.block _ (lt_heap hS8c.2.1)).trans hS8c.2.1, (hb9.block _ (lt_heap hS8c.2.2)).trans hS8c.2.2⟩) (fun hS9c => ?_)
      clear hK K
      refine wpAnyH_ready (rs := [18]) (by kernel_rfl) (by simp) ?_
      refine AllReadyH.cons rfl (fun K hK => ?_) AllReadyH.nil
      go_simp
      go_wp2_with (go_at_call 69; refine (alike_any _ _).mono ?_; rintro e y10 ⟨rfl, hb10⟩)
      have hr10_0 := (hb10.block _ (lt_heap hr9_0)).trans hr9_0
      have hr10_1 := (hb10.block _ (lt_heap hr9_1)).trans hr9_1
      have hr10_2 := (hb10.block _ (lt_heap hr9_2)).trans hr9_2
      have hr10_3 := (hb10.block _ (lt_heap hr9_3)).trans hr9_3
      have HU10 := Lib.hid (HU9.out.trans (hb10.mono HU9.out.size))
      refine hK.out _ _ (⟨(hb10.block _ (lt_heap hS9c.1)).trans hS9c.1, (hb10.block _ (lt_heap hS9c.2.1)).trans hS9c.2.1, (hb10.block _ (lt_heap hS9c.2.2)).trans hS9c.2.2⟩) (fun hS10c => ?_)
      clear hK K
      refine wpAnyH_ready (rs := [19]) (by kernel_rfl) (by simp) ?_
      refine AllReadyH.cons rfl (fun K hK => ?_) AllReadyH.nil
      go_simp
      have hb11 := below_n1 y10 (.cells #[.int .i64 (Pl.sub (min a2 (min a5 a8)) 8192), .int .i64 (Pl.sub (min a3 (min a6 a9)) 8192), .int .i64 (Pl.sub (min a4 (min a7 a10)) 8192), .int .i64 (Pl.add (max a2 (max a5 a8)) 8192), .int .i64 (Pl.add (max a3 (max a6 a9)) 8192), .int .i64 (Pl.add (max a4 (max a7 a10)) 8192), .int .i64 (Pl.sub (min a14 (min a17 a20)) 8192), .int .i64 (Pl.sub (min a15 (min a18 a21)) 8192), .int .i64 (Pl.sub (min a16 (min a19 a22)) 8192), .int .i64 (Pl.add (max a14 (max a17 a20)) 8192), .int .i64 (Pl.add (max a15 (max a18 a21)) 8192), .int .i64 (Pl.add (max a16 (max a19 a22)) 8192), .int .i64 (Pl.add a11 8192), .int .i64 (Pl.add a11 8192), .int .i64 (Pl.add a11 8192), .int .i64 (Pl.add a23 8192), .int .i64 (Pl.add a23 8192), .int .i64 (Pl.add a23 8192)] 71)
      have hN := heap_alloc_last y10 (.cells #[.int .i64 (Pl.sub (min a2 (min a5 a8)) 8192), .int .i64 (Pl.sub (min a3 (min a6 a9)) 8192), .int .i64 (Pl.sub (min a4 (min a7 a10)) 8192), .int .i64 (Pl.add (max a2 (max a5 a8)) 8192), .int .i64 (Pl.add (max a3 (max a6 a9)) 8192), .int .i64 (Pl.add (max a4 (max a7 a10)) 8192), .int .i64 (Pl.sub (min a14 (min a17 a20)) 8192), .int .i64 (Pl.sub (min a15 (min a18 a21)) 8192), .int .i64 (Pl.sub (min a16 (min a19 a22)) 8192), .int .i64 (Pl.add (max a14 (max a17 a20)) 8192), .int .i64 (Pl.add (max a15 (max a18 a21)) 8192), .int .i64 (Pl.add (max a16 (max a19 a22)) 8192), .int .i64 (Pl.add a11 8192), .int .i64 (Pl.add a11 8192), .int .i64 (Pl.add a11 8192), .int .i64 (Pl.add a23 8192), .int .i64 (Pl.add a23 8192), .int .i64 (Pl.add a23 8192)] 71)
      obtain ⟨y11, hy11⟩ : ∃ y, y10.alloc (.cells #[.int .i64 (Pl.sub (min a2 (min a5 a8)) 8192), .int .i64 (Pl.sub (min a3 (min a6 a9)) 8192), .int .i64 (Pl.sub (min a4 (min a7 a10)) 8192), .int .i64 (Pl.add (max a2 (max a5 a8)) 8192), .int .i64 (Pl.add (max a3 (max a6 a9)) 8192), .int .i64 (Pl.add (max a4 (max a7 a10)) 8192), .int .i64 (Pl.sub (min a14 (min a17 a20)) 8192), .int .i64 (Pl.sub (min a15 (min a18 a21)) 8192), .int .i64 (Pl.sub (min a16 (min a19 a22)) 8192), .int .i64 (Pl.add (max a14 (max a17 a20)) 8192), .int .i64 (Pl.add (max a15 (max a18 a21)) 8192), .int .i64 (Pl.add (max a16 (max a19 a22)) 8192), .int .i64 (Pl.add a11 8192), .int .i64 (Pl.add a11 8192), .int .i64 (Pl.add a11 8192), .int .i64 (Pl.add a23 8192), .int .i64 (Pl.add a23 8192), .int .i64 (Pl.add a23 8192)] 71) = y := ⟨_, rfl⟩
      rw [hy11] at hb11 hN ⊢
      clear hy11
      have hl11_0 := lt_heap hr10_0
      have hr11_0 := (hb11.block _ (lt_heap hr10_0)).trans hr10_0
      have hl11_1 := lt_heap hr10_1
      have hr11_1 := (hb11.block _ (lt_heap hr10_1)).trans hr10_1
      have hl11_2 := lt_heap hr10_2
      have hr11_2 := (hb11.block _ (lt_heap hr10_2)).trans hr10_2
      have hl11_3 := lt_heap hr10_3
      have hr11_3 := (hb11.block _ (lt_heap hr10_3)).trans hr10_3
      have hr11_4 := hN
      clear hN
      have HU11 := Lib.hid (HU10.out.trans (hb11.mono HU10.out.size))
      refine hK.out _ _ (⟨(hb11.block _ (lt_heap hS10c.1)).trans hS10c.1, (hb11.block _ (lt_heap hS10c.2.1)).trans hS10c.2.1, (hb11.block _ (lt_heap hS10c.2.2)).trans hS10c.2.2⟩) (fun hS11a => ?_)
      clear hK K
      refine wpAnyH_ready (rs := [20]) (by kernel_rfl) (by simp) ?_
      refine AllReadyH.cons rfl (fun K hK => ?_) AllReadyH.nil
      go_simp
      go_wp2_with (go_at_call 68; refine (atend_row (y10.heap.size) 6 _ (l18 (Pl.sub (min a2 (min a5 a8)) 8192) (Pl.sub (min a3 (min a6 a9)) 8192) (Pl.sub (min a4 (min a7 a10)) 8192) (Pl.add (max a2 (max a5 a8)) 8192) (Pl.add (max a3 (max a6 a9)) 8192) (Pl.add (max a4 (max a7 a10)) 8192) (Pl.sub (min a14 (min a17 a20)) 8192) (Pl.sub (min a15 (min a18 a21)) 8192) (Pl.sub (min a16 (min a19 a22)) 8192) (Pl.add (max a14 (max a17 a20)) 8192) (Pl.add (max a15 (max a18 a21)) 8192) (Pl.add (max a16 (max a19 a22)) 8192) (Pl.add a11 8192) (Pl.add a23 8192)) (by omega) _ (lt_heap hr11_4) (fun j hj => by rcases (show j = 0 ∨ j = 1 ∨ j = 2 ∨ j = 3 ∨ j = 4 ∨ j = 5 ∨ j = 6 ∨ j = 7 ∨ j = 8 ∨ j = 9 ∨ j = 10 ∨ j = 11 ∨ j = 12 ∨ j = 13 ∨ j = 14 ∨ j = 15 ∨ j = 16 ∨ j = 17 by omega) with rfl | rfl | rfl | rfl | rfl | rfl | rfl | rfl | rfl | rfl | rfl | rfl | rfl | rfl | rfl | rfl | rfl | rfl <;> exact cell_of_row _ _ _ _ _ _ hr11_4)).mono ?_; rintro e y12 ⟨rfl, hb12⟩; rw [hv])
      have hr12_0 := (hb12.block _ (lt_heap hr11_0)).trans hr11_0
      have hr12_1 := (hb12.block _ (lt_heap hr11_1)).trans hr11_1
      have hr12_2 := (hb12.block _ (lt_heap hr11_2)).trans hr11_2
      have hr12_3 := (hb12.block _ (lt_heap hr11_3)).trans hr11_3
      have hr12_4 := (hb12.block _ (lt_heap hr11_4)).trans hr11_4
      have HU12 := Lib.hid (HU11.out.trans (hb12.mono HU11.out.size))
      refine hK.out _ _ (⟨(hb12.block _ (lt_heap hS11a.1)).trans hS11a.1, (hb12.block _ (lt_heap hS11a.2.1)).trans hS11a.2.1, (hb12.block _ (lt_heap hS11a.2.2)).trans hS11a.2.2⟩) (fun hS12c => ?_)
      clear hK K
      refine wpAnyH_done (by kernel_rfl) ?_ _
      have c3_0 := cell_of_row _ _ 0 _ _ _ hr12_3
      have c3_1 := cell_of_row _ _ 1 _ _ _ hr12_3
      have c3_2 := cell_of_row _ _ 2 _ _ _ hr12_3
      have c3_3 := cell_of_row _ _ 3 _ _ _ hr12_3
      have c3_4 := cell_of_row _ _ 4 _ _ _ hr12_3
      have c3_5 := cell_of_row _ _ 5 _ _ _ hr12_3
      have c3_6 := cell_of_row _ _ 6 _ _ _ hr12_3
      have c3_7 := cell_of_row _ _ 7 _ _ _ hr12_3
      have c3_8 := cell_of_row _ _ 8 _ _ _ hr12_3
      have c3_9 := cell_of_row _ _ 9 _ _ _ hr12_3
      have c3_10 := cell_of_row _ _ 10 _ _ _ hr12_3
      have c3_11 := cell_of_row _ _ 11 _ _ _ hr12_3
      simp at c3_0 c3_1 c3_2 c3_3 c3_4 c3_5 c3_6 c3_7 c3_8 c3_9 c3_10 c3_11
      have hHr := Lib.hid hr12_1
      have hHi := Lib.hid (show (Try.prog.info? 75).map (·.size) = some (#[.int .i64 (Pl.sub (min a2 (min a5 a8)) 8192), .int .i64 (Pl.sub (min a3 (min a6 a9)) 8192), .int .i64 (Pl.sub (min a4 (min a7 a10)) 8192), .int .i64 (Pl.add (max a2 (max a5 a8)) 8192), .int .i64 (Pl.add (max a3 (max a6 a9)) 8192), .int .i64 (Pl.add (max a4 (max a7 a10)) 8192), .int .i64 (Pl.sub (min a14 (min a17 a20)) 8192), .int .i64 (Pl.sub (min a15 (min a18 a21)) 8192), .int .i64 (Pl.sub (min a16 (min a19 a22)) 8192), .int .i64 (Pl.add (max a14 (max a17 a20)) 8192), .int .i64 (Pl.add (max a15 (max a18 a21)) 8192), .int .i64 (Pl.add (max a16 (max a19 a22)) 8192)] : Array Value).size by kernel_rfl)
      have hHz := Lib.hid (show (#[.int .i64 0, .int .i64 0, .int .i64 0, .int .i64 0, .int .i64 0, .int .i64 0, .int .i64 0, .int .i64 0, .int .i64 0, .int .i64 0, .int .i64 0, .int .i64 0] : Array Value).size = (#[.int .i64 (Pl.sub (min a2 (min a5 a8)) 8192), .int .i64 (Pl.sub (min a3 (min a6 a9)) 8192), .int .i64 (Pl.sub (min a4 (min a7 a10)) 8192), .int .i64 (Pl.add (max a2 (max a5 a8)) 8192), .int .i64 (Pl.add (max a3 (max a6 a9)) 8192), .int .i64 (Pl.add (max a4 (max a7 a10)) 8192), .int .i64 (Pl.sub (min a14 (min a17 a20)) 8192), .int .i64 (Pl.sub (min a15 (min a18 a21)) 8192), .int .i64 (Pl.sub (min a16 (min a19 a22)) 8192), .int .i64 (Pl.add (max a14 (max a17 a20)) 8192), .int .i64 (Pl.add (max a15 (max a18 a21)) 8192), .int .i64 (Pl.add (max a16 (max a19 a22)) 8192)] : Array Value).size from rfl)
      have hHo := Lib.hid (show (#[.int .i64 (Pl.sub (min a2 (min a5 a8)) 8192), .int .i64 (Pl.sub (min a3 (min a6 a9)) 8192), .int .i64 (Pl.sub (min a4 (min a7 a10)) 8192), .int .i64 (Pl.add (max a2 (max a5 a8)) 8192), .int .i64 (Pl.add (max a3 (max a6 a9)) 8192), .int .i64 (Pl.add (max a4 (max a7 a10)) 8192), .int .i64 (Pl.sub (min a14 (min a17 a20)) 8192), .int .i64 (Pl.sub (min a15 (min a18 a21)) 8192), .int .i64 (Pl.sub (min a16 (min a19 a22)) 8192), .int .i64 (Pl.add (max a14 (max a17 a20)) 8192), .int .i64 (Pl.add (max a15 (max a18 a21)) 8192), .int .i64 (Pl.add (max a16 (max a19 a22)) 8192)] : Array Value).all (·.oneCell') = true by simp [Value.oneCell'])
      go_wp2_with (first | (refine Au.wpList_store_row rfl 75 (.tmp 2) (.tmp 41) rfl y12 #[.int .i64 0, .int .i64 0, .int .i64 0, .int .i64 0, .int .i64 0, .int .i64 0, .int .i64 0, .int .i64 0, .int .i64 0, .int .i64 0, .int .i64 0, .int .i64 0] #[.int .i64 (Pl.sub (min a2 (min a5 a8)) 8192), .int .i64 (Pl.sub (min a3 (min a6 a9)) 8192), .int .i64 (Pl.sub (min a4 (min a7 a10)) 8192), .int .i64 (Pl.add (max a2 (max a5 a8)) 8192), .int .i64 (Pl.add (max a3 (max a6 a9)) 8192), .int .i64 (Pl.add (max a4 (max a7 a10)) 8192), .int .i64 (Pl.sub (min a14 (min a17 a20)) 8192), .int .i64 (Pl.sub (min a15 (min a18 a21)) 8192), .int .i64 (Pl.sub (min a16 (min a19 a22)) 8192), .int .i64 (Pl.add (max a14 (max a17 a20)) 8192), .int .i64 (Pl.add (max a15 (max a18 a21)) 8192), .int .i64 (Pl.add (max a16 (max a19 a22)) 8192)] (w.heap.size + 1) 75 hHr.out rfl rfl hHi.out hHz.out hHo.out ?_))
      all_goals
        clear c3_0 c3_1 c3_2 c3_3 c3_4 c3_5 c3_6 c3_7 c3_8 c3_9 c3_10 c3_11
        clear hHr hHi hHz hHo
        have hN := setRow_heap _ (w.heap.size + 1) _ #[.int .i64 (Pl.sub (min a2 (min a5 a8)) 8192), .int .i64 (Pl.sub (min a3 (min a6 a9)) 8192), .int .i64 (Pl.sub (min a4 (min a7 a10)) 8192), .int .i64 (Pl.add (max a2 (max a5 a8)) 8192), .int .i64 (Pl.add (max a3 (max a6 a9)) 8192), .int .i64 (Pl.add (max a4 (max a7 a10)) 8192), .int .i64 (Pl.sub (min a14 (min a17 a20)) 8192), .int .i64 (Pl.sub (min a15 (min a18 a21)) 8192), .int .i64 (Pl.sub (min a16 (min a19 a22)) 8192), .int .i64 (Pl.add (max a14 (max a17 a20)) 8192), .int .i64 (Pl.add (max a15 (max a18 a21)) 8192), .int .i64 (Pl.add (max a16 (max a19 a22)) 8192)] _ _ hr12_1
        have hsz := HU12.out.size
        have HUx := below_setRow (g := w.heap.size + 1) HU12.out (by first | omega | (simp at *; omega)) #[.int .i64 (Pl.sub (min a2 (min a5 a8)) 8192), .int .i64 (Pl.sub (min a3 (min a6 a9)) 8192), .int .i64 (Pl.sub (min a4 (min a7 a10)) 8192), .int .i64 (Pl.add (max a2 (max a5 a8)) 8192), .int .i64 (Pl.add (max a3 (max a6 a9)) 8192), .int .i64 (Pl.add (max a4 (max a7 a10)) 8192), .int .i64 (Pl.sub (min a14 (min a17 a20)) 8192), .int .i64 (Pl.sub (min a15 (min a18 a21)) 8192), .int .i64 (Pl.sub (min a16 (min a19 a22)) 8192), .int .i64 (Pl.add (max a14 (max a17 a20)) 8192), .int .i64 (Pl.add (max a15 (max a18 a21)) 8192), .int .i64 (Pl.add (max a16 (max a19 a22)) 8192)]
        have hO : ∀ kk, kk ≠ w.heap.size + 1 → (y12.setRow (w.heap.size + 1) #[.int .i64 (Pl.sub (min a2 (min a5 a8)) 8192), .int .i64 (Pl.sub (min a3 (min a6 a9)) 8192), .int .i64 (Pl.sub (min a4 (min a7 a10)) 8192), .int .i64 (Pl.add (max a2 (max a5 a8)) 8192), .int .i64 (Pl.add (max a3 (max a6 a9)) 8192), .int .i64 (Pl.add (max a4 (max a7 a10)) 8192), .int .i64 (Pl.sub (min a14 (min a17 a20)) 8192), .int .i64 (Pl.sub (min a15 (min a18 a21)) 8192), .int .i64 (Pl.sub (min a16 (min a19 a22)) 8192), .int .i64 (Pl.add (max a14 (max a17 a20)) 8192), .int .i64 (Pl.add (max a15 (max a18 a21)) 8192), .int .i64 (Pl.add (max a16 (max a19 a22)) 8192)]).heap[kk]? = y12.heap[kk]? := fun kk hk => setRow_other _ _ _ _ hk
        obtain ⟨y13, hy13⟩ : ∃ y, y12.setRow (w.heap.size + 1) #[.int .i64 (Pl.sub (min a2 (min a5 a8)) 8192), .int .i64 (Pl.sub (min a3 (min a6 a9)) 8192), .int .i64 (Pl.sub (min a4 (min a7 a10)) 8192), .int .i64 (Pl.add (max a2 (max a5 a8)) 8192), .int .i64 (Pl.add (max a3 (max a6 a9)) 8192), .int .i64 (Pl.add (max a4 (max a7 a10)) 8192), .int .i64 (Pl.sub (min a14 (min a17 a20)) 8192), .int .i64 (Pl.sub (min a15 (min a18 a21)) 8192), .int .i64 (Pl.sub (min a16 (min a19 a22)) 8192), .int .i64 (Pl.add (max a14 (max a17 a20)) 8192), .int .i64 (Pl.add (max a15 (max a18 a21)) 8192), .int .i64 (Pl.add (max a16 (max a19 a22)) 8192)] = y := ⟨_, rfl⟩
        rw [hy13] at hN HUx hO ⊢
        clear hy13 hsz
        have HU13 := Lib.hid HUx
        clear HUx
        have hr13_0 := (hO _ (by omega)).trans hr12_0
        have hr13_1 := hN
        have hr13_2 := (hO _ (by omega)).trans hr12_2
        have hr13_3 := (hO _ (by omega)).trans hr12_3
        have hr13_4 := (hO _ (by omega)).trans hr12_4
        clear hN hO
        clear hr12_0 hr12_1 hr12_2 hr12_3 hr12_4 HU12
        go_wp2
        all_goals exact bodyPost_ret (v := .agg #[.int .i64 (Pl.sub (min a2 (min a5 a8)) 8192), .int .i64 (Pl.sub (min a3 (min a6 a9)) 8192), .int .i64 (Pl.sub (min a4 (min a7 a10)) 8192), .int .i64 (Pl.add (max a2 (max a5 a8)) 8192), .int .i64 (Pl.add (max a3 (max a6 a9)) 8192), .int .i64 (Pl.add (max a4 (max a7 a10)) 8192), .int .i64 (Pl.sub (min a14 (min a17 a20)) 8192), .int .i64 (Pl.sub (min a15 (min a18 a21)) 8192), .int .i64 (Pl.sub (min a16 (min a19 a22)) 8192), .int .i64 (Pl.add (max a14 (max a17 a20)) 8192), .int .i64 (Pl.add (max a15 (max a18 a21)) 8192), .int .i64 (Pl.add (max a16 (max a19 a22)) 8192)]) (results_row (t := 75) Try.results24 rfl hr13_1 Try.underlying75 rfl (by kernel_rfl)) rfl ⟨by first | rfl | rw [if_neg (by decide)] | simp, HU13.out⟩
    · skip
      go_wp2_with fail
      refine wp_region_held_drew (S := fun y => y.heap[w.heap.size]? = some (.cells #[.int .i64 a0, .int .i64 a1, .int .i64 a2, .int .i64 a3, .int .i64 a4, .int .i64 a5, .int .i64 a6, .int .i64 a7, .int .i64 a8, .int .i64 a9, .int .i64 a10, .int .i64 a11, .int .i64 a12, .int .i64 a13, .int .i64 a14, .int .i64 a15, .int .i64 a16, .int .i64 a17, .int .i64 a18, .int .i64 a19, .int .i64 a20, .int .i64 a21, .int .i64 a22, .int .i64 a23] 91 (0, 0)) ∧ y.heap[y0.heap.size]? = some (.cells #[.int .i64 a0, .int .i64 a13, .int .i64 a14, .int .i64 a15, .int .i64 a16, .int .i64 a17, .int .i64 a18, .int .i64 a19, .int .i64 a20, .int .i64 a21, .int .i64 a22, .int .i64 a23] 89 (0, 0)) ∧ y.heap[gp]? = some (.cells #[.int .i64 (Pl.sub (min a2 (min a5 a8)) 8192), .int .i64 (Pl.sub (min a3 (min a6 a9)) 8192), .int .i64 (Pl.sub (min a4 (min a7 a10)) 8192), .int .i64 (Pl.add (max a2 (max a5 a8)) 8192), .int .i64 (Pl.add (max a3 (max a6 a9)) 8192), .int .i64 (Pl.add (max a4 (max a7 a10)) 8192), .int .i64 (Pl.sub (min a14 (min a17 a20)) 8192), .int .i64 (Pl.sub (min a15 (min a18 a21)) 8192), .int .i64 (Pl.sub (min a16 (min a19 a22)) 8192), .int .i64 (Pl.add (max a14 (max a17 a20)) 8192), .int .i64 (Pl.add (max a15 (max a18 a21)) 8192), .int .i64 (Pl.add (max a16 (max a19 a22)) 8192)] 75 (0, 0))) (by kernel_rfl) (⟨hr5_0, hr5_2, hr5_3⟩) (fun hS0 => ?_)
      obtain ⟨y6, hy6⟩ : ∃ y, y5.drew = y := ⟨_, rfl⟩
      have HU6 := Lib.hid (show Below w.heap.size w y6 by rw [← hy6]; exact HU5.out.drew)
      have hr6_0 : y6.heap[w.heap.size]? = some (.cells #[.int .i64 a0, .int .i64 a1, .int .i64 a2, .int .i64 a3, .int .i64 a4, .int .i64 a5, .int .i64 a6, .int .i64 a7, .int .i64 a8, .int .i64 a9, .int .i64 a10, .int .i64 a11, .int .i64 a12, .int .i64 a13, .int .i64 a14, .int .i64 a15, .int .i64 a16, .int .i64 a17, .int .i64 a18, .int .i64 a19, .int .i64 a20, .int .i64 a21, .int .i64 a22, .int .i64 a23] 91 (0, 0)) := by rw [← hy6]; exact hr5_0
      have hr6_1 : y6.heap[w.heap.size + 1]? = some (.cells #[.int .i64 0, .int .i64 0, .int .i64 0, .int .i64 0, .int .i64 0, .int .i64 0, .int .i64 0, .int .i64 0, .int .i64 0, .int .i64 0, .int .i64 0, .int .i64 0] 75 (0, 0)) := by rw [← hy6]; exact hr5_1
      have hr6_2 : y6.heap[y0.heap.size]? = some (.cells #[.int .i64 a0, .int .i64 a13, .int .i64 a14, .int .i64 a15, .int .i64 a16, .int .i64 a17, .int .i64 a18, .int .i64 a19, .int .i64 a20, .int .i64 a21, .int .i64 a22, .int .i64 a23] 89 (0, 0)) := by rw [← hy6]; exact hr5_2
      have hr6_3 : y6.heap[gp]? = some (.cells #[.int .i64 (Pl.sub (min a2 (min a5 a8)) 8192), .int .i64 (Pl.sub (min a3 (min a6 a9)) 8192), .int .i64 (Pl.sub (min a4 (min a7 a10)) 8192), .int .i64 (Pl.add (max a2 (max a5 a8)) 8192), .int .i64 (Pl.add (max a3 (max a6 a9)) 8192), .int .i64 (Pl.add (max a4 (max a7 a10)) 8192), .int .i64 (Pl.sub (min a14 (min a17 a20)) 8192), .int .i64 (Pl.sub (min a15 (min a18 a21)) 8192), .int .i64 (Pl.sub (min a16 (min a19 a22)) 8192), .int .i64 (Pl.add (max a14 (max a17 a20)) 8192), .int .i64 (Pl.add (max a15 (max a18 a21)) 8192), .int .i64 (Pl.add (max a16 (max a19 a22)) 8192)] 75 (0, 0)) := by rw [← hy6]; exact hr5_3
      rw [hy6] at hS0 ⊢
      clear hy6
      refine wpAnyH_take (i := 0) (v := ?_) rfl (by kernel_rfl) (by kernel_rfl) (by kernel_rfl) (fun _ _ _ h => h) (Or.inl ⟨by kernel_rfl, by (intro wz hSz; go_simp; try with_reducible rfl)⟩) hS0 ?_
      go_simp
      refine wpAnyH_take (i := 1) (v := ?_) rfl (by kernel_rfl) (by kernel_rfl) (by kernel_rfl) (fun _ _ _ h => h) (Or.inl ⟨by kernel_rfl, by (intro wz hSz; go_simp; try with_reducible rfl)⟩) hS0 ?_
      go_simp
      refine wpAnyH_take (i := 2) (v := ?_) rfl (by kernel_rfl) (by kernel_rfl) (by kernel_rfl) (fun _ _ _ h => h) (Or.inl ⟨by kernel_rfl, by (intro wz hSz; have c0_0 := cell_of_row _ _ 0 _ _ _ hSz.1; have c0_1 := cell_of_row _ _ 1 _ _ _ hSz.1; have c0_2 := cell_of_row _ _ 2 _ _ _ hSz.1; have c0_3 := cell_of_row _ _ 3 _ _ _ hSz.1; have c0_4 := cell_of_row _ _ 4 _ _ _ hSz.1; have c0_5 := cell_of_row _ _ 5 _ _ _ hSz.1; have c0_6 := cell_of_row _ _ 6 _ _ _ hSz.1; have c0_7 := cell_of_row _ _ 7 _ _ _ hSz.1; have c0_8 := cell_of_row _ _ 8 _ _ _ hSz.1; have c0_9 := cell_of_row _ _ 9 _ _ _ hSz.1; have c0_10 := cell_of_row _ _ 10 _ _ _ hSz.1; have c0_11 := cell_of_row _ _ 11 _ _ _ hSz.1; have c0_12 := cell_of_row _ _ 12 _ _ _ hSz.1; have c0_13 := cell_of_row _ _ 13 _ _ _ hSz.1; have c0_14 := cell_of_row _ _ 14 _ _ _ hSz.1; have c0_15 := cell_of_row _ _ 15 _ _ _ hSz.1; have c0_16 := cell_of_row _ _ 16 _ _ _ hSz.1; have c0_17 := cell_of_row _ _ 17 _ _ _ hSz.1; have c0_18 := cell_of_row _ _ 18 _ _ _ hSz.1; have c0_19 := cell_of_row _ _ 19 _ _ _ hSz.1; have c0_20 := cell_of_row _ _ 20 _ _ _ hSz.1; have c0_21 := cell_of_row _ _ 21 _ _ _ hSz.1; have c0_22 := cell_of_row _ _ 22 _ _ _ hSz.1; have c0_23 := cell_of_row _ _ 23 _ _ _ hSz.1; have c2_0 := cell_of_row _ _ 0 _ _ _ hSz.2.1; have c2_1 := cell_of_row _ _ 1 _ _ _ hSz.2.1; have c2_2 := cell_of_row _ _ 2 _ _ _ hSz.2.1; have c2_3 := cell_of_row _ _ 3 _ _ _ hSz.2.1; have c2_4 := cell_of_row _ _ 4 _ _ _ hSz.2.1; have c2_5 := cell_of_row _ _ 5 _ _ _ hSz.2.1; have c2_6 := cell_of_row _ _ 6 _ _ _ hSz.2.1; have c2_7 := cell_of_row _ _ 7 _ _ _ hSz.2.1; have c2_8 := cell_of_row _ _ 8 _ _ _ hSz.2.1; have c2_9 := cell_of_row _ _ 9 _ _ _ hSz.2.1; have c2_10 := cell_of_row _ _ 10 _ _ _ hSz.2.1; have c2_11 := cell_of_row _ _ 11 _ _ _ hSz.2.1; have c3_0 := cell_of_row _ _ 0 _ _ _ hSz.2.2; have c3_1 := cell_of_row _ _ 1 _ _ _ hSz.2.2; have c3_2 := cell_of_row _ _ 2 _ _ _ hSz.2.2; have c3_3 := cell_of_row _ _ 3 _ _ _ hSz.2.2; have c3_4 := cell_of_row _ _ 4 _ _ _ hSz.2.2; have c3_5 := cell_of_row _ _ 5 _ _ _ hSz.2.2; have c3_6 := cell_of_row _ _ 6 _ _ _ hSz.2.2; have c3_7 := cell_of_row _ _ 7 _ _ _ hSz.2.2; have c3_8 := cell_of_row _ _ 8 _ _ _ hSz.2.2; have c3_9 := cell_of_row _ _ 9 _ _ _ hSz.2.2; have c3_10 := cell_of_row _ _ 10 _ _ _ hSz.2.2; have c3_11 := cell_of_row _ _ 11 _ _ _ hSz.2.2; simp at c0_0 c0_1 c0_2 c0_3 c0_4 c0_5 c0_6 c0_7 c0_8 c0_9 c0_10 c0_11 c0_12 c0_13 c0_14 c0_15 c0_16 c0_17 c0_18 c0_19 c0_20 c0_21 c0_22 c0_23 c2_0 c2_1 c2_2 c2_3 c2_4 c2_5 c2_6 c2_7 c2_8 c2_9 c2_10 c2_11 c3_0 c3_1 c3_2 c3_3 c3_4 c3_5 c3_6 c3_7 c3_8 c3_9 c3_10 c3_11; go_simp; try with_reducible rfl)⟩) hS0 ?_
      go_simp
      refine wpAnyH_take (i := 3) (v := ?_) rfl (by kernel_rfl) (by kernel_rfl) (by kernel_rfl) (fun _ _ _ h => h) (Or.inl ⟨by kernel_rfl, by (intro wz hSz; go_simp; try with_reducible rfl)⟩) hS0 ?_
      go_simp
      refine wpAnyH_take (i := 4) (v := ?_) rfl (by kernel_rfl) (by kernel_rfl) (by kernel_rfl) (fun _ _ _ h => h) (Or.inl ⟨by kernel_rfl, by (intro wz hSz; go_simp; try with_reducible rfl)⟩) hS0 ?_
      go_simp
      refine wpAnyH_take (i := 5) (v := ?_) rfl (by kernel_rfl) (by kernel_rfl) (by kernel_rfl) (fun _ _ _ h => h) (Or.inl ⟨by kernel_rfl, by (intro wz hSz; have c0_0 := cell_of_row _ _ 0 _ _ _ hSz.1; have c0_1 := cell_of_row _ _ 1 _ _ _ hSz.1; have c0_2 := cell_of_row _ _ 2 _ _ _ hSz.1; have c0_3 := cell_of_row _ _ 3 _ _ _ hSz.1; have c0_4 := cell_of_row _ _ 4 _ _ _ hSz.1; have c0_5 := cell_of_row _ _ 5 _ _ _ hSz.1; have c0_6 := cell_of_row _ _ 6 _ _ _ hSz.1; have c0_7 := cell_of_row _ _ 7 _ _ _ hSz.1; have c0_8 := cell_of_row _ _ 8 _ _ _ hSz.1; have c0_9 := cell_of_row _ _ 9 _ _ _ hSz.1; have c0_10 := cell_of_row _ _ 10 _ _ _ hSz.1; have c0_11 := cell_of_row _ _ 11 _ _ _ hSz.1; have c0_12 := cell_of_row _ _ 12 _ _ _ hSz.1; have c0_13 := cell_of_row _ _ 13 _ _ _ hSz.1; have c0_14 := cell_of_row _ _ 14 _ _ _ hSz.1; have c0_15 := cell_of_row _ _ 15 _ _ _ hSz.1; have c0_16 := cell_of_row _ _ 16 _ _ _ hSz.1; have c0_17 := cell_of_row _ _ 17 _ _ _ hSz.1; have c0_18 := cell_of_row _ _ 18 _ _ _ hSz.1; have c0_19 := cell_of_row _ _ 19 _ _ _ hSz.1; have c0_20 := cell_of_row _ _ 20 _ _ _ hSz.1; have c0_21 := cell_of_row _ _ 21 _ _ _ hSz.1; have c0_22 := cell_of_row _ _ 22 _ _ _ hSz.1; have c0_23 := cell_of_row _ _ 23 _ _ _ hSz.1; have c2_0 := cell_of_row _ _ 0 _ _ _ hSz.2.1; have c2_1 := cell_of_row _ _ 1 _ _ _ hSz.2.1; have c2_2 := cell_of_row _ _ 2 _ _ _ hSz.2.1; have c2_3 := cell_of_row _ _ 3 _ _ _ hSz.2.1; have c2_4 := cell_of_row _ _ 4 _ _ _ hSz.2.1; have c2_5 := cell_of_row _ _ 5 _ _ _ hSz.2.1; have c2_6 := cell_of_row _ _ 6 _ _ _ hSz.2.1; have c2_7 := cell_of_row _ _ 7 _ _ _ hSz.2.1; have c2_8 := cell_of_row _ _ 8 _ _ _ hSz.2.1; have c2_9 := cell_of_row _ _ 9 _ _ _ hSz.2.1; have c2_10 := cell_of_row _ _ 10 _ _ _ hSz.2.1; have c2_11 := cell_of_row _ _ 11 _ _ _ hSz.2.1; have c3_0 := cell_of_row _ _ 0 _ _ _ hSz.2.2; have c3_1 := cell_of_row _ _ 1 _ _ _ hSz.2.2; have c3_2 := cell_of_row _ _ 2 _ _ _ hSz.2.2; have c3_3 := cell_of_row _ _ 3 _ _ _ hSz.2.2; have c3_4 := cell_of_row _ _ 4 _ _ _ hSz.2.2; have c3_5 := cell_of_row _ _ 5 _ _ _ hSz.2.2; have c3_6 := cell_of_row _ _ 6 _ _ _ hSz.2.2; have c3_7 := cell_of_row _ _ 7 _ _ _ hSz.2.2; have c3_8 := cell_of_row _ _ 8 _ _ _ hSz.2.2; have c3_9 := cell_of_row _ _ 9 _ _ _ hSz.2.2; have c3_10 := cell_of_row _ _ 10 _ _ _ hSz.2.2; have c3_11 := cell_of_row _ _ 11 _ _ _ hSz.2.2; simp at c0_0 c0_1 c0_2 c0_3 c0_4 c0_5 c0_6 c0_7 c0_8 c0_9 c0_10 c0_11 c0_12 c0_13 c0_14 c0_15 c0_16 c0_17 c0_18 c0_19 c0_20 c0_21 c0_22 c0_23 c2_0 c2_1 c2_2 c2_3 c2_4 c2_5 c2_6 c2_7 c2_8 c2_9 c2_10 c2_11 c3_0 c3_1 c3_2 c3_3 c3_4 c3_5 c3_6 c3_7 c3_8 c3_9 c3_10 c3_11; go_simp; try with_reducible rfl)⟩) hS0 ?_
      go_simp
      refine wpAnyH_take (i := 6) (v := ?_) rfl (by kernel_rfl) (by kernel_rfl) (by kernel_rfl) (fun _ _ _ h => h) (Or.inl ⟨by kernel_rfl, by (intro wz hSz; go_simp; try with_reducible rfl)⟩) hS0 ?_
      go_simp
      refine wpAnyH_take (i := 7) (v := ?_) rfl (by kernel_rfl) (by kernel_rfl) (by kernel_rfl) (fun _ _ _ h => h) (Or.inl ⟨by kernel_rfl, by (intro wz hSz; go_simp; try with_reducible rfl)⟩) hS0 ?_
      go_simp
      refine wpAnyH_take (i := 8) (v := ?_) rfl (by kernel_rfl) (by kernel_rfl) (by kernel_rfl) (fun _ _ _ h => h) (Or.inl ⟨by kernel_rfl, by (intro wz hSz; have c0_0 := cell_of_row _ _ 0 _ _ _ hSz.1; have c0_1 := cell_of_row _ _ 1 _ _ _ hSz.1; have c0_2 := cell_of_row _ _ 2 _ _ _ hSz.1; have c0_3 := cell_of_row _ _ 3 _ _ _ hSz.1; have c0_4 := cell_of_row _ _ 4 _ _ _ hSz.1; have c0_5 := cell_of_row _ _ 5 _ _ _ hSz.1; have c0_6 := cell_of_row _ _ 6 _ _ _ hSz.1; have c0_7 := cell_of_row _ _ 7 _ _ _ hSz.1; have c0_8 := cell_of_row _ _ 8 _ _ _ hSz.1; have c0_9 := cell_of_row _ _ 9 _ _ _ hSz.1; have c0_10 := cell_of_row _ _ 10 _ _ _ hSz.1; have c0_11 := cell_of_row _ _ 11 _ _ _ hSz.1; have c0_12 := cell_of_row _ _ 12 _ _ _ hSz.1; have c0_13 := cell_of_row _ _ 13 _ _ _ hSz.1; have c0_14 := cell_of_row _ _ 14 _ _ _ hSz.1; have c0_15 := cell_of_row _ _ 15 _ _ _ hSz.1; have c0_16 := cell_of_row _ _ 16 _ _ _ hSz.1; have c0_17 := cell_of_row _ _ 17 _ _ _ hSz.1; have c0_18 := cell_of_row _ _ 18 _ _ _ hSz.1; have c0_19 := cell_of_row _ _ 19 _ _ _ hSz.1; have c0_20 := cell_of_row _ _ 20 _ _ _ hSz.1; have c0_21 := cell_of_row _ _ 21 _ _ _ hSz.1; have c0_22 := cell_of_row _ _ 22 _ _ _ hSz.1; have c0_23 := cell_of_row _ _ 23 _ _ _ hSz.1; have c2_0 := cell_of_row _ _ 0 _ _ _ hSz.2.1; have c2_1 := cell_of_row _ _ 1 _ _ _ hSz.2.1; have c2_2 := cell_of_row _ _ 2 _ _ _ hSz.2.1; have c2_3 := cell_of_row _ _ 3 _ _ _ hSz.2.1; have c2_4 := cell_of_row _ _ 4 _ _ _ hSz.2.1; have c2_5 := cell_of_row _ _ 5 _ _ _ hSz.2.1; have c2_6 := cell_of_row _ _ 6 _ _ _ hSz.2.1; have c2_7 := cell_of_row _ _ 7 _ _ _ hSz.2.1; have c2_8 := cell_of_row _ _ 8 _ _ _ hSz.2.1; have c2_9 := cell_of_row _ _ 9 _ _ _ hSz.2.1; have c2_10 := cell_of_row _ _ 10 _ _ _ hSz.2.1; have c2_11 := cell_of_row _ _ 11 _ _ _ hSz.2.1; have c3_0 := cell_of_row _ _ 0 _ _ _ hSz.2.2; have c3_1 := cell_of_row _ _ 1 _ _ _ hSz.2.2; have c3_2 := cell_of_row _ _ 2 _ _ _ hSz.2.2; have c3_3 := cell_of_row _ _ 3 _ _ _ hSz.2.2; have c3_4 := cell_of_row _ _ 4 _ _ _ hSz.2.2; have c3_5 := cell_of_row _ _ 5 _ _ _ hSz.2.2; have c3_6 := cell_of_row _ _ 6 _ _ _ hSz.2.2; have c3_7 := cell_of_row _ _ 7 _ _ _ hSz.2.2; have c3_8 := cell_of_row _ _ 8 _ _ _ hSz.2.2; have c3_9 := cell_of_row _ _ 9 _ _ _ hSz.2.2; have c3_10 := cell_of_row _ _ 10 _ _ _ hSz.2.2; have c3_11 := cell_of_row _ _ 11 _ _ _ hSz.2.2; simp at c0_0 c0_1 c0_2 c0_3 c0_4 c0_5 c0_6 c0_7 c0_8 c0_9 c0_10 c0_11 c0_12 c0_13 c0_14 c0_15 c0_16 c0_17 c0_18 c0_19 c0_20 c0_21 c0_22 c0_23 c2_0 c2_1 c2_2 c2_3 c2_4 c2_5 c2_6 c2_7 c2_8 c2_9 c2_10 c2_11 c3_0 c3_1 c3_2 c3_3 c3_4 c3_5 c3_6 c3_7 c3_8 c3_9 c3_10 c3_11; go_simp; try with_reducible rfl)⟩) hS0 ?_
      go_simp
      refine wpAnyH_take (i := 9) (v := ?_) rfl (by kernel_rfl) (by kernel_rfl) (by kernel_rfl) (fun _ _ _ h => h) (Or.inl ⟨by kernel_rfl, by (intro wz hSz; go_simp; try with_reducible rfl)⟩) hS0 ?_
      go_simp
      refine wpAnyH_take (i := 10) (v := ?_) rfl (by kernel_rfl) (by kernel_rfl) (by kernel_rfl) (fun _ _ _ h => h) (Or.inl ⟨by kernel_rfl, by (intro wz hSz; go_simp; try with_reducible rfl)⟩) hS0 ?_
      go_simp
      refine wpAnyH_take (i := 11) (v := ?_) rfl (by kernel_rfl) (by kernel_rfl) (by kernel_rfl) (fun _ _ _ h => h) (Or.inl ⟨by kernel_rfl, by (intro wz hSz; have c0_0 := cell_of_row _ _ 0 _ _ _ hSz.1; have c0_1 := cell_of_row _ _ 1 _ _ _ hSz.1; have c0_2 := cell_of_row _ _ 2 _ _ _ hSz.1; have c0_3 := cell_of_row _ _ 3 _ _ _ hSz.1; have c0_4 := cell_of_row _ _ 4 _ _ _ hSz.1; have c0_5 := cell_of_row _ _ 5 _ _ _ hSz.1; have c0_6 := cell_of_row _ _ 6 _ _ _ hSz.1; have c0_7 := cell_of_row _ _ 7 _ _ _ hSz.1; have c0_8 := cell_of_row _ _ 8 _ _ _ hSz.1; have c0_9 := cell_of_row _ _ 9 _ _ _ hSz.1; have c0_10 := cell_of_row _ _ 10 _ _ _ hSz.1; have c0_11 := cell_of_row _ _ 11 _ _ _ hSz.1; have c0_12 := cell_of_row _ _ 12 _ _ _ hSz.1; have c0_13 := cell_of_row _ _ 13 _ _ _ hSz.1; have c0_14 := cell_of_row _ _ 14 _ _ _ hSz.1; have c0_15 := cell_of_row _ _ 15 _ _ _ hSz.1; have c0_16 := cell_of_row _ _ 16 _ _ _ hSz.1; have c0_17 := cell_of_row _ _ 17 _ _ _ hSz.1; have c0_18 := cell_of_row _ _ 18 _ _ _ hSz.1; have c0_19 := cell_of_row _ _ 19 _ _ _ hSz.1; have c0_20 := cell_of_row _ _ 20 _ _ _ hSz.1; have c0_21 := cell_of_row _ _ 21 _ _ _ hSz.1; have c0_22 := cell_of_row _ _ 22 _ _ _ hSz.1; have c0_23 := cell_of_row _ _ 23 _ _ _ hSz.1; have c2_0 := cell_of_row _ _ 0 _ _ _ hSz.2.1; have c2_1 := cell_of_row _ _ 1 _ _ _ hSz.2.1; have c2_2 := cell_of_row _ _ 2 _ _ _ hSz.2.1; have c2_3 := cell_of_row _ _ 3 _ _ _ hSz.2.1; have c2_4 := cell_of_row _ _ 4 _ _ _ hSz.2.1; have c2_5 := cell_of_row _ _ 5 _ _ _ hSz.2.1; have c2_6 := cell_of_row _ _ 6 _ _ _ hSz.2.1; have c2_7 := cell_of_row _ _ 7 _ _ _ hSz.2.1; have c2_8 := cell_of_row _ _ 8 _ _ _ hSz.2.1; have c2_9 := cell_of_row _ _ 9 _ _ _ hSz.2.1; have c2_10 := cell_of_row _ _ 10 _ _ _ hSz.2.1; have c2_11 := cell_of_row _ _ 11 _ _ _ hSz.2.1; have c3_0 := cell_of_row _ _ 0 _ _ _ hSz.2.2; have c3_1 := cell_of_row _ _ 1 _ _ _ hSz.2.2; have c3_2 := cell_of_row _ _ 2 _ _ _ hSz.2.2; have c3_3 := cell_of_row _ _ 3 _ _ _ hSz.2.2; have c3_4 := cell_of_row _ _ 4 _ _ _ hSz.2.2; have c3_5 := cell_of_row _ _ 5 _ _ _ hSz.2.2; have c3_6 := cell_of_row _ _ 6 _ _ _ hSz.2.2; have c3_7 := cell_of_row _ _ 7 _ _ _ hSz.2.2; have c3_8 := cell_of_row _ _ 8 _ _ _ hSz.2.2; have c3_9 := cell_of_row _ _ 9 _ _ _ hSz.2.2; have c3_10 := cell_of_row _ _ 10 _ _ _ hSz.2.2; have c3_11 := cell_of_row _ _ 11 _ _ _ hSz.2.2; simp at c0_0 c0_1 c0_2 c0_3 c0_4 c0_5 c0_6 c0_7 c0_8 c0_9 c0_10 c0_11 c0_12 c0_13 c0_14 c0_15 c0_16 c0_17 c0_18 c0_19 c0_20 c0_21 c0_22 c0_23 c2_0 c2_1 c2_2 c2_3 c2_4 c2_5 c2_6 c2_7 c2_8 c2_9 c2_10 c2_11 c3_0 c3_1 c3_2 c3_3 c3_4 c3_5 c3_6 c3_7 c3_8 c3_9 c3_10 c3_11; go_simp; try with_reducible rfl)⟩) hS0 ?_
      go_simp
      refine wpAnyH_take (i := 12) (v := ?_) rfl (by kernel_rfl) (by kernel_rfl) (by kernel_rfl) (fun _ _ _ h => h) (Or.inl ⟨by kernel_rfl, by (intro wz hSz; go_simp; try with_reducible rfl)⟩) hS0 ?_
      go_simp
      refine wpAnyH_take (i := 13) (v := ?_) rfl (by kernel_rfl) (by kernel_rfl) (by kernel_rfl) (fun _ _ _ h => h) (Or.inl ⟨by kernel_rfl, by (intro wz hSz; have c0_0 := cell_of_row _ _ 0 _ _ _ hSz.1; have c0_1 := cell_of_row _ _ 1 _ _ _ hSz.1; have c0_2 := cell_of_row _ _ 2 _ _ _ hSz.1; have c0_3 := cell_of_row _ _ 3 _ _ _ hSz.1; have c0_4 := cell_of_row _ _ 4 _ _ _ hSz.1; have c0_5 := cell_of_row _ _ 5 _ _ _ hSz.1; have c0_6 := cell_of_row _ _ 6 _ _ _ hSz.1; have c0_7 := cell_of_row _ _ 7 _ _ _ hSz.1; have c0_8 := cell_of_row _ _ 8 _ _ _ hSz.1; have c0_9 := cell_of_row _ _ 9 _ _ _ hSz.1; have c0_10 := cell_of_row _ _ 10 _ _ _ hSz.1; have c0_11 := cell_of_row _ _ 11 _ _ _ hSz.1; have c0_12 := cell_of_row _ _ 12 _ _ _ hSz.1; have c0_13 := cell_of_row _ _ 13 _ _ _ hSz.1; have c0_14 := cell_of_row _ _ 14 _ _ _ hSz.1; have c0_15 := cell_of_row _ _ 15 _ _ _ hSz.1; have c0_16 := cell_of_row _ _ 16 _ _ _ hSz.1; have c0_17 := cell_of_row _ _ 17 _ _ _ hSz.1; have c0_18 := cell_of_row _ _ 18 _ _ _ hSz.1; have c0_19 := cell_of_row _ _ 19 _ _ _ hSz.1; have c0_20 := cell_of_row _ _ 20 _ _ _ hSz.1; have c0_21 := cell_of_row _ _ 21 _ _ _ hSz.1; have c0_22 := cell_of_row _ _ 22 _ _ _ hSz.1; have c0_23 := cell_of_row _ _ 23 _ _ _ hSz.1; have c2_0 := cell_of_row _ _ 0 _ _ _ hSz.2.1; have c2_1 := cell_of_row _ _ 1 _ _ _ hSz.2.1; have c2_2 := cell_of_row _ _ 2 _ _ _ hSz.2.1; have c2_3 := cell_of_row _ _ 3 _ _ _ hSz.2.1; have c2_4 := cell_of_row _ _ 4 _ _ _ hSz.2.1; have c2_5 := cell_of_row _ _ 5 _ _ _ hSz.2.1; have c2_6 := cell_of_row _ _ 6 _ _ _ hSz.2.1; have c2_7 := cell_of_row _ _ 7 _ _ _ hSz.2.1; have c2_8 := cell_of_row _ _ 8 _ _ _ hSz.2.1; have c2_9 := cell_of_row _ _ 9 _ _ _ hSz.2.1; have c2_10 := cell_of_row _ _ 10 _ _ _ hSz.2.1; have c2_11 := cell_of_row _ _ 11 _ _ _ hSz.2.1; have c3_0 := cell_of_row _ _ 0 _ _ _ hSz.2.2; have c3_1 := cell_of_row _ _ 1 _ _ _ hSz.2.2; have c3_2 := cell_of_row _ _ 2 _ _ _ hSz.2.2; have c3_3 := cell_of_row _ _ 3 _ _ _ hSz.2.2; have c3_4 := cell_of_row _ _ 4 _ _ _ hSz.2.2; have c3_5 := cell_of_row _ _ 5 _ _ _ hSz.2.2; have c3_6 := cell_of_row _ _ 6 _ _ _ hSz.2.2; have c3_7 := cell_of_row _ _ 7 _ _ _ hSz.2.2; have c3_8 := cell_of_row _ _ 8 _ _ _ hSz.2.2; have c3_9 := cell_of_row _ _ 9 _ _ _ hSz.2.2; have c3_10 := cell_of_row _ _ 10 _ _ _ hSz.2.2; have c3_11 := cell_of_row _ _ 11 _ _ _ hSz.2.2; simp at c0_0 c0_1 c0_2 c0_3 c0_4 c0_5 c0_6 c0_7 c0_8 c0_9 c0_10 c0_11 c0_12 c0_13 c0_14 c0_15 c0_16 c0_17 c0_18 c0_19 c0_20 c0_21 c0_22 c0_23 c2_0 c2_1 c2_2 c2_3 c2_4 c2_5 c2_6 c2_7 c2_8 c2_9 c2_10 c2_11 c3_0 c3_1 c3_2 c3_3 c3_4 c3_5 c3_6 c3_7 c3_8 c3_9 c3_10 c3_11; go_simp; try with_reducible rfl)⟩) hS0 ?_
      go_simp
      refine wpAnyH_take (i := 16) (v := ?_) rfl (by kernel_rfl) (by kernel_rfl) (by kernel_rfl) (fun _ _ _ h => h) (Or.inl ⟨by kernel_rfl, by (intro wz hSz; have c0_0 := cell_of_row _ _ 0 _ _ _ hSz.1; have c0_1 := cell_of_row _ _ 1 _ _ _ hSz.1; have c0_2 := cell_of_row _ _ 2 _ _ _ hSz.1; have c0_3 := cell_of_row _ _ 3 _ _ _ hSz.1; have c0_4 := cell_of_row _ _ 4 _ _ _ hSz.1; have c0_5 := cell_of_row _ _ 5 _ _ _ hSz.1; have c0_6 := cell_of_row _ _ 6 _ _ _ hSz.1; have c0_7 := cell_of_row _ _ 7 _ _ _ hSz.1; have c0_8 := cell_of_row _ _ 8 _ _ _ hSz.1; have c0_9 := cell_of_row _ _ 9 _ _ _ hSz.1; have c0_10 := cell_of_row _ _ 10 _ _ _ hSz.1; have c0_11 := cell_of_row _ _ 11 _ _ _ hSz.1; have c0_12 := cell_of_row _ _ 12 _ _ _ hSz.1; have c0_13 := cell_of_row _ _ 13 _ _ _ hSz.1; have c0_14 := cell_of_row _ _ 14 _ _ _ hSz.1; have c0_15 := cell_of_row _ _ 15 _ _ _ hSz.1; have c0_16 := cell_of_row _ _ 16 _ _ _ hSz.1; have c0_17 := cell_of_row _ _ 17 _ _ _ hSz.1; have c0_18 := cell_of_row _ _ 18 _ _ _ hSz.1; have c0_19 := cell_of_row _ _ 19 _ _ _ hSz.1; have c0_20 := cell_of_row _ _ 20 _ _ _ hSz.1; have c0_21 := cell_of_row _ _ 21 _ _ _ hSz.1; have c0_22 := cell_of_row _ _ 22 _ _ _ hSz.1; have c0_23 := cell_of_row _ _ 23 _ _ _ hSz.1; have c2_0 := cell_of_row _ _ 0 _ _ _ hSz.2.1; have c2_1 := cell_of_row _ _ 1 _ _ _ hSz.2.1; have c2_2 := cell_of_row _ _ 2 _ _ _ hSz.2.1; have c2_3 := cell_of_row _ _ 3 _ _ _ hSz.2.1; have c2_4 := cell_of_row _ _ 4 _ _ _ hSz.2.1; have c2_5 := cell_of_row _ _ 5 _ _ _ hSz.2.1; have c2_6 := cell_of_row _ _ 6 _ _ _ hSz.2.1; have c2_7 := cell_of_row _ _ 7 _ _ _ hSz.2.1; have c2_8 := cell_of_row _ _ 8 _ _ _ hSz.2.1; have c2_9 := cell_of_row _ _ 9 _ _ _ hSz.2.1; have c2_10 := cell_of_row _ _ 10 _ _ _ hSz.2.1; have c2_11 := cell_of_row _ _ 11 _ _ _ hSz.2.1; have c3_0 := cell_of_row _ _ 0 _ _ _ hSz.2.2; have c3_1 := cell_of_row _ _ 1 _ _ _ hSz.2.2; have c3_2 := cell_of_row _ _ 2 _ _ _ hSz.2.2; have c3_3 := cell_of_row _ _ 3 _ _ _ hSz.2.2; have c3_4 := cell_of_row _ _ 4 _ _ _ hSz.2.2; have c3_5 := cell_of_row _ _ 5 _ _ _ hSz.2.2; have c3_6 := cell_of_row _ _ 6 _ _ _ hSz.2.2; have c3_7 := cell_of_row _ _ 7 _ _ _ hSz.2.2; have c3_8 := cell_of_row _ _ 8 _ _ _ hSz.2.2; have c3_9 := cell_of_row _ _ 9 _ _ _ hSz.2.2; have c3_10 := cell_of_row _ _ 10 _ _ _ hSz.2.2; have c3_11 := cell_of_row _ _ 11 _ _ _ hSz.2.2; simp at c0_0 c0_1 c0_2 c0_3 c0_4 c0_5 c0_6 c0_7 c0_8 c0_9 c0_10 c0_11 c0_12 c0_13 c0_14 c0_15 c0_16 c0_17 c0_18 c0_19 c0_20 c0_21 c0_22 c0_23 c2_0 c2_1 c2_2 c2_3 c2_4 c2_5 c2_6 c2_7 c2_8 c2_9 c2_10 c2_11 c3_0 c3_1 c3_2 c3_3 c3_4 c3_5 c3_6 c3_7 c3_8 c3_9 c3_10 c3_11; go_simp; try with_reducible rfl)⟩) hS0 ?_
      go_simp
      refine wpAnyH_ready (rs := [14]) (by kernel_rfl) (by simp) ?_
      refine AllReadyH.cons rfl (fun K hK => ?_) AllReadyH.nil
      go_simp
      go_wp2_with (go_at_call 70; refine (reach_any _ _ _ _ _ _ _ _ _ _ _ _ _ ).mono ?_; rintro e y7 ⟨rfl, hb7⟩)
      have hr7_0 := (hb7.block _ (lt_heap hr6_0)).trans hr6_0
      have hr7_1 := (hb7.block _ (lt_heap hr6_1)).trans hr6_1
      have hr7_2 := (hb7.block _ (lt_heap hr6_2)).trans hr6_2
      have hr7_3 := (hb7.block _ (lt_heap hr6_3)).trans hr6_3
      have HU7 := Lib.hid (HU6.out.trans (hb7.mono HU6.out.size))
      refine hK.out _ _ (⟨(hb7.block _ (lt_heap hS0.1)).trans hS0.1, (hb7.block _ (lt_heap hS0.2.1)).trans hS0.2.1, (hb7.block _ (lt_heap hS0.2.2)).trans hS0.2.2⟩) (fun hS7c => ?_)
      clear hK K
      refine wpAnyH_ready (rs := [15]) (by kernel_rfl) (by simp) ?_
      refine AllReadyH.cons rfl (fun K hK => ?_) AllReadyH.nil
      go_simp
      go_wp2_with (go_at_call 69; refine (alike_any _ _).mono ?_; rintro e y8 ⟨rfl, hb8⟩)
      have hr8_0 := (hb8.block _ (lt_heap hr7_0)).trans hr7_0
      have hr8_1 := (hb8.block _ (lt_heap hr7_1)).trans hr7_1
      have hr8_2 := (hb8.block _ (lt_heap hr7_2)).trans hr7_2
      have hr8_3 := (hb8.block _ (lt_heap hr7_3)).trans hr7_3
      have HU8 := Lib.hid (HU7.out.trans (hb8.mono HU7.out.size))
      refine hK.out _ _ (⟨(hb8.block _ (lt_heap hS7c.1)).trans hS7c.1, (hb8.block _ (lt_heap hS7c.2.1)).trans hS7c.2.1, (hb8.block _ (lt_heap hS7c.2.2)).trans hS7c.2.2⟩) (fun hS8c => ?_)
      clear hK K
      refine wpAnyH_ready (rs := [17]) (by kernel_rfl) (by simp) ?_
      refine AllReadyH.cons rfl (fun K hK => ?_) AllReadyH.nil
      go_simp
      go_wp2_with (go_at_call 70; refine (reach_any _ _ _ _ _ _ _ _ _ _ _ _ _ ).mono ?_; rintro e y9 ⟨rfl, hb9⟩)
      have hr9_0 := (hb9.block _ (lt_heap hr8_0)).trans hr8_0
      have hr9_1 := (hb9.block _ (lt_heap hr8_1)).trans hr8_1
      have hr9_2 := (hb9.block _ (lt_heap hr8_2)).trans hr8_2
      have hr9_3 := (hb9.block _ (lt_heap hr8_3)).trans hr8_3
      have HU9 := Lib.hid (HU8.out.trans (hb9.mono HU8.out.size))
      refine hK.out _ _ (⟨(hb9.block _ (lt_heap hS8c.1)).trans hS8c.1, (hb9.block _ (lt_heap hS8c.2.1)).trans hS8c.2.1, (hb9.block _ (lt_heap hS8c.2.2)).trans hS8c.2.2⟩) (fun hS9c => ?_)
      clear hK K
      refine wpAnyH_ready (rs := [18]) (by kernel_rfl) (by simp) ?_
      refine AllReadyH.cons rfl (fun K hK => ?_) AllReadyH.nil
      go_simp
      go_wp2_with (go_at_call 69; refine (alike_any _ _).mono ?_; rintro e y10 ⟨rfl, hb10⟩)
      have hr10_0 := (hb10.block _ (lt_heap hr9_0)).trans hr9_0
      have hr10_1 := (hb10.block _ (lt_heap hr9_1)).trans hr9_1
      have hr10_2 := (hb10.block _ (lt_heap hr9_2)).trans hr9_2
      have hr10_3 := (hb10.block _ (lt_heap hr9_3)).trans hr9_3
      have HU10 := Lib.hid (HU9.out.trans (hb10.mono HU9.out.size))
      refine hK.out _ _ (⟨(hb10.block _ (lt_heap hS9c.1)).trans hS9c.1, (hb10.block _ (lt_heap hS9c.2.1)).trans hS9c.2.1, (hb10.block _ (lt_heap hS9c.2.2)).trans hS9c.2.2⟩) (fun hS10c => ?_)
      clear hK K
      refine wpAnyH_ready (rs := [19]) (by kernel_rfl) (by simp) ?_
      refine AllReadyH.cons rfl (fun K hK => ?_) AllReadyH.nil
      go_simp
      have hb11 := below_n1 y10 (.cells #[.int .i64 (Pl.sub (min a2 (min a5 a8)) 8192), .int .i64 (Pl.sub (min a3 (min a6 a9)) 8192), .int .i64 (Pl.sub (min a4 (min a7 a10)) 8192), .int .i64 (Pl.add (max a2 (max a5 a8)) 8192), .int .i64 (Pl.add (max a3 (max a6 a9)) 8192), .int .i64 (Pl.add (max a4 (max a7 a10)) 8192), .int .i64 (Pl.sub (min a14 (min a17 a20)) 8192), .int .i64 (Pl.sub (min a15 (min a18 a21)) 8192), .int .i64 (Pl.sub (min a16 (min a19 a22)) 8192), .int .i64 (Pl.add (max a14 (max a17 a20)) 8192), .int .i64 (Pl.add (max a15 (max a18 a21)) 8192), .int .i64 (Pl.add (max a16 (max a19 a22)) 8192), .int .i64 (Pl.add a11 8192), .int .i64 (Pl.add a11 8192), .int .i64 (Pl.add a11 8192), .int .i64 (Pl.add a23 8192), .int .i64 (Pl.add a23 8192), .int .i64 (Pl.add a23 8192)] 71)
      have hN := heap_alloc_last y10 (.cells #[.int .i64 (Pl.sub (min a2 (min a5 a8)) 8192), .int .i64 (Pl.sub (min a3 (min a6 a9)) 8192), .int .i64 (Pl.sub (min a4 (min a7 a10)) 8192), .int .i64 (Pl.add (max a2 (max a5 a8)) 8192), .int .i64 (Pl.add (max a3 (max a6 a9)) 8192), .int .i64 (Pl.add (max a4 (max a7 a10)) 8192), .int .i64 (Pl.sub (min a14 (min a17 a20)) 8192), .int .i64 (Pl.sub (min a15 (min a18 a21)) 8192), .int .i64 (Pl.sub (min a16 (min a19 a22)) 8192), .int .i64 (Pl.add (max a14 (max a17 a20)) 8192), .int .i64 (Pl.add (max a15 (max a18 a21)) 8192), .int .i64 (Pl.add (max a16 (max a19 a22)) 8192), .int .i64 (Pl.add a11 8192), .int .i64 (Pl.add a11 8192), .int .i64 (Pl.add a11 8192), .int .i64 (Pl.add a23 8192), .int .i64 (Pl.add a23 8192), .int .i64 (Pl.add a23 8192)] 71)
      obtain ⟨y11, hy11⟩ : ∃ y, y10.alloc (.cells #[.int .i64 (Pl.sub (min a2 (min a5 a8)) 8192), .int .i64 (Pl.sub (min a3 (min a6 a9)) 8192), .int .i64 (Pl.sub (min a4 (min a7 a10)) 8192), .int .i64 (Pl.add (max a2 (max a5 a8)) 8192), .int .i64 (Pl.add (max a3 (max a6 a9)) 8192), .int .i64 (Pl.add (max a4 (max a7 a10)) 8192), .int .i64 (Pl.sub (min a14 (min a17 a20)) 8192), .int .i64 (Pl.sub (min a15 (min a18 a21)) 8192), .int .i64 (Pl.sub (min a16 (min a19 a22)) 8192), .int .i64 (Pl.add (max a14 (max a17 a20)) 8192), .int .i64 (Pl.add (max a15 (max a18 a21)) 8192), .int .i64 (Pl.add (max a16 (max a19 a22)) 8192), .int .i64 (Pl.add a11 8192), .int .i64 (Pl.add a11 8192), .int .i64 (Pl.add a11 8192), .int .i64 (Pl.add a23 8192), .int .i64 (Pl.add a23 8192), .int .i64 (Pl.add a23 8192)] 71) = y := ⟨_, rfl⟩
      rw [hy11] at hb11 hN ⊢
      clear hy11
      have hl11_0 := lt_heap hr10_0
      have hr11_0 := (hb11.block _ (lt_heap hr10_0)).trans hr10_0
      have hl11_1 := lt_heap hr10_1
      have hr11_1 := (hb11.block _ (lt_heap hr10_1)).trans hr10_1
      have hl11_2 := lt_heap hr10_2
      have hr11_2 := (hb11.block _ (lt_heap hr10_2)).trans hr10_2
      have hl11_3 := lt_heap hr10_3
      have hr11_3 := (hb11.block _ (lt_heap hr10_3)).trans hr10_3
      have hr11_4 := hN
      clear hN
      have HU11 := Lib.hid (HU10.out.trans (hb11.mono HU10.out.size))
      refine hK.out _ _ (⟨(hb11.block _ (lt_heap hS10c.1)).trans hS10c.1, (hb11.block _ (lt_heap hS10c.2.1)).trans hS10c.2.1, (hb11.block _ (lt_heap hS10c.2.2)).trans hS10c.2.2⟩) (fun hS11a => ?_)
      clear hK K
      refine wpAnyH_ready (rs := [20]) (by kernel_rfl) (by simp) ?_
      refine AllReadyH.cons rfl (fun K hK => ?_) AllReadyH.nil
      go_simp
      go_wp2_with (go_at_call 68; refine (atend_row (y10.heap.size) 6 _ (l18 (Pl.sub (min a2 (min a5 a8)) 8192) (Pl.sub (min a3 (min a6 a9)) 8192) (Pl.sub (min a4 (min a7 a10)) 8192) (Pl.add (max a2 (max a5 a8)) 8192) (Pl.add (max a3 (max a6 a9)) 8192) (Pl.add (max a4 (max a7 a10)) 8192) (Pl.sub (min a14 (min a17 a20)) 8192) (Pl.sub (min a15 (min a18 a21)) 8192) (Pl.sub (min a16 (min a19 a22)) 8192) (Pl.add (max a14 (max a17 a20)) 8192) (Pl.add (max a15 (max a18 a21)) 8192) (Pl.add (max a16 (max a19 a22)) 8192) (Pl.add a11 8192) (Pl.add a23 8192)) (by omega) _ (lt_heap hr11_4) (fun j hj => by rcases (show j = 0 ∨ j = 1 ∨ j = 2 ∨ j = 3 ∨ j = 4 ∨ j = 5 ∨ j = 6 ∨ j = 7 ∨ j = 8 ∨ j = 9 ∨ j = 10 ∨ j = 11 ∨ j = 12 ∨ j = 13 ∨ j = 14 ∨ j = 15 ∨ j = 16 ∨ j = 17 by omega) with rfl | rfl | rfl | rfl | rfl | rfl | rfl | rfl | rfl | rfl | rfl | rfl | rfl | rfl | rfl | rfl | rfl | rfl <;> exact cell_of_row _ _ _ _ _ _ hr11_4)).mono ?_; rintro e y12 ⟨rfl, hb12⟩; rw [hv])
      have hr12_0 := (hb12.block _ (lt_heap hr11_0)).trans hr11_0
      have hr12_1 := (hb12.block _ (lt_heap hr11_1)).trans hr11_1
      have hr12_2 := (hb12.block _ (lt_heap hr11_2)).trans hr11_2
      have hr12_3 := (hb12.block _ (lt_heap hr11_3)).trans hr11_3
      have hr12_4 := (hb12.block _ (lt_heap hr11_4)).trans hr11_4
      have HU12 := Lib.hid (HU11.out.trans (hb12.mono HU11.out.size))
      refine hK.out _ _ (⟨(hb12.block _ (lt_heap hS11a.1)).trans hS11a.1, (hb12.block _ (lt_heap hS11a.2.1)).trans hS11a.2.1, (hb12.block _ (lt_heap hS11a.2.2)).trans hS11a.2.2⟩) (fun hS12c => ?_)
      clear hK K
      refine wpAnyH_done (by kernel_rfl) ?_ _
      go_wp2_with fail
      refine (ball_any _).mono ?_
      rintro e y13 ⟨rfl, hb13⟩
      have hr13_0 := (hb13.block _ (lt_heap hr12_0)).trans hr12_0
      have hr13_1 := (hb13.block _ (lt_heap hr12_1)).trans hr12_1
      have hr13_2 := (hb13.block _ (lt_heap hr12_2)).trans hr12_2
      have hr13_3 := (hb13.block _ (lt_heap hr12_3)).trans hr12_3
      have hr13_4 := (hb13.block _ (lt_heap hr12_4)).trans hr12_4
      have HU13 := Lib.hid (HU12.out.trans (hb13.mono HU12.out.size))
      clear hr12_0 hr12_1 hr12_2 hr12_3 hr12_4 HU12
      go_wp2_with fail
      refine (ball_any _).mono ?_
      rintro e y14 ⟨rfl, hb14⟩
      have hr14_0 := (hb14.block _ (lt_heap hr13_0)).trans hr13_0
      have hr14_1 := (hb14.block _ (lt_heap hr13_1)).trans hr13_1
      have hr14_2 := (hb14.block _ (lt_heap hr13_2)).trans hr13_2
      have hr14_3 := (hb14.block _ (lt_heap hr13_3)).trans hr13_3
      have hr14_4 := (hb14.block _ (lt_heap hr13_4)).trans hr13_4
      have HU14 := Lib.hid (HU13.out.trans (hb14.mono HU13.out.size))
      clear hr13_0 hr13_1 hr13_2 hr13_3 hr13_4 HU13
      have hHr := Lib.hid hr14_1
      have hHi := Lib.hid (show (Try.prog.info? 75).map (·.size) = some (#[.int .i64 (-2147483648), .int .i64 (-2147483648), .int .i64 (-2147483648), .int .i64 2147483648, .int .i64 2147483648, .int .i64 2147483648, .int .i64 (-2147483648), .int .i64 (-2147483648), .int .i64 (-2147483648), .int .i64 2147483648, .int .i64 2147483648, .int .i64 2147483648] : Array Value).size by kernel_rfl)
      have hHz := Lib.hid (show (#[.int .i64 0, .int .i64 0, .int .i64 0, .int .i64 0, .int .i64 0, .int .i64 0, .int .i64 0, .int .i64 0, .int .i64 0, .int .i64 0, .int .i64 0, .int .i64 0] : Array Value).size = (#[.int .i64 (-2147483648), .int .i64 (-2147483648), .int .i64 (-2147483648), .int .i64 2147483648, .int .i64 2147483648, .int .i64 2147483648, .int .i64 (-2147483648), .int .i64 (-2147483648), .int .i64 (-2147483648), .int .i64 2147483648, .int .i64 2147483648, .int .i64 2147483648] : Array Value).size from rfl)
      have hHo := Lib.hid (show (#[.int .i64 (-2147483648), .int .i64 (-2147483648), .int .i64 (-2147483648), .int .i64 2147483648, .int .i64 2147483648, .int .i64 2147483648, .int .i64 (-2147483648), .int .i64 (-2147483648), .int .i64 (-2147483648), .int .i64 2147483648, .int .i64 2147483648, .int .i64 2147483648] : Array Value).all (·.oneCell') = true by simp [Value.oneCell'])
      go_wp2_with (first | (refine Au.wpList_store_row rfl 75 (.tmp 2) (.tmp 40) rfl y14 #[.int .i64 0, .int .i64 0, .int .i64 0, .int .i64 0, .int .i64 0, .int .i64 0, .int .i64 0, .int .i64 0, .int .i64 0, .int .i64 0, .int .i64 0, .int .i64 0] #[.int .i64 (-2147483648), .int .i64 (-2147483648), .int .i64 (-2147483648), .int .i64 2147483648, .int .i64 2147483648, .int .i64 2147483648, .int .i64 (-2147483648), .int .i64 (-2147483648), .int .i64 (-2147483648), .int .i64 2147483648, .int .i64 2147483648, .int .i64 2147483648] (w.heap.size + 1) 75 hHr.out rfl rfl hHi.out hHz.out hHo.out ?_))
      clear hHr hHi hHz hHo
      have hN := setRow_heap _ (w.heap.size + 1) _ #[.int .i64 (-2147483648), .int .i64 (-2147483648), .int .i64 (-2147483648), .int .i64 2147483648, .int .i64 2147483648, .int .i64 2147483648, .int .i64 (-2147483648), .int .i64 (-2147483648), .int .i64 (-2147483648), .int .i64 2147483648, .int .i64 2147483648, .int .i64 2147483648] _ _ hr14_1
      have hsz := HU14.out.size
      have HUx := below_setRow (g := w.heap.size + 1) HU14.out (by first | omega | (simp at *; omega)) #[.int .i64 (-2147483648), .int .i64 (-2147483648), .int .i64 (-2147483648), .int .i64 2147483648, .int .i64 2147483648, .int .i64 2147483648, .int .i64 (-2147483648), .int .i64 (-2147483648), .int .i64 (-2147483648), .int .i64 2147483648, .int .i64 2147483648, .int .i64 2147483648]
      have hO : ∀ kk, kk ≠ w.heap.size + 1 → (y14.setRow (w.heap.size + 1) #[.int .i64 (-2147483648), .int .i64 (-2147483648), .int .i64 (-2147483648), .int .i64 2147483648, .int .i64 2147483648, .int .i64 2147483648, .int .i64 (-2147483648), .int .i64 (-2147483648), .int .i64 (-2147483648), .int .i64 2147483648, .int .i64 2147483648, .int .i64 2147483648]).heap[kk]? = y14.heap[kk]? := fun kk hk => setRow_other _ _ _ _ hk
      obtain ⟨y15, hy15⟩ : ∃ y, y14.setRow (w.heap.size + 1) #[.int .i64 (-2147483648), .int .i64 (-2147483648), .int .i64 (-2147483648), .int .i64 2147483648, .int .i64 2147483648, .int .i64 2147483648, .int .i64 (-2147483648), .int .i64 (-2147483648), .int .i64 (-2147483648), .int .i64 2147483648, .int .i64 2147483648, .int .i64 2147483648] = y := ⟨_, rfl⟩
      rw [hy15] at hN HUx hO ⊢
      clear hy15 hsz
      have HU15 := Lib.hid HUx
      clear HUx
      have hr15_0 := (hO _ (by omega)).trans hr14_0
      have hr15_1 := hN
      have hr15_2 := (hO _ (by omega)).trans hr14_2
      have hr15_3 := (hO _ (by omega)).trans hr14_3
      have hr15_4 := (hO _ (by omega)).trans hr14_4
      clear hN hO
      clear hr14_0 hr14_1 hr14_2 hr14_3 hr14_4 HU14
      go_wp2
      all_goals exact bodyPost_ret (v := .agg #[.int .i64 (-2147483648), .int .i64 (-2147483648), .int .i64 (-2147483648), .int .i64 2147483648, .int .i64 2147483648, .int .i64 2147483648, .int .i64 (-2147483648), .int .i64 (-2147483648), .int .i64 (-2147483648), .int .i64 2147483648, .int .i64 2147483648, .int .i64 2147483648]) (results_row (t := 75) Try.results24 rfl hr15_1 Try.underlying75 rfl (by kernel_rfl)) rfl ⟨by first | rfl | rw [if_pos rfl] | simp, HU15.out⟩

end Go.Proofs.Ythlcfhnlkpobhaa.Bx
