/- Rays: Test is the first of some places that shows, and what is there; the example. -/
import Derived.Test.YthlcfhnlkpobhaaYe
namespace Go.Proofs.Ythlcfhnlkpobhaa.Yr
open Go.RowKit Go.Proofs.Ythlcfhnlkpobhaa Go.Proofs.Ythlcfhnlkpobhaa.Wa Go.Proofs.Ythlcfhnlkpobhaa.Ve Go.Proofs.Ythlcfhnlkpobhaa.Au Go.Proofs.Ythlcfhnlkpobhaa.Bx
set_option linter.unusedVariables false
set_option linter.unusedSimpArgs false

set_option maxHeartbeats 8000000 in
set_option maxRecDepth 100000 in
theorem test_ball (fx fy fz dx dy dz pt a1 a2 a3 a4 a5 a6 a7 a8 a9 a10 a11 a12 a13 a14 a15 a16 a17 a18 a19 a20 a21 a22 a23 near far p0 p1 p2 p3 p4 p5 p6 p7 p8 rad h0 h1 h2 h3 h4 h5 h6 h7 : Int) (v : Bool) (ep0 : Pl.lerp a2 a14 pt = p0) (ep1 : Pl.lerp a3 a15 pt = p1) (ep2 : Pl.lerp a4 a16 pt = p2) (ep3 : Pl.lerp a5 a17 pt = p3) (ep4 : Pl.lerp a6 a18 pt = p4) (ep5 : Pl.lerp a7 a19 pt = p5) (ep6 : Pl.lerp a8 a20 pt = p6) (ep7 : Pl.lerp a9 a21 pt = p7) (ep8 : Pl.lerp a10 a22 pt = p8) (erad : Pl.lerp a11 a23 pt = rad) (hB : ∀ w : World, Calls Try.prog 92 #[.agg #[.int .i64 fx, .int .i64 fy, .int .i64 fz, .int .i64 dx, .int .i64 dy, .int .i64 dz, .int .i64 pt], .agg #[.int .i64 near, .int .i64 far, .int .i64 0, .int .i64 a1, .int .i64 p0, .int .i64 p1, .int .i64 p2, .int .i64 p3, .int .i64 p4, .int .i64 p5, .int .i64 p6, .int .i64 p7, .int .i64 p8, .int .i64 rad]] w fun e' w' => e' = .returned (.tuple #[.agg #[.int .i64 h0, .int .i64 h1, .int .i64 h2, .int .i64 h3, .int .i64 h4, .int .i64 h5, .int .i64 h6, .int .i64 h7], .bool v]) ∧ Below w.heap.size w w') (w : World)  : Calls Try.prog 41 #[.agg #[.int .i64 fx, .int .i64 fy, .int .i64 fz, .int .i64 dx, .int .i64 dy, .int .i64 dz, .int .i64 pt], .agg #[.int .i64 0, .int .i64 a1, .int .i64 a2, .int .i64 a3, .int .i64 a4, .int .i64 a5, .int .i64 a6, .int .i64 a7, .int .i64 a8, .int .i64 a9, .int .i64 a10, .int .i64 a11, .int .i64 a12, .int .i64 a13, .int .i64 a14, .int .i64 a15, .int .i64 a16, .int .i64 a17, .int .i64 a18, .int .i64 a19, .int .i64 a20, .int .i64 a21, .int .i64 a22, .int .i64 a23], .int .i64 near, .int .i64 far] w fun e' w' => e' = .returned (.tuple #[.agg #[.int .i64 h0, .int .i64 h1, .int .i64 h2, .int .i64 h3, .int .i64 h4, .int .i64 h5, .int .i64 h6, .int .i64 h7], .bool v]) ∧ Below w.heap.size w w' := by
  go_enter Try.func41, Try.ntmps41
  go_upto_region 1 with fail
  have hR := Au.rows3 w (.cells #[.int .i64 fx, .int .i64 fy, .int .i64 fz, .int .i64 dx, .int .i64 dy, .int .i64 dz, .int .i64 pt] 101) (.cells #[.int .i64 0, .int .i64 a1, .int .i64 a2, .int .i64 a3, .int .i64 a4, .int .i64 a5, .int .i64 a6, .int .i64 a7, .int .i64 a8, .int .i64 a9, .int .i64 a10, .int .i64 a11, .int .i64 a12, .int .i64 a13, .int .i64 a14, .int .i64 a15, .int .i64 a16, .int .i64 a17, .int .i64 a18, .int .i64 a19, .int .i64 a20, .int .i64 a21, .int .i64 a22, .int .i64 a23] 91) (.cells #[.int .i64 0, .int .i64 0, .int .i64 0, .int .i64 0, .int .i64 0, .int .i64 0, .int .i64 0, .int .i64 0] 104)
  have HUx := below_n3 w (.cells #[.int .i64 fx, .int .i64 fy, .int .i64 fz, .int .i64 dx, .int .i64 dy, .int .i64 dz, .int .i64 pt] 101) (.cells #[.int .i64 0, .int .i64 a1, .int .i64 a2, .int .i64 a3, .int .i64 a4, .int .i64 a5, .int .i64 a6, .int .i64 a7, .int .i64 a8, .int .i64 a9, .int .i64 a10, .int .i64 a11, .int .i64 a12, .int .i64 a13, .int .i64 a14, .int .i64 a15, .int .i64 a16, .int .i64 a17, .int .i64 a18, .int .i64 a19, .int .i64 a20, .int .i64 a21, .int .i64 a22, .int .i64 a23] 91) (.cells #[.int .i64 0, .int .i64 0, .int .i64 0, .int .i64 0, .int .i64 0, .int .i64 0, .int .i64 0, .int .i64 0] 104)
  obtain ⟨y0, hy0⟩ : ∃ y0, ((w.alloc (.cells #[.int .i64 fx, .int .i64 fy, .int .i64 fz, .int .i64 dx, .int .i64 dy, .int .i64 dz, .int .i64 pt] 101)).alloc (.cells #[.int .i64 0, .int .i64 a1, .int .i64 a2, .int .i64 a3, .int .i64 a4, .int .i64 a5, .int .i64 a6, .int .i64 a7, .int .i64 a8, .int .i64 a9, .int .i64 a10, .int .i64 a11, .int .i64 a12, .int .i64 a13, .int .i64 a14, .int .i64 a15, .int .i64 a16, .int .i64 a17, .int .i64 a18, .int .i64 a19, .int .i64 a20, .int .i64 a21, .int .i64 a22, .int .i64 a23] 91)).alloc (.cells #[.int .i64 0, .int .i64 0, .int .i64 0, .int .i64 0, .int .i64 0, .int .i64 0, .int .i64 0, .int .i64 0] 104) = y0 := ⟨_, rfl⟩
  rw [hy0] at hR HUx ⊢
  clear hy0
  have HU0 := Lib.hid HUx
  clear HUx
  obtain ⟨hr0_0, hr0_1, hr0_2⟩ := hR
  have c0_0 := cell_of_row _ _ 0 _ _ _ hr0_0
  have c0_1 := cell_of_row _ _ 1 _ _ _ hr0_0
  have c0_2 := cell_of_row _ _ 2 _ _ _ hr0_0
  have c0_3 := cell_of_row _ _ 3 _ _ _ hr0_0
  have c0_4 := cell_of_row _ _ 4 _ _ _ hr0_0
  have c0_5 := cell_of_row _ _ 5 _ _ _ hr0_0
  have c0_6 := cell_of_row _ _ 6 _ _ _ hr0_0
  simp at c0_0 c0_1 c0_2 c0_3 c0_4 c0_5 c0_6
  have HZM := Lib.hid (show (Try.prog.info? 91).map (·.size) = some (#[.int .i64 0, .int .i64 a1, .int .i64 a2, .int .i64 a3, .int .i64 a4, .int .i64 a5, .int .i64 a6, .int .i64 a7, .int .i64 a8, .int .i64 a9, .int .i64 a10, .int .i64 a11, .int .i64 a12, .int .i64 a13, .int .i64 a14, .int .i64 a15, .int .i64 a16, .int .i64 a17, .int .i64 a18, .int .i64 a19, .int .i64 a20, .int .i64 a21, .int .i64 a22, .int .i64 a23] : Array Value).size by kernel_rfl)
  have HZR := Lib.hid (show (Try.prog.info? 101).map (·.size) = some (#[.int .i64 fx, .int .i64 fy, .int .i64 fz, .int .i64 dx, .int .i64 dy, .int .i64 dz, .int .i64 pt] : Array Value).size by kernel_rfl)
  have HZW := Lib.hid (show (Try.prog.info? 191).map (·.size) = some (#[.int .i64 near, .int .i64 far, .int .i64 0, .int .i64 a1, .int .i64 p0, .int .i64 p1, .int .i64 p2, .int .i64 p3, .int .i64 p4, .int .i64 p5, .int .i64 p6, .int .i64 p7, .int .i64 p8, .int .i64 rad] : Array Value).size by kernel_rfl)
  have HL0 := Lib.hid hr0_1
  go_wp2_with (with_reducible refine wpList_load_row rfl 91 (.tmp 5) rfl (w.heap.size + 1) rfl 91 #[.int .i64 0, .int .i64 a1, .int .i64 a2, .int .i64 a3, .int .i64 a4, .int .i64 a5, .int .i64 a6, .int .i64 a7, .int .i64 a8, .int .i64 a9, .int .i64 a10, .int .i64 a11, .int .i64 a12, .int .i64 a13, .int .i64 a14, .int .i64 a15, .int .i64 a16, .int .i64 a17, .int .i64 a18, .int .i64 a19, .int .i64 a20, .int .i64 a21, .int .i64 a22, .int .i64 a23] (0, 0) _ HL0.out Try.underlying91 rfl HZM.out ?_)
  clear HL0
  refine (moving_at _ _ _ _ _ _ _ _ _ _ _ _ _ _ _ _ _ _ _ _ _ _ _ _ _ _ ).mono ?_
  rintro e y1 ⟨rfl, hb1⟩
  clear c0_0 c0_1 c0_2 c0_3 c0_4 c0_5 c0_6
  have hr1_0 := (hb1.block _ (lt_heap hr0_0)).trans hr0_0
  have hr1_1 := (hb1.block _ (lt_heap hr0_1)).trans hr0_1
  have hr1_2 := (hb1.block _ (lt_heap hr0_2)).trans hr0_2
  have HU1 := Lib.hid (HU0.out.trans (hb1.mono HU0.out.size))
  clear hr0_0 hr0_1 hr0_2 HU0
  try rw [ep0, ep1, ep2, ep3, ep4, ep5, ep6, ep7, ep8, erad]
  go_upto_region 2 with fail
  have hb2 := below_n1 y1 (.cells #[.int .i64 near, .int .i64 far, .int .i64 0, .int .i64 a1, .int .i64 p0, .int .i64 p1, .int .i64 p2, .int .i64 p3, .int .i64 p4, .int .i64 p5, .int .i64 p6, .int .i64 p7, .int .i64 p8, .int .i64 rad] 191)
  have hN := heap_alloc_last y1 (.cells #[.int .i64 near, .int .i64 far, .int .i64 0, .int .i64 a1, .int .i64 p0, .int .i64 p1, .int .i64 p2, .int .i64 p3, .int .i64 p4, .int .i64 p5, .int .i64 p6, .int .i64 p7, .int .i64 p8, .int .i64 rad] 191)
  obtain ⟨y2, hy2⟩ : ∃ y, y1.alloc (.cells #[.int .i64 near, .int .i64 far, .int .i64 0, .int .i64 a1, .int .i64 p0, .int .i64 p1, .int .i64 p2, .int .i64 p3, .int .i64 p4, .int .i64 p5, .int .i64 p6, .int .i64 p7, .int .i64 p8, .int .i64 rad] 191) = y := ⟨_, rfl⟩
  have hs2 : y2.heap.size = y1.heap.size + 1 := by rw [← hy2]; simp
  rw [hy2] at hb2 hN ⊢
  clear hy2
  have hl2_0 := lt_heap hr1_0
  have hl2_1 := lt_heap hr1_1
  have hl2_2 := lt_heap hr1_2
  have hr2_0 := (hb2.block _ (lt_heap hr1_0)).trans hr1_0
  have hr2_1 := (hb2.block _ (lt_heap hr1_1)).trans hr1_1
  have hr2_2 := (hb2.block _ (lt_heap hr1_2)).trans hr1_2
  have HU2 := Lib.hid (HU1.out.trans (hb2.mono HU1.out.size))
  clear hr1_0 hr1_1 hr1_2 HU1
  have hr2_3 := hN
  clear hN
  have kk := cell_of_row _ _ 2 _ _ _ hr2_3
  simp at kk
  go_upto_region 3 with fail
  clear kk
  have HL0 := Lib.hid hr2_0
  have HL3 := Lib.hid hr2_3
  go_wp2_with (first | (with_reducible refine wpList_load_row rfl 101 (.tmp 4) rfl w.heap.size rfl 101 #[.int .i64 fx, .int .i64 fy, .int .i64 fz, .int .i64 dx, .int .i64 dy, .int .i64 dz, .int .i64 pt] (0, 0) _ HL0.out Try.underlying101 rfl HZR.out ?_) | (with_reducible refine wpList_load_row rfl 191 (.tmp 10) rfl (y1.heap.size) rfl 191 #[.int .i64 near, .int .i64 far, .int .i64 0, .int .i64 a1, .int .i64 p0, .int .i64 p1, .int .i64 p2, .int .i64 p3, .int .i64 p4, .int .i64 p5, .int .i64 p6, .int .i64 p7, .int .i64 p8, .int .i64 rad] (0, 0) _ HL3.out Try.underlying191 rfl HZW.out ?_))
  clear HL0 HL3
  refine (hB _).mono ?_
  rintro e y3 ⟨rfl, hb3⟩
  have hr3_0 := (hb3.block _ (lt_heap hr2_0)).trans hr2_0
  have hr3_1 := (hb3.block _ (lt_heap hr2_1)).trans hr2_1
  have hr3_2 := (hb3.block _ (lt_heap hr2_2)).trans hr2_2
  have hr3_3 := (hb3.block _ (lt_heap hr2_3)).trans hr2_3
  have HU3 := Lib.hid (HU2.out.trans (hb3.mono HU2.out.size))
  clear hr2_0 hr2_1 hr2_2 hr2_3 HU2
  have hHr := Lib.hid hr3_2
  have hHi := Lib.hid (show (Try.prog.info? 104).map (·.size) = some (#[.int .i64 h0, .int .i64 h1, .int .i64 h2, .int .i64 h3, .int .i64 h4, .int .i64 h5, .int .i64 h6, .int .i64 h7] : Array Value).size by kernel_rfl)
  have hHz := Lib.hid (show (#[.int .i64 0, .int .i64 0, .int .i64 0, .int .i64 0, .int .i64 0, .int .i64 0, .int .i64 0, .int .i64 0] : Array Value).size = (#[.int .i64 h0, .int .i64 h1, .int .i64 h2, .int .i64 h3, .int .i64 h4, .int .i64 h5, .int .i64 h6, .int .i64 h7] : Array Value).size from rfl)
  have hHo := Lib.hid (show (#[.int .i64 h0, .int .i64 h1, .int .i64 h2, .int .i64 h3, .int .i64 h4, .int .i64 h5, .int .i64 h6, .int .i64 h7] : Array Value).all (·.oneCell') = true by simp [Value.oneCell'])
  go_wp2_with (first | (refine Au.wpList_store_row rfl 104 (.tmp 8) (.tmp 25) rfl y3 #[.int .i64 0, .int .i64 0, .int .i64 0, .int .i64 0, .int .i64 0, .int .i64 0, .int .i64 0, .int .i64 0] #[.int .i64 h0, .int .i64 h1, .int .i64 h2, .int .i64 h3, .int .i64 h4, .int .i64 h5, .int .i64 h6, .int .i64 h7] (w.heap.size + 1 + 1) 104 hHr.out rfl rfl hHi.out hHz.out hHo.out ?_))
  clear hHr hHi hHz hHo
  have hN := setRow_heap _ (w.heap.size + 1 + 1) _ #[.int .i64 h0, .int .i64 h1, .int .i64 h2, .int .i64 h3, .int .i64 h4, .int .i64 h5, .int .i64 h6, .int .i64 h7] _ _ hr3_2
  have hsz := HU3.out.size
  have HUx := below_setRow (g := w.heap.size + 1 + 1) HU3.out (by first | omega | (simp at *; omega)) #[.int .i64 h0, .int .i64 h1, .int .i64 h2, .int .i64 h3, .int .i64 h4, .int .i64 h5, .int .i64 h6, .int .i64 h7]
  have hO : ∀ kk, kk ≠ w.heap.size + 1 + 1 → (y3.setRow (w.heap.size + 1 + 1) #[.int .i64 h0, .int .i64 h1, .int .i64 h2, .int .i64 h3, .int .i64 h4, .int .i64 h5, .int .i64 h6, .int .i64 h7]).heap[kk]? = y3.heap[kk]? := fun kk hk => setRow_other _ _ _ _ hk
  obtain ⟨y4, hy4⟩ : ∃ y, y3.setRow (w.heap.size + 1 + 1) #[.int .i64 h0, .int .i64 h1, .int .i64 h2, .int .i64 h3, .int .i64 h4, .int .i64 h5, .int .i64 h6, .int .i64 h7] = y := ⟨_, rfl⟩
  rw [hy4] at hN HUx hO ⊢
  clear hy4 hsz
  have HU4 := Lib.hid HUx
  clear HUx
  have hr4_0 := (hO _ (by omega)).trans hr3_0
  have hr4_1 := (hO _ (by omega)).trans hr3_1
  have hr4_2 := hN
  have hr4_3 := (hO _ (by omega)).trans hr3_3
  clear hN hO
  clear hr3_0 hr3_1 hr3_2 hr3_3 HU3
  have c2_0 := cell_of_row _ _ 0 _ _ _ hr4_2
  have c2_1 := cell_of_row _ _ 1 _ _ _ hr4_2
  have c2_2 := cell_of_row _ _ 2 _ _ _ hr4_2
  have c2_3 := cell_of_row _ _ 3 _ _ _ hr4_2
  have c2_4 := cell_of_row _ _ 4 _ _ _ hr4_2
  have c2_5 := cell_of_row _ _ 5 _ _ _ hr4_2
  have c2_6 := cell_of_row _ _ 6 _ _ _ hr4_2
  have c2_7 := cell_of_row _ _ 7 _ _ _ hr4_2
  simp at c2_0 c2_1 c2_2 c2_3 c2_4 c2_5 c2_6 c2_7
  go_wp2
  exact bodyPost_ret (v := .tuple #[.agg #[.int .i64 h0, .int .i64 h1, .int .i64 h2, .int .i64 h3, .int .i64 h4, .int .i64 h5, .int .i64 h6, .int .i64 h7], .bool v]) (by simp [results, Try.results41, go_sem, c2_0, c2_1, c2_2, c2_3, c2_4, c2_5, c2_6, c2_7]) rfl ⟨rfl, HU4.out⟩

set_option maxHeartbeats 8000000 in
set_option maxRecDepth 100000 in
theorem test_face (fx fy fz dx dy dz pt a0 a1 a2 a3 a4 a5 a6 a7 a8 a9 a10 a11 a12 a13 a14 a15 a16 a17 a18 a19 a20 a21 a22 a23 near far p0 p1 p2 p3 p4 p5 p6 p7 p8 rad h0 h1 h2 h3 h4 h5 h6 h7 : Int) (v : Bool) (ep0 : Pl.lerp a2 a14 pt = p0) (ep1 : Pl.lerp a3 a15 pt = p1) (ep2 : Pl.lerp a4 a16 pt = p2) (ep3 : Pl.lerp a5 a17 pt = p3) (ep4 : Pl.lerp a6 a18 pt = p4) (ep5 : Pl.lerp a7 a19 pt = p5) (ep6 : Pl.lerp a8 a20 pt = p6) (ep7 : Pl.lerp a9 a21 pt = p7) (ep8 : Pl.lerp a10 a22 pt = p8) (erad : Pl.lerp a11 a23 pt = rad) (hB : ∀ w : World, Calls Try.prog 93 #[.agg #[.int .i64 fx, .int .i64 fy, .int .i64 fz, .int .i64 dx, .int .i64 dy, .int .i64 dz, .int .i64 pt], .agg #[.int .i64 near, .int .i64 far, .int .i64 a0, .int .i64 a1, .int .i64 p0, .int .i64 p1, .int .i64 p2, .int .i64 p3, .int .i64 p4, .int .i64 p5, .int .i64 p6, .int .i64 p7, .int .i64 p8, .int .i64 rad]] w fun e' w' => e' = .returned (.tuple #[.agg #[.int .i64 h0, .int .i64 h1, .int .i64 h2, .int .i64 h3, .int .i64 h4, .int .i64 h5, .int .i64 h6, .int .i64 h7], .bool v]) ∧ Below w.heap.size w w') (hk : ¬ a0 = 0) (w : World)  : Calls Try.prog 41 #[.agg #[.int .i64 fx, .int .i64 fy, .int .i64 fz, .int .i64 dx, .int .i64 dy, .int .i64 dz, .int .i64 pt], .agg #[.int .i64 a0, .int .i64 a1, .int .i64 a2, .int .i64 a3, .int .i64 a4, .int .i64 a5, .int .i64 a6, .int .i64 a7, .int .i64 a8, .int .i64 a9, .int .i64 a10, .int .i64 a11, .int .i64 a12, .int .i64 a13, .int .i64 a14, .int .i64 a15, .int .i64 a16, .int .i64 a17, .int .i64 a18, .int .i64 a19, .int .i64 a20, .int .i64 a21, .int .i64 a22, .int .i64 a23], .int .i64 near, .int .i64 far] w fun e' w' => e' = .returned (.tuple #[.agg #[.int .i64 h0, .int .i64 h1, .int .i64 h2, .int .i64 h3, .int .i64 h4, .int .i64 h5, .int .i64 h6, .int .i64 h7], .bool v]) ∧ Below w.heap.size w w' := by
  have dk : (a0 == 0) = false := by simpa using hk
  have dk' := decide_eq_false hk
  go_enter Try.func41, Try.ntmps41
  go_upto_region 1 with fail
  have hR := Au.rows3 w (.cells #[.int .i64 fx, .int .i64 fy, .int .i64 fz, .int .i64 dx, .int .i64 dy, .int .i64 dz, .int .i64 pt] 101) (.cells #[.int .i64 a0, .int .i64 a1, .int .i64 a2, .int .i64 a3, .int .i64 a4, .int .i64 a5, .int .i64 a6, .int .i64 a7, .int .i64 a8, .int .i64 a9, .int .i64 a10, .int .i64 a11, .int .i64 a12, .int .i64 a13, .int .i64 a14, .int .i64 a15, .int .i64 a16, .int .i64 a17, .int .i64 a18, .int .i64 a19, .int .i64 a20, .int .i64 a21, .int .i64 a22, .int .i64 a23] 91) (.cells #[.int .i64 0, .int .i64 0, .int .i64 0, .int .i64 0, .int .i64 0, .int .i64 0, .int .i64 0, .int .i64 0] 104)
  have HUx := below_n3 w (.cells #[.int .i64 fx, .int .i64 fy, .int .i64 fz, .int .i64 dx, .int .i64 dy, .int .i64 dz, .int .i64 pt] 101) (.cells #[.int .i64 a0, .int .i64 a1, .int .i64 a2, .int .i64 a3, .int .i64 a4, .int .i64 a5, .int .i64 a6, .int .i64 a7, .int .i64 a8, .int .i64 a9, .int .i64 a10, .int .i64 a11, .int .i64 a12, .int .i64 a13, .int .i64 a14, .int .i64 a15, .int .i64 a16, .int .i64 a17, .int .i64 a18, .int .i64 a19, .int .i64 a20, .int .i64 a21, .int .i64 a22, .int .i64 a23] 91) (.cells #[.int .i64 0, .int .i64 0, .int .i64 0, .int .i64 0, .int .i64 0, .int .i64 0, .int .i64 0, .int .i64 0] 104)
  obtain ⟨y0, hy0⟩ : ∃ y0, ((w.alloc (.cells #[.int .i64 fx, .int .i64 fy, .int .i64 fz, .int .i64 dx, .int .i64 dy, .int .i64 dz, .int .i64 pt] 101)).alloc (.cells #[.int .i64 a0, .int .i64 a1, .int .i64 a2, .int .i64 a3, .int .i64 a4, .int .i64 a5, .int .i64 a6, .int .i64 a7, .int .i64 a8, .int .i64 a9, .int .i64 a10, .int .i64 a11, .int .i64 a12, .int .i64 a13, .int .i64 a14, .int .i64 a15, .int .i64 a16, .int .i64 a17, .int .i64 a18, .int .i64 a19, .int .i64 a20, .int .i64 a21, .int .i64 a22, .int .i64 a23] 91)).alloc (.cells #[.int .i64 0, .int .i64 0, .int .i64 0, .int .i64 0, .int .i64 0, .int .i64 0, .int .i64 0, .int .i64 0] 104) = y0 := ⟨_, rfl⟩
  rw [hy0] at hR HUx ⊢
  clear hy0
  have HU0 := Lib.hid HUx
  clear HUx
  obtain ⟨hr0_0, hr0_1, hr0_2⟩ := hR
  have c0_0 := cell_of_row _ _ 0 _ _ _ hr0_0
  have c0_1 := cell_of_row _ _ 1 _ _ _ hr0_0
  have c0_2 := cell_of_row _ _ 2 _ _ _ hr0_0
  have c0_3 := cell_of_row _ _ 3 _ _ _ hr0_0
  have c0_4 := cell_of_row _ _ 4 _ _ _ hr0_0
  have c0_5 := cell_of_row _ _ 5 _ _ _ hr0_0
  have c0_6 := cell_of_row _ _ 6 _ _ _ hr0_0
  simp at c0_0 c0_1 c0_2 c0_3 c0_4 c0_5 c0_6
  have HZM := Lib.hid (show (Try.prog.info? 91).map (·.size) = some (#[.int .i64 a0, .int .i64 a1, .int .i64 a2, .int .i64 a3, .int .i64 a4, .int .i64 a5, .int .i64 a6, .int .i64 a7, .int .i64 a8, .int .i64 a9, .int .i64 a10, .int .i64 a11, .int .i64 a12, .int .i64 a13, .int .i64 a14, .int .i64 a15, .int .i64 a16, .int .i64 a17, .int .i64 a18, .int .i64 a19, .int .i64 a20, .int .i64 a21, .int .i64 a22, .int .i64 a23] : Array Value).size by kernel_rfl)
  have HZR := Lib.hid (show (Try.prog.info? 101).map (·.size) = some (#[.int .i64 fx, .int .i64 fy, .int .i64 fz, .int .i64 dx, .int .i64 dy, .int .i64 dz, .int .i64 pt] : Array Value).size by kernel_rfl)
  have HZW := Lib.hid (show (Try.prog.info? 191).map (·.size) = some (#[.int .i64 near, .int .i64 far, .int .i64 a0, .int .i64 a1, .int .i64 p0, .int .i64 p1, .int .i64 p2, .int .i64 p3, .int .i64 p4, .int .i64 p5, .int .i64 p6, .int .i64 p7, .int .i64 p8, .int .i64 rad] : Array Value).size by kernel_rfl)
  have HL0 := Lib.hid hr0_1
  go_wp2_with (with_reducible refine wpList_load_row rfl 91 (.tmp 5) rfl (w.heap.size + 1) rfl 91 #[.int .i64 a0, .int .i64 a1, .int .i64 a2, .int .i64 a3, .int .i64 a4, .int .i64 a5, .int .i64 a6, .int .i64 a7, .int .i64 a8, .int .i64 a9, .int .i64 a10, .int .i64 a11, .int .i64 a12, .int .i64 a13, .int .i64 a14, .int .i64 a15, .int .i64 a16, .int .i64 a17, .int .i64 a18, .int .i64 a19, .int .i64 a20, .int .i64 a21, .int .i64 a22, .int .i64 a23] (0, 0) _ HL0.out Try.underlying91 rfl HZM.out ?_)
  clear HL0
  refine (moving_at _ _ _ _ _ _ _ _ _ _ _ _ _ _ _ _ _ _ _ _ _ _ _ _ _ _ ).mono ?_
  rintro e y1 ⟨rfl, hb1⟩
  clear c0_0 c0_1 c0_2 c0_3 c0_4 c0_5 c0_6
  have hr1_0 := (hb1.block _ (lt_heap hr0_0)).trans hr0_0
  have hr1_1 := (hb1.block _ (lt_heap hr0_1)).trans hr0_1
  have hr1_2 := (hb1.block _ (lt_heap hr0_2)).trans hr0_2
  have HU1 := Lib.hid (HU0.out.trans (hb1.mono HU0.out.size))
  clear hr0_0 hr0_1 hr0_2 HU0
  try rw [ep0, ep1, ep2, ep3, ep4, ep5, ep6, ep7, ep8, erad]
  go_upto_region 2 with fail
  have hb2 := below_n1 y1 (.cells #[.int .i64 near, .int .i64 far, .int .i64 a0, .int .i64 a1, .int .i64 p0, .int .i64 p1, .int .i64 p2, .int .i64 p3, .int .i64 p4, .int .i64 p5, .int .i64 p6, .int .i64 p7, .int .i64 p8, .int .i64 rad] 191)
  have hN := heap_alloc_last y1 (.cells #[.int .i64 near, .int .i64 far, .int .i64 a0, .int .i64 a1, .int .i64 p0, .int .i64 p1, .int .i64 p2, .int .i64 p3, .int .i64 p4, .int .i64 p5, .int .i64 p6, .int .i64 p7, .int .i64 p8, .int .i64 rad] 191)
  obtain ⟨y2, hy2⟩ : ∃ y, y1.alloc (.cells #[.int .i64 near, .int .i64 far, .int .i64 a0, .int .i64 a1, .int .i64 p0, .int .i64 p1, .int .i64 p2, .int .i64 p3, .int .i64 p4, .int .i64 p5, .int .i64 p6, .int .i64 p7, .int .i64 p8, .int .i64 rad] 191) = y := ⟨_, rfl⟩
  have hs2 : y2.heap.size = y1.heap.size + 1 := by rw [← hy2]; simp
  rw [hy2] at hb2 hN ⊢
  clear hy2
  have hl2_0 := lt_heap hr1_0
  have hl2_1 := lt_heap hr1_1
  have hl2_2 := lt_heap hr1_2
  have hr2_0 := (hb2.block _ (lt_heap hr1_0)).trans hr1_0
  have hr2_1 := (hb2.block _ (lt_heap hr1_1)).trans hr1_1
  have hr2_2 := (hb2.block _ (lt_heap hr1_2)).trans hr1_2
  have HU2 := Lib.hid (HU1.out.trans (hb2.mono HU1.out.size))
  clear hr1_0 hr1_1 hr1_2 HU1
  have hr2_3 := hN
  clear hN
  have kk := cell_of_row _ _ 2 _ _ _ hr2_3
  simp at kk
  go_upto_region 4 with fail
  clear kk
  have HL0 := Lib.hid hr2_0
  have HL3 := Lib.hid hr2_3
  go_wp2_with (first | (with_reducible refine wpList_load_row rfl 101 (.tmp 4) rfl w.heap.size rfl 101 #[.int .i64 fx, .int .i64 fy, .int .i64 fz, .int .i64 dx, .int .i64 dy, .int .i64 dz, .int .i64 pt] (0, 0) _ HL0.out Try.underlying101 rfl HZR.out ?_) | (with_reducible refine wpList_load_row rfl 191 (.tmp 10) rfl (y1.heap.size) rfl 191 #[.int .i64 near, .int .i64 far, .int .i64 a0, .int .i64 a1, .int .i64 p0, .int .i64 p1, .int .i64 p2, .int .i64 p3, .int .i64 p4, .int .i64 p5, .int .i64 p6, .int .i64 p7, .int .i64 p8, .int .i64 rad] (0, 0) _ HL3.out Try.underlying191 rfl HZW.out ?_))
  clear HL0 HL3
  refine (hB _).mono ?_
  rintro e y3 ⟨rfl, hb3⟩
  have hr3_0 := (hb3.block _ (lt_heap hr2_0)).trans hr2_0
  have hr3_1 := (hb3.block _ (lt_heap hr2_1)).trans hr2_1
  have hr3_2 := (hb3.block _ (lt_heap hr2_2)).trans hr2_2
  have hr3_3 := (hb3.block _ (lt_heap hr2_3)).trans hr2_3
  have HU3 := Lib.hid (HU2.out.trans (hb3.mono HU2.out.size))
  clear hr2_0 hr2_1 hr2_2 hr2_3 HU2
  have hHr := Lib.hid hr3_2
  have hHi := Lib.hid (show (Try.prog.info? 104).map (·.size) = some (#[.int .i64 h0, .int .i64 h1, .int .i64 h2, .int .i64 h3, .int .i64 h4, .int .i64 h5, .int .i64 h6, .int .i64 h7] : Array Value).size by kernel_rfl)
  have hHz := Lib.hid (show (#[.int .i64 0, .int .i64 0, .int .i64 0, .int .i64 0, .int .i64 0, .int .i64 0, .int .i64 0, .int .i64 0] : Array Value).size = (#[.int .i64 h0, .int .i64 h1, .int .i64 h2, .int .i64 h3, .int .i64 h4, .int .i64 h5, .int .i64 h6, .int .i64 h7] : Array Value).size from rfl)
  have hHo := Lib.hid (show (#[.int .i64 h0, .int .i64 h1, .int .i64 h2, .int .i64 h3, .int .i64 h4, .int .i64 h5, .int .i64 h6, .int .i64 h7] : Array Value).all (·.oneCell') = true by simp [Value.oneCell'])
  go_wp2_with (first | (refine Au.wpList_store_row rfl 104 (.tmp 8) (.tmp 30) rfl y3 #[.int .i64 0, .int .i64 0, .int .i64 0, .int .i64 0, .int .i64 0, .int .i64 0, .int .i64 0, .int .i64 0] #[.int .i64 h0, .int .i64 h1, .int .i64 h2, .int .i64 h3, .int .i64 h4, .int .i64 h5, .int .i64 h6, .int .i64 h7] (w.heap.size + 1 + 1) 104 hHr.out rfl rfl hHi.out hHz.out hHo.out ?_))
  clear hHr hHi hHz hHo
  have hN := setRow_heap _ (w.heap.size + 1 + 1) _ #[.int .i64 h0, .int .i64 h1, .int .i64 h2, .int .i64 h3, .int .i64 h4, .int .i64 h5, .int .i64 h6, .int .i64 h7] _ _ hr3_2
  have hsz := HU3.out.size
  have HUx := below_setRow (g := w.heap.size + 1 + 1) HU3.out (by first | omega | (simp at *; omega)) #[.int .i64 h0, .int .i64 h1, .int .i64 h2, .int .i64 h3, .int .i64 h4, .int .i64 h5, .int .i64 h6, .int .i64 h7]
  have hO : ∀ kk, kk ≠ w.heap.size + 1 + 1 → (y3.setRow (w.heap.size + 1 + 1) #[.int .i64 h0, .int .i64 h1, .int .i64 h2, .int .i64 h3, .int .i64 h4, .int .i64 h5, .int .i64 h6, .int .i64 h7]).heap[kk]? = y3.heap[kk]? := fun kk hk => setRow_other _ _ _ _ hk
  obtain ⟨y4, hy4⟩ : ∃ y, y3.setRow (w.heap.size + 1 + 1) #[.int .i64 h0, .int .i64 h1, .int .i64 h2, .int .i64 h3, .int .i64 h4, .int .i64 h5, .int .i64 h6, .int .i64 h7] = y := ⟨_, rfl⟩
  rw [hy4] at hN HUx hO ⊢
  clear hy4 hsz
  have HU4 := Lib.hid HUx
  clear HUx
  have hr4_0 := (hO _ (by omega)).trans hr3_0
  have hr4_1 := (hO _ (by omega)).trans hr3_1
  have hr4_2 := hN
  have hr4_3 := (hO _ (by omega)).trans hr3_3
  clear hN hO
  clear hr3_0 hr3_1 hr3_2 hr3_3 HU3
  have c2_0 := cell_of_row _ _ 0 _ _ _ hr4_2
  have c2_1 := cell_of_row _ _ 1 _ _ _ hr4_2
  have c2_2 := cell_of_row _ _ 2 _ _ _ hr4_2
  have c2_3 := cell_of_row _ _ 3 _ _ _ hr4_2
  have c2_4 := cell_of_row _ _ 4 _ _ _ hr4_2
  have c2_5 := cell_of_row _ _ 5 _ _ _ hr4_2
  have c2_6 := cell_of_row _ _ 6 _ _ _ hr4_2
  have c2_7 := cell_of_row _ _ 7 _ _ _ hr4_2
  simp at c2_0 c2_1 c2_2 c2_3 c2_4 c2_5 c2_6 c2_7
  go_wp2
  exact bodyPost_ret (v := .tuple #[.agg #[.int .i64 h0, .int .i64 h1, .int .i64 h2, .int .i64 h3, .int .i64 h4, .int .i64 h5, .int .i64 h6, .int .i64 h7], .bool v]) (by simp [results, Try.results41, go_sem, c2_0, c2_1, c2_2, c2_3, c2_4, c2_5, c2_6, c2_7]) rfl ⟨rfl, HU4.out⟩

/-- whether a place on a ray lies in a box -/
def okB (b0 b1 b2 b3 b4 b5 : Int) (fx fy fz dx dy dz t : Int) : Bool := has6 b0 b1 b2 b3 b4 b5 (at1 fx dx t) (at1 fy dy t) (at1 fz dz t)

/-- what Test answers: nothing, or the place that was found and what is there -/
def testR (fx fy fz dx dy dz : Int) (n0 n1 n2 : Int → Int) (c : Option Int) : Value := match c with
  | none => .tuple #[.agg #[.int .i64 0, .int .i64 0, .int .i64 0, .int .i64 0, .int .i64 0, .int .i64 0, .int .i64 0, .int .i64 0], .bool false]
  | some t => .tuple #[.agg #[.int .i64 t, .int .i64 0, .int .i64 (at1 fx dx t), .int .i64 (at1 fy dy t), .int .i64 (at1 fz dz t), .int .i64 (n0 t), .int .i64 (n1 t), .int .i64 (n2 t)], .bool true]

/-- a number of the normal, turned to the ray -/
def nrm (dx dy dz a b c x : Int) : Int := fc (decide (0 < dot a b c dx dy dz)) x

set_option maxHeartbeats 2000000 in
theorem test_ex_ball (fx fy fz dx dy dz pt a1 a2 a3 a4 a5 a6 a7 a8 a9 a10 a11 a12 a13 a14 a15 a16 a17 a18 a19 a20 a21 a22 a23 : Int) : ∃ (q0 q1 q2 q3 q4 q5 q6 q7 q8 q9 q10 q11 : Int) (b0 b1 b2 b3 b4 b5 : Int) (c : List Int) (n0 n1 n2 : Int → Int), c.Pairwise (· ≤ ·) ∧ (∀ t ∈ c, -2147483648 ≤ t ∧ t ≤ 2147483648) ∧
    (∀ w : World, Calls Try.prog 43 #[.agg #[.int .i64 0, .int .i64 a1, .int .i64 a2, .int .i64 a3, .int .i64 a4, .int .i64 a5, .int .i64 a6, .int .i64 a7, .int .i64 a8, .int .i64 a9, .int .i64 a10, .int .i64 a11, .int .i64 a12, .int .i64 a13, .int .i64 a14, .int .i64 a15, .int .i64 a16, .int .i64 a17, .int .i64 a18, .int .i64 a19, .int .i64 a20, .int .i64 a21, .int .i64 a22, .int .i64 a23], .int .i64 pt] w fun e' w' => e' = .returned (.agg #[.int .i64 q0, .int .i64 q1, .int .i64 q2, .int .i64 q3, .int .i64 q4, .int .i64 q5, .int .i64 q6, .int .i64 q7, .int .i64 q8, .int .i64 q9, .int .i64 q10, .int .i64 q11]) ∧ Below w.heap.size w w') ∧
    (∀ w : World, Calls Try.prog 42 #[.agg #[.int .i64 q0, .int .i64 q1, .int .i64 q2, .int .i64 q3, .int .i64 q4, .int .i64 q5, .int .i64 q6, .int .i64 q7, .int .i64 q8, .int .i64 q9, .int .i64 q10, .int .i64 q11]] w fun e' w' => e' = .returned (.agg #[.int .i64 b0, .int .i64 b1, .int .i64 b2, .int .i64 b3, .int .i64 b4, .int .i64 b5]) ∧ Below w.heap.size w w') ∧
    (∀ (near far : Int) (w : World), Calls Try.prog 41 #[.agg #[.int .i64 fx, .int .i64 fy, .int .i64 fz, .int .i64 dx, .int .i64 dy, .int .i64 dz, .int .i64 pt], .agg #[.int .i64 0, .int .i64 a1, .int .i64 a2, .int .i64 a3, .int .i64 a4, .int .i64 a5, .int .i64 a6, .int .i64 a7, .int .i64 a8, .int .i64 a9, .int .i64 a10, .int .i64 a11, .int .i64 a12, .int .i64 a13, .int .i64 a14, .int .i64 a15, .int .i64 a16, .int .i64 a17, .int .i64 a18, .int .i64 a19, .int .i64 a20, .int .i64 a21, .int .i64 a22, .int .i64 a23], .int .i64 near, .int .i64 far] w fun e' w' => e' = .returned (testR fx fy fz dx dy dz n0 n1 n2 (first c (okB b0 b1 b2 b3 b4 b5 fx fy fz dx dy dz) near far)) ∧ Below w.heap.size w w') := by
  obtain ⟨p0, ep0⟩ : ∃ x, Pl.lerp a2 a14 pt = x := ⟨_, rfl⟩
  obtain ⟨p1, ep1⟩ : ∃ x, Pl.lerp a3 a15 pt = x := ⟨_, rfl⟩
  obtain ⟨p2, ep2⟩ : ∃ x, Pl.lerp a4 a16 pt = x := ⟨_, rfl⟩
  obtain ⟨p3, ep3⟩ : ∃ x, Pl.lerp a5 a17 pt = x := ⟨_, rfl⟩
  obtain ⟨p4, ep4⟩ : ∃ x, Pl.lerp a6 a18 pt = x := ⟨_, rfl⟩
  obtain ⟨p5, ep5⟩ : ∃ x, Pl.lerp a7 a19 pt = x := ⟨_, rfl⟩
  obtain ⟨p6, ep6⟩ : ∃ x, Pl.lerp a8 a20 pt = x := ⟨_, rfl⟩
  obtain ⟨p7, ep7⟩ : ∃ x, Pl.lerp a9 a21 pt = x := ⟨_, rfl⟩
  obtain ⟨p8, ep8⟩ : ∃ x, Pl.lerp a10 a22 pt = x := ⟨_, rfl⟩
  obtain ⟨rad, erad⟩ : ∃ x, Pl.lerp a11 a23 pt = x := ⟨_, rfl⟩
  have hM : ∀ w : World, Calls Try.prog 43 #[.agg #[.int .i64 0, .int .i64 a1, .int .i64 a2, .int .i64 a3, .int .i64 a4, .int .i64 a5, .int .i64 a6, .int .i64 a7, .int .i64 a8, .int .i64 a9, .int .i64 a10, .int .i64 a11, .int .i64 a12, .int .i64 a13, .int .i64 a14, .int .i64 a15, .int .i64 a16, .int .i64 a17, .int .i64 a18, .int .i64 a19, .int .i64 a20, .int .i64 a21, .int .i64 a22, .int .i64 a23], .int .i64 pt] w fun e' w' => e' = .returned (.agg #[.int .i64 0, .int .i64 a1, .int .i64 p0, .int .i64 p1, .int .i64 p2, .int .i64 p3, .int .i64 p4, .int .i64 p5, .int .i64 p6, .int .i64 p7, .int .i64 p8, .int .i64 rad]) ∧ Below w.heap.size w w' := fun w => by
    have h := moving_at 0 a1 a2 a3 a4 a5 a6 a7 a8 a9 a10 a11 a12 a13 a14 a15 a16 a17 a18 a19 a20 a21 a22 a23 pt w
    simp only [ep0, ep1, ep2, ep3, ep4, ep5, ep6, ep7, ep8, erad] at h
    exact h
  have hA := around_ball a1 p0 p1 p2 p3 p4 p5 p6 p7 p8 rad
  obtain ⟨b0, eb0⟩ : ∃ x, Pl.sub p0 (Pl.add rad 8192) = x := ⟨_, rfl⟩
  obtain ⟨b1, eb1⟩ : ∃ x, Pl.sub p1 (Pl.add rad 8192) = x := ⟨_, rfl⟩
  obtain ⟨b2, eb2⟩ : ∃ x, Pl.sub p2 (Pl.add rad 8192) = x := ⟨_, rfl⟩
  obtain ⟨b3, eb3⟩ : ∃ x, Pl.add p0 (Pl.add rad 8192) = x := ⟨_, rfl⟩
  obtain ⟨b4, eb4⟩ : ∃ x, Pl.add p1 (Pl.add rad 8192) = x := ⟨_, rfl⟩
  obtain ⟨b5, eb5⟩ : ∃ x, Pl.add p2 (Pl.add rad 8192) = x := ⟨_, rfl⟩
  simp only [eb0, eb1, eb2, eb3, eb4, eb5] at hA
  obtain ⟨gx, egx⟩ : ∃ x, Pl.sub fx p0 = x := ⟨_, rfl⟩
  obtain ⟨gy, egy⟩ : ∃ x, Pl.sub fy p1 = x := ⟨_, rfl⟩
  obtain ⟨gz, egz⟩ : ∃ x, Pl.sub fz p2 = x := ⟨_, rfl⟩
  obtain ⟨A, eA⟩ : ∃ x, Pl.add (Pl.add (Pl.add 0 (Pl.mul dx dx)) (Pl.mul dy dy)) (Pl.mul dz dz) = x := ⟨_, rfl⟩
  obtain ⟨B, eB⟩ : ∃ x, Pl.add (Pl.add (Pl.add 0 (Pl.mul gx dx)) (Pl.mul gy dy)) (Pl.mul gz dz) = x := ⟨_, rfl⟩
  obtain ⟨G, eG⟩ : ∃ x, Pl.add (Pl.add (Pl.add 0 (Pl.mul gx gx)) (Pl.mul gy gy)) (Pl.mul gz gz) = x := ⟨_, rfl⟩
  obtain ⟨D, eD⟩ : ∃ x, Pl.sub G (Pl.mul rad rad) = x := ⟨_, rfl⟩
  obtain ⟨U, eU⟩ : ∃ x, Pl.sub (Pl.mul B B) (Pl.mul A D) = x := ⟨_, rfl⟩
  by_cases hn : U < 0 ∨ A = 0
  · refine ⟨_, _, _, _, _, _, _, _, _, _, _, _, _, _, _, _, _, _, [], fun _ => 0, fun _ => 0, fun _ => 0, .nil, (fun _ h => by cases h), hM, hA, fun near far w => ?_⟩
    have hR : ∀ w : World, Calls Try.prog 145 #[.agg #[.int .i64 fx, .int .i64 fy, .int .i64 fz, .int .i64 dx, .int .i64 dy, .int .i64 dz, .int .i64 pt], .agg #[.int .i64 p0, .int .i64 p1, .int .i64 p2], .int .i64 rad] w fun e' w' => e' = .returned (.tuple #[.agg #[.int .i64 0, .int .i64 0], .bool false]) ∧ Below w.heap.size w w' := fun w => by
      by_cases h1 : U < 0
      · exact roots_low fx fy fz dx dy dz pt p0 p1 p2 rad gx gy gz A B G D U egx egy egz eA eB eG eD eU h1 w
      · exact roots_flat fx fy fz dx dy dz pt p0 p1 p2 rad gx gy gz A B G D U egx egy egz eA eB eG eD eU h1 (hn.resolve_left h1) w
    exact test_ball fx fy fz dx dy dz pt a1 a2 a3 a4 a5 a6 a7 a8 a9 a10 a11 a12 a13 a14 a15 a16 a17 a18 a19 a20 a21 a22 a23 near far p0 p1 p2 p3 p4 p5 p6 p7 p8 rad 0 0 0 0 0 0 0 0 false ep0 ep1 ep2 ep3 ep4 ep5 ep6 ep7 ep8 erad (ball_none near far 0 a1 p0 p1 p2 p3 p4 p5 p6 p7 p8 rad fx fy fz dx dy dz pt b0 b1 b2 b3 b4 b5 hR hA) w
  have h1 : ¬ U < 0 := fun h => hn (.inl h)
  have h2 : ¬ A = 0 := fun h => hn (.inr h)
  have hpos : 0 < A := by have := dot_self dx dy dz; unfold dot at this; omega
  have hR := roots_some fx fy fz dx dy dz pt p0 p1 p2 rad gx gy gz A B G D U egx egy egz eA eB eG eD eU h1 h2
  have hs : near1 A B (Pl.root U) ≤ far1 A B (Pl.root U) := near_far hpos (root_nonneg U)
  unfold near1 far1 at hs
  have z1 := div_lo (Pl.sub (-Pl.held B) (Pl.root U)) A
  have z2 := div_hi (Pl.sub (-Pl.held B) (Pl.root U)) A
  have z3 := div_lo (Pl.sub (Pl.root U) B) A
  have z4 := div_hi (Pl.sub (Pl.root U) B) A
  obtain ⟨t1, et1⟩ : ∃ x, Pl.div (Pl.sub (-Pl.held B) (Pl.root U)) A = x := ⟨_, rfl⟩
  obtain ⟨t2, et2⟩ : ∃ x, Pl.div (Pl.sub (Pl.root U) B) A = x := ⟨_, rfl⟩
  simp only [et1, et2] at hR hs z1 z2 z3 z4
  refine ⟨_, _, _, _, _, _, _, _, _, _, _, _, _, _, _, _, _, _, [t1, t2], fun t => nrm dx dy dz (un (Pl.sub (at1 fx dx t) p0) (Pl.sub (at1 fy dy t) p1) (Pl.sub (at1 fz dz t) p2) (Pl.sub (at1 fx dx t) p0)) (un (Pl.sub (at1 fx dx t) p0) (Pl.sub (at1 fy dy t) p1) (Pl.sub (at1 fz dz t) p2) (Pl.sub (at1 fy dy t) p1)) (un (Pl.sub (at1 fx dx t) p0) (Pl.sub (at1 fy dy t) p1) (Pl.sub (at1 fz dz t) p2) (Pl.sub (at1 fz dz t) p2)) (un (Pl.sub (at1 fx dx t) p0) (Pl.sub (at1 fy dy t) p1) (Pl.sub (at1 fz dz t) p2) (Pl.sub (at1 fx dx t) p0)), fun t => nrm dx dy dz (un (Pl.sub (at1 fx dx t) p0) (Pl.sub (at1 fy dy t) p1) (Pl.sub (at1 fz dz t) p2) (Pl.sub (at1 fx dx t) p0)) (un (Pl.sub (at1 fx dx t) p0) (Pl.sub (at1 fy dy t) p1) (Pl.sub (at1 fz dz t) p2) (Pl.sub (at1 fy dy t) p1)) (un (Pl.sub (at1 fx dx t) p0) (Pl.sub (at1 fy dy t) p1) (Pl.sub (at1 fz dz t) p2) (Pl.sub (at1 fz dz t) p2)) (un (Pl.sub (at1 fx dx t) p0) (Pl.sub (at1 fy dy t) p1) (Pl.sub (at1 fz dz t) p2) (Pl.sub (at1 fy dy t) p1)), fun t => nrm dx dy dz (un (Pl.sub (at1 fx dx t) p0) (Pl.sub (at1 fy dy t) p1) (Pl.sub (at1 fz dz t) p2) (Pl.sub (at1 fx dx t) p0)) (un (Pl.sub (at1 fx dx t) p0) (Pl.sub (at1 fy dy t) p1) (Pl.sub (at1 fz dz t) p2) (Pl.sub (at1 fy dy t) p1)) (un (Pl.sub (at1 fx dx t) p0) (Pl.sub (at1 fy dy t) p1) (Pl.sub (at1 fz dz t) p2) (Pl.sub (at1 fz dz t) p2)) (un (Pl.sub (at1 fx dx t) p0) (Pl.sub (at1 fy dy t) p1) (Pl.sub (at1 fz dz t) p2) (Pl.sub (at1 fz dz t) p2)), by simp [hs], (fun t h => by simp at h; rcases h with rfl | rfl <;> omega), hM, hA, fun near far w => ?_⟩
  cases s1 : (decide (near < t1) && decide (t1 ≤ far) && okB b0 b1 b2 b3 b4 b5 fx fy fz dx dy dz t1)
  · cases s2 : (decide (near < t2) && decide (t2 ≤ far) && okB b0 b1 b2 b3 b4 b5 fx fy fz dx dy dz t2)
    · have hf : first [t1, t2] (okB b0 b1 b2 b3 b4 b5 fx fy fz dx dy dz) near far = none := by simp [first, shows, List.find?, s1, s2]
      rw [hf]
      exact test_ball fx fy fz dx dy dz pt a1 a2 a3 a4 a5 a6 a7 a8 a9 a10 a11 a12 a13 a14 a15 a16 a17 a18 a19 a20 a21 a22 a23 near far p0 p1 p2 p3 p4 p5 p6 p7 p8 rad 0 0 0 0 0 0 0 0 false ep0 ep1 ep2 ep3 ep4 ep5 ep6 ep7 ep8 erad (ball_out near far 0 a1 p0 p1 p2 p3 p4 p5 p6 p7 p8 rad fx fy fz dx dy dz pt b0 b1 b2 b3 b4 b5 t1 t2 hR hA s1 s2) w
    · have hf : first [t1, t2] (okB b0 b1 b2 b3 b4 b5 fx fy fz dx dy dz) near far = some t2 := by simp [first, shows, List.find?, s1, s2]
      rw [hf]
      exact test_ball fx fy fz dx dy dz pt a1 a2 a3 a4 a5 a6 a7 a8 a9 a10 a11 a12 a13 a14 a15 a16 a17 a18 a19 a20 a21 a22 a23 near far p0 p1 p2 p3 p4 p5 p6 p7 p8 rad _ _ _ _ _ _ _ _ true ep0 ep1 ep2 ep3 ep4 ep5 ep6 ep7 ep8 erad (ball_second near far 0 a1 p0 p1 p2 p3 p4 p5 p6 p7 p8 rad fx fy fz dx dy dz pt b0 b1 b2 b3 b4 b5 t1 t2 _ _ _ _ _ _ hR hA s1 s2 _ rfl rfl rfl rfl rfl rfl rfl) w
  · have hf : first [t1, t2] (okB b0 b1 b2 b3 b4 b5 fx fy fz dx dy dz) near far = some t1 := by simp [first, shows, List.find?, s1]
    rw [hf]
    exact test_ball fx fy fz dx dy dz pt a1 a2 a3 a4 a5 a6 a7 a8 a9 a10 a11 a12 a13 a14 a15 a16 a17 a18 a19 a20 a21 a22 a23 near far p0 p1 p2 p3 p4 p5 p6 p7 p8 rad _ _ _ _ _ _ _ _ true ep0 ep1 ep2 ep3 ep4 ep5 ep6 ep7 ep8 erad (ball_first near far 0 a1 p0 p1 p2 p3 p4 p5 p6 p7 p8 rad fx fy fz dx dy dz pt b0 b1 b2 b3 b4 b5 t1 t2 _ _ _ _ _ _ hR hA s1 _ rfl rfl rfl rfl rfl rfl rfl) w

set_option maxHeartbeats 2000000 in
theorem test_ex_face (fx fy fz dx dy dz pt a0 a1 a2 a3 a4 a5 a6 a7 a8 a9 a10 a11 a12 a13 a14 a15 a16 a17 a18 a19 a20 a21 a22 a23 : Int) (hk : ¬ a0 = 0) : ∃ (q0 q1 q2 q3 q4 q5 q6 q7 q8 q9 q10 q11 : Int) (b0 b1 b2 b3 b4 b5 : Int) (c : List Int) (n0 n1 n2 : Int → Int), c.Pairwise (· ≤ ·) ∧ (∀ t ∈ c, -2147483648 ≤ t ∧ t ≤ 2147483648) ∧
    (∀ w : World, Calls Try.prog 43 #[.agg #[.int .i64 a0, .int .i64 a1, .int .i64 a2, .int .i64 a3, .int .i64 a4, .int .i64 a5, .int .i64 a6, .int .i64 a7, .int .i64 a8, .int .i64 a9, .int .i64 a10, .int .i64 a11, .int .i64 a12, .int .i64 a13, .int .i64 a14, .int .i64 a15, .int .i64 a16, .int .i64 a17, .int .i64 a18, .int .i64 a19, .int .i64 a20, .int .i64 a21, .int .i64 a22, .int .i64 a23], .int .i64 pt] w fun e' w' => e' = .returned (.agg #[.int .i64 q0, .int .i64 q1, .int .i64 q2, .int .i64 q3, .int .i64 q4, .int .i64 q5, .int .i64 q6, .int .i64 q7, .int .i64 q8, .int .i64 q9, .int .i64 q10, .int .i64 q11]) ∧ Below w.heap.size w w') ∧
    (∀ w : World, Calls Try.prog 42 #[.agg #[.int .i64 q0, .int .i64 q1, .int .i64 q2, .int .i64 q3, .int .i64 q4, .int .i64 q5, .int .i64 q6, .int .i64 q7, .int .i64 q8, .int .i64 q9, .int .i64 q10, .int .i64 q11]] w fun e' w' => e' = .returned (.agg #[.int .i64 b0, .int .i64 b1, .int .i64 b2, .int .i64 b3, .int .i64 b4, .int .i64 b5]) ∧ Below w.heap.size w w') ∧
    (∀ (near far : Int) (w : World), Calls Try.prog 41 #[.agg #[.int .i64 fx, .int .i64 fy, .int .i64 fz, .int .i64 dx, .int .i64 dy, .int .i64 dz, .int .i64 pt], .agg #[.int .i64 a0, .int .i64 a1, .int .i64 a2, .int .i64 a3, .int .i64 a4, .int .i64 a5, .int .i64 a6, .int .i64 a7, .int .i64 a8, .int .i64 a9, .int .i64 a10, .int .i64 a11, .int .i64 a12, .int .i64 a13, .int .i64 a14, .int .i64 a15, .int .i64 a16, .int .i64 a17, .int .i64 a18, .int .i64 a19, .int .i64 a20, .int .i64 a21, .int .i64 a22, .int .i64 a23], .int .i64 near, .int .i64 far] w fun e' w' => e' = .returned (testR fx fy fz dx dy dz n0 n1 n2 (first c (okB b0 b1 b2 b3 b4 b5 fx fy fz dx dy dz) near far)) ∧ Below w.heap.size w w') := by
  obtain ⟨p0, ep0⟩ : ∃ x, Pl.lerp a2 a14 pt = x := ⟨_, rfl⟩
  obtain ⟨p1, ep1⟩ : ∃ x, Pl.lerp a3 a15 pt = x := ⟨_, rfl⟩
  obtain ⟨p2, ep2⟩ : ∃ x, Pl.lerp a4 a16 pt = x := ⟨_, rfl⟩
  obtain ⟨p3, ep3⟩ : ∃ x, Pl.lerp a5 a17 pt = x := ⟨_, rfl⟩
  obtain ⟨p4, ep4⟩ : ∃ x, Pl.lerp a6 a18 pt = x := ⟨_, rfl⟩
  obtain ⟨p5, ep5⟩ : ∃ x, Pl.lerp a7 a19 pt = x := ⟨_, rfl⟩
  obtain ⟨p6, ep6⟩ : ∃ x, Pl.lerp a8 a20 pt = x := ⟨_, rfl⟩
  obtain ⟨p7, ep7⟩ : ∃ x, Pl.lerp a9 a21 pt = x := ⟨_, rfl⟩
  obtain ⟨p8, ep8⟩ : ∃ x, Pl.lerp a10 a22 pt = x := ⟨_, rfl⟩
  obtain ⟨rad, erad⟩ : ∃ x, Pl.lerp a11 a23 pt = x := ⟨_, rfl⟩
  have hM : ∀ w : World, Calls Try.prog 43 #[.agg #[.int .i64 a0, .int .i64 a1, .int .i64 a2, .int .i64 a3, .int .i64 a4, .int .i64 a5, .int .i64 a6, .int .i64 a7, .int .i64 a8, .int .i64 a9, .int .i64 a10, .int .i64 a11, .int .i64 a12, .int .i64 a13, .int .i64 a14, .int .i64 a15, .int .i64 a16, .int .i64 a17, .int .i64 a18, .int .i64 a19, .int .i64 a20, .int .i64 a21, .int .i64 a22, .int .i64 a23], .int .i64 pt] w fun e' w' => e' = .returned (.agg #[.int .i64 a0, .int .i64 a1, .int .i64 p0, .int .i64 p1, .int .i64 p2, .int .i64 p3, .int .i64 p4, .int .i64 p5, .int .i64 p6, .int .i64 p7, .int .i64 p8, .int .i64 rad]) ∧ Below w.heap.size w w' := fun w => by
    have h := moving_at a0 a1 a2 a3 a4 a5 a6 a7 a8 a9 a10 a11 a12 a13 a14 a15 a16 a17 a18 a19 a20 a21 a22 a23 pt w
    simp only [ep0, ep1, ep2, ep3, ep4, ep5, ep6, ep7, ep8, erad] at h
    exact h
  have hA := around_face a0 a1 p0 p1 p2 p3 p4 p5 p6 p7 p8 rad hk
  obtain ⟨b0, eb0⟩ : ∃ x, Pl.sub (min (min p0 p3) p6) 8192 = x := ⟨_, rfl⟩
  obtain ⟨b1, eb1⟩ : ∃ x, Pl.sub (min (min p1 p4) p7) 8192 = x := ⟨_, rfl⟩
  obtain ⟨b2, eb2⟩ : ∃ x, Pl.sub (min (min p2 p5) p8) 8192 = x := ⟨_, rfl⟩
  obtain ⟨b3, eb3⟩ : ∃ x, Pl.add (max (max p0 p3) p6) 8192 = x := ⟨_, rfl⟩
  obtain ⟨b4, eb4⟩ : ∃ x, Pl.add (max (max p1 p4) p7) 8192 = x := ⟨_, rfl⟩
  obtain ⟨b5, eb5⟩ : ∃ x, Pl.add (max (max p2 p5) p8) 8192 = x := ⟨_, rfl⟩
  simp only [eb0, eb1, eb2, eb3, eb4, eb5] at hA
  obtain ⟨e_x, he_x⟩ : ∃ x, Pl.sub p3 p0 = x := ⟨_, rfl⟩
  obtain ⟨e_y, he_y⟩ : ∃ x, Pl.sub p4 p1 = x := ⟨_, rfl⟩
  obtain ⟨e_z, he_z⟩ : ∃ x, Pl.sub p5 p2 = x := ⟨_, rfl⟩
  obtain ⟨g_x, hg_x⟩ : ∃ x, Pl.sub p6 p0 = x := ⟨_, rfl⟩
  obtain ⟨g_y, hg_y⟩ : ∃ x, Pl.sub p7 p1 = x := ⟨_, rfl⟩
  obtain ⟨g_z, hg_z⟩ : ∃ x, Pl.sub p8 p2 = x := ⟨_, rfl⟩
  obtain ⟨x_x, hx_x⟩ : ∃ x, Pl.sub (Pl.mul dy g_z) (Pl.mul dz g_y) = x := ⟨_, rfl⟩
  obtain ⟨x_y, hx_y⟩ : ∃ x, Pl.sub (Pl.mul dz g_x) (Pl.mul dx g_z) = x := ⟨_, rfl⟩
  obtain ⟨x_z, hx_z⟩ : ∃ x, Pl.sub (Pl.mul dx g_y) (Pl.mul dy g_x) = x := ⟨_, rfl⟩
  obtain ⟨Y, hY⟩ : ∃ x, Pl.add (Pl.add (Pl.add 0 (Pl.mul e_x x_x)) (Pl.mul e_y x_y)) (Pl.mul e_z x_z) = x := ⟨_, rfl⟩
  obtain ⟨q_x, hq_x⟩ : ∃ x, Pl.sub fx p0 = x := ⟨_, rfl⟩
  obtain ⟨q_y, hq_y⟩ : ∃ x, Pl.sub fy p1 = x := ⟨_, rfl⟩
  obtain ⟨q_z, hq_z⟩ : ∃ x, Pl.sub fz p2 = x := ⟨_, rfl⟩
  obtain ⟨z_x, hz_x⟩ : ∃ x, Pl.sub (Pl.mul q_y e_z) (Pl.mul q_z e_y) = x := ⟨_, rfl⟩
  obtain ⟨z_y, hz_y⟩ : ∃ x, Pl.sub (Pl.mul q_z e_x) (Pl.mul q_x e_z) = x := ⟨_, rfl⟩
  obtain ⟨z_z, hz_z⟩ : ∃ x, Pl.sub (Pl.mul q_x e_y) (Pl.mul q_y e_x) = x := ⟨_, rfl⟩
  obtain ⟨U, hU⟩ : ∃ x, Pl.div (Pl.add (Pl.add (Pl.add 0 (Pl.mul q_x x_x)) (Pl.mul q_y x_y)) (Pl.mul q_z x_z)) Y = x := ⟨_, rfl⟩
  obtain ⟨V, hV⟩ : ∃ x, Pl.div (Pl.add (Pl.add (Pl.add 0 (Pl.mul dx z_x)) (Pl.mul dy z_y)) (Pl.mul dz z_z)) Y = x := ⟨_, rfl⟩
  obtain ⟨T, hT⟩ : ∃ x, Pl.div (Pl.add (Pl.add (Pl.add 0 (Pl.mul g_x z_x)) (Pl.mul g_y z_y)) (Pl.mul g_z z_z)) Y = x := ⟨_, rfl⟩
  obtain ⟨m_x, hm_x⟩ : ∃ x, Pl.sub (Pl.mul e_y g_z) (Pl.mul e_z g_y) = x := ⟨_, rfl⟩
  obtain ⟨m_y, hm_y⟩ : ∃ x, Pl.sub (Pl.mul e_z g_x) (Pl.mul e_x g_z) = x := ⟨_, rfl⟩
  obtain ⟨m_z, hm_z⟩ : ∃ x, Pl.sub (Pl.mul e_x g_y) (Pl.mul e_y g_x) = x := ⟨_, rfl⟩
  have zt : -2147483648 ≤ T ∧ T ≤ 2147483648 := by rw [← hT]; exact ⟨div_lo _ _, div_hi _ _⟩
  by_cases hn : Y = 0 ∨ U < 0 ∨ V < 0 ∨ 65536 < Pl.add U V
  · refine ⟨_, _, _, _, _, _, _, _, _, _, _, _, _, _, _, _, _, _, [], fun _ => 0, fun _ => 0, fun _ => 0, .nil, (fun _ h => by cases h), hM, hA, fun near far w => ?_⟩
    refine test_face fx fy fz dx dy dz pt a0 a1 a2 a3 a4 a5 a6 a7 a8 a9 a10 a11 a12 a13 a14 a15 a16 a17 a18 a19 a20 a21 a22 a23 near far p0 p1 p2 p3 p4 p5 p6 p7 p8 rad 0 0 0 0 0 0 0 0 false ep0 ep1 ep2 ep3 ep4 ep5 ep6 ep7 ep8 erad (fun w => ?_) hk w
    have h := face_any near far a0 a1 p0 p1 p2 p3 p4 p5 p6 p7 p8 rad fx fy fz dx dy dz pt b0 b1 b2 b3 b4 b5 e_x e_y e_z g_x g_y g_z x_x x_y x_z Y q_x q_y q_z z_x z_y z_z U V T m_x m_y m_z _ _ _ hA _ he_x he_y he_z hg_x hg_y hg_z hx_x hx_y hx_z hY hq_x hq_y hq_z hz_x hz_y hz_z hU hV hT hm_x hm_y hm_z rfl rfl rfl rfl w
    unfold pick2 at h
    rw [if_pos (by rcases hn with h | h | h | h; exact .inl h; exact .inr (.inl h); exact .inr (.inr (.inl h)); exact .inr (.inr (.inr (.inl h))))] at h
    exact h
  refine ⟨_, _, _, _, _, _, _, _, _, _, _, _, _, _, _, _, _, _, [T], fun _ => nrm dx dy dz (un m_x m_y m_z m_x) (un m_x m_y m_z m_y) (un m_x m_y m_z m_z) (un m_x m_y m_z m_x), fun _ => nrm dx dy dz (un m_x m_y m_z m_x) (un m_x m_y m_z m_y) (un m_x m_y m_z m_z) (un m_x m_y m_z m_y), fun _ => nrm dx dy dz (un m_x m_y m_z m_x) (un m_x m_y m_z m_y) (un m_x m_y m_z m_z) (un m_x m_y m_z m_z), by simp, (fun t h => by simp at h; subst h; exact zt), hM, hA, fun near far w => ?_⟩
  cases s1 : (decide (near < T) && decide (T ≤ far) && okB b0 b1 b2 b3 b4 b5 fx fy fz dx dy dz T)
  · have hf : first [T] (okB b0 b1 b2 b3 b4 b5 fx fy fz dx dy dz) near far = none := by simp [first, shows, List.find?, s1]
    rw [hf]
    refine test_face fx fy fz dx dy dz pt a0 a1 a2 a3 a4 a5 a6 a7 a8 a9 a10 a11 a12 a13 a14 a15 a16 a17 a18 a19 a20 a21 a22 a23 near far p0 p1 p2 p3 p4 p5 p6 p7 p8 rad 0 0 0 0 0 0 0 0 false ep0 ep1 ep2 ep3 ep4 ep5 ep6 ep7 ep8 erad (fun w => ?_) hk w
    have h := face_any near far a0 a1 p0 p1 p2 p3 p4 p5 p6 p7 p8 rad fx fy fz dx dy dz pt b0 b1 b2 b3 b4 b5 e_x e_y e_z g_x g_y g_z x_x x_y x_z Y q_x q_y q_z z_x z_y z_z U V T m_x m_y m_z _ _ _ hA _ he_x he_y he_z hg_x hg_y hg_z hx_x hx_y hx_z hY hq_x hq_y hq_z hz_x hz_y hz_z hU hV hT hm_x hm_y hm_z rfl rfl rfl rfl w
    unfold pick2 at h
    rw [if_pos (.inr (.inr (.inr (.inr s1))))] at h
    exact h
  · have hf : first [T] (okB b0 b1 b2 b3 b4 b5 fx fy fz dx dy dz) near far = some T := by simp [first, shows, List.find?, s1]
    rw [hf]
    refine test_face fx fy fz dx dy dz pt a0 a1 a2 a3 a4 a5 a6 a7 a8 a9 a10 a11 a12 a13 a14 a15 a16 a17 a18 a19 a20 a21 a22 a23 near far p0 p1 p2 p3 p4 p5 p6 p7 p8 rad _ _ _ _ _ _ _ _ true ep0 ep1 ep2 ep3 ep4 ep5 ep6 ep7 ep8 erad (fun w => ?_) hk w
    have h := face_any near far a0 a1 p0 p1 p2 p3 p4 p5 p6 p7 p8 rad fx fy fz dx dy dz pt b0 b1 b2 b3 b4 b5 e_x e_y e_z g_x g_y g_z x_x x_y x_z Y q_x q_y q_z z_x z_y z_z U V T m_x m_y m_z _ _ _ hA _ he_x he_y he_z hg_x hg_y hg_z hx_x hx_y hx_z hY hq_x hq_y hq_z hz_x hz_y hz_z hU hV hT hm_x hm_y hm_z rfl rfl rfl rfl w
    unfold pick2 at h
    rw [if_neg (fun h9 => by rcases h9 with h9 | h9 | h9 | h9 | h9; exact hn (.inl h9); exact hn (.inr (.inl h9)); exact hn (.inr (.inr (.inl h9))); exact hn (.inr (.inr (.inr h9))); exact absurd (s1.symm.trans h9) (by decide))] at h
    exact h

theorem test_ex (fx fy fz dx dy dz pt a0 a1 a2 a3 a4 a5 a6 a7 a8 a9 a10 a11 a12 a13 a14 a15 a16 a17 a18 a19 a20 a21 a22 a23 : Int) : ∃ (q0 q1 q2 q3 q4 q5 q6 q7 q8 q9 q10 q11 : Int) (b0 b1 b2 b3 b4 b5 : Int) (c : List Int) (n0 n1 n2 : Int → Int), c.Pairwise (· ≤ ·) ∧ (∀ t ∈ c, -2147483648 ≤ t ∧ t ≤ 2147483648) ∧
    (∀ w : World, Calls Try.prog 43 #[.agg #[.int .i64 a0, .int .i64 a1, .int .i64 a2, .int .i64 a3, .int .i64 a4, .int .i64 a5, .int .i64 a6, .int .i64 a7, .int .i64 a8, .int .i64 a9, .int .i64 a10, .int .i64 a11, .int .i64 a12, .int .i64 a13, .int .i64 a14, .int .i64 a15, .int .i64 a16, .int .i64 a17, .int .i64 a18, .int .i64 a19, .int .i64 a20, .int .i64 a21, .int .i64 a22, .int .i64 a23], .int .i64 pt] w fun e' w' => e' = .returned (.agg #[.int .i64 q0, .int .i64 q1, .int .i64 q2, .int .i64 q3, .int .i64 q4, .int .i64 q5, .int .i64 q6, .int .i64 q7, .int .i64 q8, .int .i64 q9, .int .i64 q10, .int .i64 q11]) ∧ Below w.heap.size w w') ∧
    (∀ w : World, Calls Try.prog 42 #[.agg #[.int .i64 q0, .int .i64 q1, .int .i64 q2, .int .i64 q3, .int .i64 q4, .int .i64 q5, .int .i64 q6, .int .i64 q7, .int .i64 q8, .int .i64 q9, .int .i64 q10, .int .i64 q11]] w fun e' w' => e' = .returned (.agg #[.int .i64 b0, .int .i64 b1, .int .i64 b2, .int .i64 b3, .int .i64 b4, .int .i64 b5]) ∧ Below w.heap.size w w') ∧
    (∀ (near far : Int) (w : World), Calls Try.prog 41 #[.agg #[.int .i64 fx, .int .i64 fy, .int .i64 fz, .int .i64 dx, .int .i64 dy, .int .i64 dz, .int .i64 pt], .agg #[.int .i64 a0, .int .i64 a1, .int .i64 a2, .int .i64 a3, .int .i64 a4, .int .i64 a5, .int .i64 a6, .int .i64 a7, .int .i64 a8, .int .i64 a9, .int .i64 a10, .int .i64 a11, .int .i64 a12, .int .i64 a13, .int .i64 a14, .int .i64 a15, .int .i64 a16, .int .i64 a17, .int .i64 a18, .int .i64 a19, .int .i64 a20, .int .i64 a21, .int .i64 a22, .int .i64 a23], .int .i64 near, .int .i64 far] w fun e' w' => e' = .returned (testR fx fy fz dx dy dz n0 n1 n2 (first c (okB b0 b1 b2 b3 b4 b5 fx fy fz dx dy dz) near far)) ∧ Below w.heap.size w w') := by
  by_cases hk : a0 = 0
  · subst hk; exact test_ex_ball fx fy fz dx dy dz pt a1 a2 a3 a4 a5 a6 a7 a8 a9 a10 a11 a12 a13 a14 a15 a16 a17 a18 a19 a20 a21 a22 a23
  · exact test_ex_face fx fy fz dx dy dz pt a0 a1 a2 a3 a4 a5 a6 a7 a8 a9 a10 a11 a12 a13 a14 a15 a16 a17 a18 a19 a20 a21 a22 a23 hk

theorem root_one : Pl.root 65536 = 65536 := by
  unfold Pl.root
  rw [if_neg (by omega), Pl.held_in (n := 65536) (by omega) (by omega)]
  rw [show (65536 : Int).toNat * 65536 = 4294967296 from rfl, Pl.rt_uniq (n := 4294967296) (r := 65536) (by decide) (by decide)]
  rfl

theorem ex_test (w : World) : Calls Try.prog 41 #[.agg #[.int .i64 0, .int .i64 0, .int .i64 (-262144), .int .i64 0, .int .i64 0, .int .i64 65536, .int .i64 0], .agg #[.int .i64 0, .int .i64 0, .int .i64 0, .int .i64 0, .int .i64 0, .int .i64 0, .int .i64 0, .int .i64 0, .int .i64 0, .int .i64 0, .int .i64 0, .int .i64 65536, .int .i64 0, .int .i64 0, .int .i64 0, .int .i64 0, .int .i64 0, .int .i64 0, .int .i64 0, .int .i64 0, .int .i64 0, .int .i64 0, .int .i64 0, .int .i64 65536], .int .i64 0, .int .i64 2147483648] w fun e' w' => e' = .returned (.tuple #[.agg #[.int .i64 196608, .int .i64 0, .int .i64 0, .int .i64 0, .int .i64 (-65536), .int .i64 0, .int .i64 0, .int .i64 (-65536)], .bool true]) ∧ Below w.heap.size w w' := by
  have hA := around_ball 0 0 0 0 0 0 0 0 0 0 65536
  have egx : Pl.sub 0 0 = 0 := by decide +kernel
  have egz : Pl.sub (-262144) 0 = -262144 := by decide +kernel
  have eA : Pl.add (Pl.add (Pl.add 0 (Pl.mul 0 0)) (Pl.mul 0 0)) (Pl.mul 65536 65536) = 65536 := by decide +kernel
  have eB : Pl.add (Pl.add (Pl.add 0 (Pl.mul 0 0)) (Pl.mul 0 0)) (Pl.mul (-262144) 65536) = -262144 := by decide +kernel
  have eG : Pl.add (Pl.add (Pl.add 0 (Pl.mul 0 0)) (Pl.mul 0 0)) (Pl.mul (-262144) (-262144)) = 1048576 := by decide +kernel
  have eD : Pl.sub 1048576 (Pl.mul 65536 65536) = 983040 := by decide +kernel
  have eU : Pl.sub (Pl.mul (-262144) (-262144)) (Pl.mul 65536 983040) = 65536 := by decide +kernel
  have et1 : Pl.div (Pl.sub (-Pl.held (-262144)) 65536) 65536 = 196608 := by decide +kernel
  have el : Pl.lerp 0 0 0 = 0 := by decide +kernel
  have er : Pl.lerp 65536 65536 0 = 65536 := by decide +kernel
  have w0 : Pl.sub 0 (Pl.add 65536 8192) = -73728 := by decide +kernel
  have w1 : Pl.add 0 (Pl.add 65536 8192) = 73728 := by decide +kernel
  have x0 : Pl.add 0 (Pl.mul 0 196608) = 0 := by decide +kernel
  have x2 : Pl.add (-262144) (Pl.mul 65536 196608) = -65536 := by decide +kernel
  have u0 : Pl.sub 0 0 = 0 := by decide +kernel
  have u2 : Pl.sub (-65536) 0 = -65536 := by decide +kernel
  have hR := roots_some 0 0 (-262144) 0 0 65536 0 0 0 0 65536 0 0 (-262144) 65536 (-262144) 1048576 983040 65536 egx egx egz eA eB eG eD eU (by decide) (by decide)
  simp only [root_one, et1] at hR
  rw [w0, w1] at hA
  have hl : len3 0 0 (-65536) = 65536 := by
    show Pl.root (Pl.add (Pl.add (Pl.add 0 (Pl.mul 0 0)) (Pl.mul 0 0)) (Pl.mul (-65536) (-65536))) = 65536
    rw [show Pl.add (Pl.add (Pl.add 0 (Pl.mul 0 0)) (Pl.mul 0 0)) (Pl.mul (-65536) (-65536)) = 65536 by decide +kernel, root_one]
  have n0 : un 0 0 (-65536) 0 = 0 := by rw [un_some (by rw [hl]; decide), hl]; decide +kernel
  have n2 : un 0 0 (-65536) (-65536) = -65536 := by rw [un_some (by rw [hl]; decide), hl]; decide +kernel
  have hs : (decide ((0 : Int) < 196608) && decide ((196608 : Int) ≤ 2147483648) && has6 (-73728) (-73728) (-73728) 73728 73728 73728 (Pl.add 0 (Pl.mul 0 196608)) (Pl.add 0 (Pl.mul 0 196608)) (Pl.add (-262144) (Pl.mul 65536 196608))) = true := by rw [x0, x2]; decide +kernel
  have hd : decide (0 < Pl.add (Pl.add (Pl.add 0 (Pl.mul 0 0)) (Pl.mul 0 0)) (Pl.mul (-65536) 65536)) = false := by decide +kernel
  have hB := ball_first 0 2147483648 0 0 0 0 0 0 0 0 0 0 0 65536 0 0 (-262144) 0 0 65536 0 (-73728) (-73728) (-73728) 73728 73728 73728 196608 _ 0 0 (-65536) 0 0 (-65536) hR hA hs false (by rw [x0, u0]) (by rw [x0, u0]) (by rw [x2, u2]) n0 n0 n2 hd
  simp only [x0, x2, show ∀ x, fc false x = x from fun _ => rfl] at hB
  exact test_ball 0 0 (-262144) 0 0 65536 0 0 0 0 0 0 0 0 0 0 0 65536 0 0 0 0 0 0 0 0 0 0 0 65536 0 2147483648 0 0 0 0 0 0 0 0 0 65536 196608 0 0 0 (-65536) 0 0 (-65536) true el el el el el el el el el er hB w

set_option maxHeartbeats 2000000 in
set_option maxRecDepth 100000 in
theorem awake_any12  (w : World)  : Calls Try.prog 29 #[] w fun e' w' => e' = .returned (.bool true) ∧ Below w.heap.size w w' := by
  have hT := ex_test
  go_enter Try.func29, Try.ntmps29
  go_upto_region 2 with fail
  have hN := heap_alloc_last w (.cells #[.int .i64 0, .int .i64 0, .int .i64 0, .int .i64 0, .int .i64 0, .int .i64 0, .int .i64 0, .int .i64 0, .int .i64 0, .int .i64 0, .int .i64 0, .int .i64 65536] 89)
  have hbx := below_n1 w (.cells #[.int .i64 0, .int .i64 0, .int .i64 0, .int .i64 0, .int .i64 0, .int .i64 0, .int .i64 0, .int .i64 0, .int .i64 0, .int .i64 0, .int .i64 0, .int .i64 65536] 89)
  obtain ⟨y0, hy0⟩ : ∃ y, w.alloc (.cells #[.int .i64 0, .int .i64 0, .int .i64 0, .int .i64 0, .int .i64 0, .int .i64 0, .int .i64 0, .int .i64 0, .int .i64 0, .int .i64 0, .int .i64 0, .int .i64 65536] 89) = y := ⟨_, rfl⟩
  rw [hy0] at hN hbx ⊢
  clear hy0
  have HU0 := Lib.hid hbx
  have hr0_0 := hN
  clear hN hbx
  have c0_0 := cell_of_row _ _ 0 _ _ _ hr0_0
  have c0_1 := cell_of_row _ _ 1 _ _ _ hr0_0
  have c0_2 := cell_of_row _ _ 2 _ _ _ hr0_0
  have c0_3 := cell_of_row _ _ 3 _ _ _ hr0_0
  have c0_4 := cell_of_row _ _ 4 _ _ _ hr0_0
  have c0_5 := cell_of_row _ _ 5 _ _ _ hr0_0
  have c0_6 := cell_of_row _ _ 6 _ _ _ hr0_0
  have c0_7 := cell_of_row _ _ 7 _ _ _ hr0_0
  have c0_8 := cell_of_row _ _ 8 _ _ _ hr0_0
  have c0_9 := cell_of_row _ _ 9 _ _ _ hr0_0
  have c0_10 := cell_of_row _ _ 10 _ _ _ hr0_0
  have c0_11 := cell_of_row _ _ 11 _ _ _ hr0_0
  simp at c0_0 c0_1 c0_2 c0_3 c0_4 c0_5 c0_6 c0_7 c0_8 c0_9 c0_10 c0_11
  go_wp2_with fail
  refine (hT _).mono ?_
  rintro e y1 ⟨rfl, hb1⟩
  clear c0_0 c0_1 c0_2 c0_3 c0_4 c0_5 c0_6 c0_7 c0_8 c0_9 c0_10 c0_11
  have hr1_0 := (hb1.block _ (lt_heap hr0_0)).trans hr0_0
  have HU1 := Lib.hid (HU0.out.trans (hb1.mono HU0.out.size))
  clear hr0_0 HU0
  go_upto_region 3 with fail
  have hb2 := below_n1 y1 (.cells #[.int .i64 196608, .int .i64 0, .int .i64 0, .int .i64 0, .int .i64 (-65536), .int .i64 0, .int .i64 0, .int .i64 (-65536)] 104)
  have hN := heap_alloc_last y1 (.cells #[.int .i64 196608, .int .i64 0, .int .i64 0, .int .i64 0, .int .i64 (-65536), .int .i64 0, .int .i64 0, .int .i64 (-65536)] 104)
  obtain ⟨y2, hy2⟩ : ∃ y, y1.alloc (.cells #[.int .i64 196608, .int .i64 0, .int .i64 0, .int .i64 0, .int .i64 (-65536), .int .i64 0, .int .i64 0, .int .i64 (-65536)] 104) = y := ⟨_, rfl⟩
  have hs2 : y2.heap.size = y1.heap.size + 1 := by rw [← hy2]; simp
  rw [hy2] at hb2 hN ⊢
  clear hy2
  have hl2_0 := lt_heap hr1_0
  have hr2_0 := (hb2.block _ (lt_heap hr1_0)).trans hr1_0
  have HU2 := Lib.hid (HU1.out.trans (hb2.mono HU1.out.size))
  clear hr1_0 HU1
  have hr2_1 := hN
  clear hN
  have q1 : ∀ W, (Op.equalIn 10000 71 (V3 0 0 (-65536)) (V3 0 0 (-65536))).run Try.prog W = .ok true W := fun W => by rw [eq_avec]; simp
  have c1_0 := cell_of_row _ _ 0 _ _ _ hr2_1
  have c1_1 := cell_of_row _ _ 1 _ _ _ hr2_1
  have c1_2 := cell_of_row _ _ 2 _ _ _ hr2_1
  have c1_3 := cell_of_row _ _ 3 _ _ _ hr2_1
  have c1_4 := cell_of_row _ _ 4 _ _ _ hr2_1
  have c1_5 := cell_of_row _ _ 5 _ _ _ hr2_1
  have c1_6 := cell_of_row _ _ 6 _ _ _ hr2_1
  have c1_7 := cell_of_row _ _ 7 _ _ _ hr2_1
  simp at c1_0 c1_1 c1_2 c1_3 c1_4 c1_5 c1_6 c1_7
  go_wp2
  go_ret
  exact ⟨rfl, HU2.out⟩

end Go.Proofs.Ythlcfhnlkpobhaa.Yr
