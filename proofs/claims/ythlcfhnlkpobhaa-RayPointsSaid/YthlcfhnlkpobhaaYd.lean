/- Rays: where a ball, where a face is met. -/
import Derived.Test.YthlcfhnlkpobhaaYc
namespace Go.Proofs.Ythlcfhnlkpobhaa.Yr
open Go.RowKit Go.Proofs.Ythlcfhnlkpobhaa Go.Proofs.Ythlcfhnlkpobhaa.Wa Go.Proofs.Ythlcfhnlkpobhaa.Ve Go.Proofs.Ythlcfhnlkpobhaa.Au Go.Proofs.Ythlcfhnlkpobhaa.Bx
set_option linter.unusedVariables false
set_option linter.unusedSimpArgs false

/-- a normal that looks along is turned round -/
def fc (v : Bool) (x : Int) : Int := if v = true then Pl.sub 0 x else x

theorem idx_0 (a b : Int) (W : World) : (Instr.index 239 (.agg #[.int .i64 a, .int .i64 b]) (.int .i64 0)).run Try.prog W = .ok (.int .i64 a) W := by
  simp [Instr.index, go_sem]

theorem idx_1 (a b : Int) (W : World) : (Instr.index 239 (.agg #[.int .i64 a, .int .i64 b]) (.int .i64 1)).run Try.prog W = .ok (.int .i64 b) W := by
  simp [Instr.index, go_sem]

theorem hit_any (fx fy fz dx dy dz pt t nx ny nz : Int) (v : Bool) (ev : decide (0 < Pl.add (Pl.add (Pl.add 0 (Pl.mul nx dx)) (Pl.mul ny dy)) (Pl.mul nz dz)) = v) (w : World) : Calls Try.prog 147 #[.agg #[.int .i64 fx, .int .i64 fy, .int .i64 fz, .int .i64 dx, .int .i64 dy, .int .i64 dz, .int .i64 pt], .int .i64 t, .agg #[.int .i64 nx, .int .i64 ny, .int .i64 nz]] w fun e' w' => e' = .returned (.agg #[.int .i64 t, .int .i64 0, .int .i64 (Pl.add fx (Pl.mul dx t)), .int .i64 (Pl.add fy (Pl.mul dy t)), .int .i64 (Pl.add fz (Pl.mul dz t)), .int .i64 (fc v nx), .int .i64 (fc v ny), .int .i64 (fc v nz)]) ∧ Below w.heap.size w w' := by
  cases v
  · exact hit_kept fx fy fz dx dy dz pt t nx ny nz (of_decide_eq_false ev) w
  · exact hit_turned fx fy fz dx dy dz pt t nx ny nz (of_decide_eq_true ev) w

set_option maxHeartbeats 8000000 in
set_option maxRecDepth 100000 in
theorem ball_none (near far k0 k1 p0 p1 p2 p3 p4 p5 p6 p7 p8 rad fx fy fz dx dy dz pt b0 b1 b2 b3 b4 b5 : Int) (hR : ∀ w : World, Calls Try.prog 145 #[.agg #[.int .i64 fx, .int .i64 fy, .int .i64 fz, .int .i64 dx, .int .i64 dy, .int .i64 dz, .int .i64 pt], .agg #[.int .i64 p0, .int .i64 p1, .int .i64 p2], .int .i64 rad] w fun e' w' => e' = .returned (.tuple #[.agg #[.int .i64 0, .int .i64 0], .bool false]) ∧ Below w.heap.size w w') (hA : ∀ w : World, Calls Try.prog 42 #[.agg #[.int .i64 k0, .int .i64 k1, .int .i64 p0, .int .i64 p1, .int .i64 p2, .int .i64 p3, .int .i64 p4, .int .i64 p5, .int .i64 p6, .int .i64 p7, .int .i64 p8, .int .i64 rad]] w fun e' w' => e' = .returned (.agg #[.int .i64 b0, .int .i64 b1, .int .i64 b2, .int .i64 b3, .int .i64 b4, .int .i64 b5]) ∧ Below w.heap.size w w') (w : World)  : Calls Try.prog 92 #[.agg #[.int .i64 fx, .int .i64 fy, .int .i64 fz, .int .i64 dx, .int .i64 dy, .int .i64 dz, .int .i64 pt], .agg #[.int .i64 near, .int .i64 far, .int .i64 k0, .int .i64 k1, .int .i64 p0, .int .i64 p1, .int .i64 p2, .int .i64 p3, .int .i64 p4, .int .i64 p5, .int .i64 p6, .int .i64 p7, .int .i64 p8, .int .i64 rad]] w fun e' w' => e' = .returned (.tuple #[.agg #[.int .i64 0, .int .i64 0, .int .i64 0, .int .i64 0, .int .i64 0, .int .i64 0, .int .i64 0, .int .i64 0], .bool false]) ∧ Below w.heap.size w w' := by
  skip
  go_enter Try.func92, Try.ntmps92
  go_upto_region 1 with fail
  have hR := Au.rows3 w (.cells #[.int .i64 fx, .int .i64 fy, .int .i64 fz, .int .i64 dx, .int .i64 dy, .int .i64 dz, .int .i64 pt] 101) (.cells #[.int .i64 near, .int .i64 far, .int .i64 k0, .int .i64 k1, .int .i64 p0, .int .i64 p1, .int .i64 p2, .int .i64 p3, .int .i64 p4, .int .i64 p5, .int .i64 p6, .int .i64 p7, .int .i64 p8, .int .i64 rad] 191) (.cells #[.int .i64 0, .int .i64 0, .int .i64 0, .int .i64 0, .int .i64 0, .int .i64 0, .int .i64 0, .int .i64 0] 104)
  have HUx := below_n3 w (.cells #[.int .i64 fx, .int .i64 fy, .int .i64 fz, .int .i64 dx, .int .i64 dy, .int .i64 dz, .int .i64 pt] 101) (.cells #[.int .i64 near, .int .i64 far, .int .i64 k0, .int .i64 k1, .int .i64 p0, .int .i64 p1, .int .i64 p2, .int .i64 p3, .int .i64 p4, .int .i64 p5, .int .i64 p6, .int .i64 p7, .int .i64 p8, .int .i64 rad] 191) (.cells #[.int .i64 0, .int .i64 0, .int .i64 0, .int .i64 0, .int .i64 0, .int .i64 0, .int .i64 0, .int .i64 0] 104)
  obtain ⟨y0, hy0⟩ : ∃ y0, ((w.alloc (.cells #[.int .i64 fx, .int .i64 fy, .int .i64 fz, .int .i64 dx, .int .i64 dy, .int .i64 dz, .int .i64 pt] 101)).alloc (.cells #[.int .i64 near, .int .i64 far, .int .i64 k0, .int .i64 k1, .int .i64 p0, .int .i64 p1, .int .i64 p2, .int .i64 p3, .int .i64 p4, .int .i64 p5, .int .i64 p6, .int .i64 p7, .int .i64 p8, .int .i64 rad] 191)).alloc (.cells #[.int .i64 0, .int .i64 0, .int .i64 0, .int .i64 0, .int .i64 0, .int .i64 0, .int .i64 0, .int .i64 0] 104) = y0 := ⟨_, rfl⟩
  rw [hy0] at hR HUx ⊢
  clear hy0
  have HU0 := Lib.hid HUx
  clear HUx
  obtain ⟨hr0_0, hr0_1, hr0_2⟩ := hR
  have c0_0 := cell_of_row _ _ 0 _ _ _ hr0_0
  have c0_1 := cell_of_row _ _ 1 _ _ _ hr0_0
  have c0_2 := cell_of_row _ _ 2 _ _ _ hr0_0
  have c0_3 := cell_of_row _ _ 3 _ _ _ hr0_0
  have c0_4 := cell_of_row _ _ 4 _ _ _ hr0_0
  have c0_5 := cell_of_row _ _ 5 _ _ _ hr0_0
  have c0_6 := cell_of_row _ _ 6 _ _ _ hr0_0
  have c1_0 := cell_of_row _ _ 0 _ _ _ hr0_1
  have c1_1 := cell_of_row _ _ 1 _ _ _ hr0_1
  have c1_2 := cell_of_row _ _ 2 _ _ _ hr0_1
  have c1_3 := cell_of_row _ _ 3 _ _ _ hr0_1
  have c1_4 := cell_of_row _ _ 4 _ _ _ hr0_1
  have c1_5 := cell_of_row _ _ 5 _ _ _ hr0_1
  have c1_6 := cell_of_row _ _ 6 _ _ _ hr0_1
  have c1_7 := cell_of_row _ _ 7 _ _ _ hr0_1
  have c1_8 := cell_of_row _ _ 8 _ _ _ hr0_1
  have c1_9 := cell_of_row _ _ 9 _ _ _ hr0_1
  have c1_10 := cell_of_row _ _ 10 _ _ _ hr0_1
  have c1_11 := cell_of_row _ _ 11 _ _ _ hr0_1
  have c1_12 := cell_of_row _ _ 12 _ _ _ hr0_1
  have c1_13 := cell_of_row _ _ 13 _ _ _ hr0_1
  have c2_0 := cell_of_row _ _ 0 _ _ _ hr0_2
  have c2_1 := cell_of_row _ _ 1 _ _ _ hr0_2
  have c2_2 := cell_of_row _ _ 2 _ _ _ hr0_2
  have c2_3 := cell_of_row _ _ 3 _ _ _ hr0_2
  have c2_4 := cell_of_row _ _ 4 _ _ _ hr0_2
  have c2_5 := cell_of_row _ _ 5 _ _ _ hr0_2
  have c2_6 := cell_of_row _ _ 6 _ _ _ hr0_2
  have c2_7 := cell_of_row _ _ 7 _ _ _ hr0_2
  simp at c0_0 c0_1 c0_2 c0_3 c0_4 c0_5 c0_6 c1_0 c1_1 c1_2 c1_3 c1_4 c1_5 c1_6 c1_7 c1_8 c1_9 c1_10 c1_11 c1_12 c1_13 c2_0 c2_1 c2_2 c2_3 c2_4 c2_5 c2_6 c2_7
  go_upto_region 2 with fail
  clear c0_0 c0_1 c0_2 c0_3 c0_4 c0_5 c0_6 c1_0 c1_1 c1_2 c1_3 c1_4 c1_5 c1_6 c1_7 c1_8 c1_9 c1_10 c1_11 c1_12 c1_13 c2_0 c2_1 c2_2 c2_3 c2_4 c2_5 c2_6 c2_7
  have hb1 := below_n1 y0 (.cells #[.int .i64 p0, .int .i64 p1, .int .i64 p2] 71)
  have hN := heap_alloc_last y0 (.cells #[.int .i64 p0, .int .i64 p1, .int .i64 p2] 71)
  obtain ⟨y1, hy1⟩ : ∃ y, y0.alloc (.cells #[.int .i64 p0, .int .i64 p1, .int .i64 p2] 71) = y := ⟨_, rfl⟩
  have hs1 : y1.heap.size = y0.heap.size + 1 := by rw [← hy1]; simp
  rw [hy1] at hb1 hN ⊢
  clear hy1
  have hl1_0 := lt_heap hr0_0
  have hl1_1 := lt_heap hr0_1
  have hl1_2 := lt_heap hr0_2
  have hr1_0 := (hb1.block _ (lt_heap hr0_0)).trans hr0_0
  have hr1_1 := (hb1.block _ (lt_heap hr0_1)).trans hr0_1
  have hr1_2 := (hb1.block _ (lt_heap hr0_2)).trans hr0_2
  have HU1 := Lib.hid (HU0.out.trans (hb1.mono HU0.out.size))
  clear hr0_0 hr0_1 hr0_2 HU0
  have hr1_3 := hN
  clear hN
  have c0_0 := cell_of_row _ _ 0 _ _ _ hr1_0
  have c0_1 := cell_of_row _ _ 1 _ _ _ hr1_0
  have c0_2 := cell_of_row _ _ 2 _ _ _ hr1_0
  have c0_3 := cell_of_row _ _ 3 _ _ _ hr1_0
  have c0_4 := cell_of_row _ _ 4 _ _ _ hr1_0
  have c0_5 := cell_of_row _ _ 5 _ _ _ hr1_0
  have c0_6 := cell_of_row _ _ 6 _ _ _ hr1_0
  have c1_0 := cell_of_row _ _ 0 _ _ _ hr1_1
  have c1_1 := cell_of_row _ _ 1 _ _ _ hr1_1
  have c1_2 := cell_of_row _ _ 2 _ _ _ hr1_1
  have c1_3 := cell_of_row _ _ 3 _ _ _ hr1_1
  have c1_4 := cell_of_row _ _ 4 _ _ _ hr1_1
  have c1_5 := cell_of_row _ _ 5 _ _ _ hr1_1
  have c1_6 := cell_of_row _ _ 6 _ _ _ hr1_1
  have c1_7 := cell_of_row _ _ 7 _ _ _ hr1_1
  have c1_8 := cell_of_row _ _ 8 _ _ _ hr1_1
  have c1_9 := cell_of_row _ _ 9 _ _ _ hr1_1
  have c1_10 := cell_of_row _ _ 10 _ _ _ hr1_1
  have c1_11 := cell_of_row _ _ 11 _ _ _ hr1_1
  have c1_12 := cell_of_row _ _ 12 _ _ _ hr1_1
  have c1_13 := cell_of_row _ _ 13 _ _ _ hr1_1
  have c2_0 := cell_of_row _ _ 0 _ _ _ hr1_2
  have c2_1 := cell_of_row _ _ 1 _ _ _ hr1_2
  have c2_2 := cell_of_row _ _ 2 _ _ _ hr1_2
  have c2_3 := cell_of_row _ _ 3 _ _ _ hr1_2
  have c2_4 := cell_of_row _ _ 4 _ _ _ hr1_2
  have c2_5 := cell_of_row _ _ 5 _ _ _ hr1_2
  have c2_6 := cell_of_row _ _ 6 _ _ _ hr1_2
  have c2_7 := cell_of_row _ _ 7 _ _ _ hr1_2
  have c3_0 := cell_of_row _ _ 0 _ _ _ hr1_3
  have c3_1 := cell_of_row _ _ 1 _ _ _ hr1_3
  have c3_2 := cell_of_row _ _ 2 _ _ _ hr1_3
  simp at c0_0 c0_1 c0_2 c0_3 c0_4 c0_5 c0_6 c1_0 c1_1 c1_2 c1_3 c1_4 c1_5 c1_6 c1_7 c1_8 c1_9 c1_10 c1_11 c1_12 c1_13 c2_0 c2_1 c2_2 c2_3 c2_4 c2_5 c2_6 c2_7 c3_0 c3_1 c3_2
  go_wp2_with fail
  refine (hR _).mono ?_
  rintro e y2 ⟨rfl, hb2⟩
  clear c0_0 c0_1 c0_2 c0_3 c0_4 c0_5 c0_6 c1_0 c1_1 c1_2 c1_3 c1_4 c1_5 c1_6 c1_7 c1_8 c1_9 c1_10 c1_11 c1_12 c1_13 c2_0 c2_1 c2_2 c2_3 c2_4 c2_5 c2_6 c2_7 c3_0 c3_1 c3_2
  have hr2_0 := (hb2.block _ (lt_heap hr1_0)).trans hr1_0
  have hr2_1 := (hb2.block _ (lt_heap hr1_1)).trans hr1_1
  have hr2_2 := (hb2.block _ (lt_heap hr1_2)).trans hr1_2
  have hr2_3 := (hb2.block _ (lt_heap hr1_3)).trans hr1_3
  have HU2 := Lib.hid (HU1.out.trans (hb2.mono HU1.out.size))
  clear hr1_0 hr1_1 hr1_2 hr1_3 HU1
  go_upto_region 3 with fail
  have hb3 := below_n1 y2 (.cells #[.int .i64 0, .int .i64 0] 239)
  have hN := heap_alloc_last y2 (.cells #[.int .i64 0, .int .i64 0] 239)
  obtain ⟨y3, hy3⟩ : ∃ y, y2.alloc (.cells #[.int .i64 0, .int .i64 0] 239) = y := ⟨_, rfl⟩
  have hs3 : y3.heap.size = y2.heap.size + 1 := by rw [← hy3]; simp
  rw [hy3] at hb3 hN ⊢
  clear hy3
  have hl3_0 := lt_heap hr2_0
  have hl3_1 := lt_heap hr2_1
  have hl3_2 := lt_heap hr2_2
  have hl3_3 := lt_heap hr2_3
  have hr3_0 := (hb3.block _ (lt_heap hr2_0)).trans hr2_0
  have hr3_1 := (hb3.block _ (lt_heap hr2_1)).trans hr2_1
  have hr3_2 := (hb3.block _ (lt_heap hr2_2)).trans hr2_2
  have hr3_3 := (hb3.block _ (lt_heap hr2_3)).trans hr2_3
  have HU3 := Lib.hid (HU2.out.trans (hb3.mono HU2.out.size))
  clear hr2_0 hr2_1 hr2_2 hr2_3 HU2
  have hr3_4 := hN
  clear hN
  go_upto_region 4 with fail
  have hHr := Lib.hid hr3_2
  have hHi := Lib.hid (show (Try.prog.info? 104).map (·.size) = some (#[.int .i64 0, .int .i64 0, .int .i64 0, .int .i64 0, .int .i64 0, .int .i64 0, .int .i64 0, .int .i64 0] : Array Value).size by kernel_rfl)
  have hHz := Lib.hid (show (#[.int .i64 0, .int .i64 0, .int .i64 0, .int .i64 0, .int .i64 0, .int .i64 0, .int .i64 0, .int .i64 0] : Array Value).size = (#[.int .i64 0, .int .i64 0, .int .i64 0, .int .i64 0, .int .i64 0, .int .i64 0, .int .i64 0, .int .i64 0] : Array Value).size from rfl)
  have hHo := Lib.hid (show (#[.int .i64 0, .int .i64 0, .int .i64 0, .int .i64 0, .int .i64 0, .int .i64 0, .int .i64 0, .int .i64 0] : Array Value).all (·.oneCell') = true by simp [Value.oneCell'])
  go_wp2_with (first | (refine Au.wpList_store_row rfl 104 (.tmp 4) (.tmp 26) rfl y3 #[.int .i64 0, .int .i64 0, .int .i64 0, .int .i64 0, .int .i64 0, .int .i64 0, .int .i64 0, .int .i64 0] #[.int .i64 0, .int .i64 0, .int .i64 0, .int .i64 0, .int .i64 0, .int .i64 0, .int .i64 0, .int .i64 0] (w.heap.size + 1 + 1) 104 hHr.out rfl rfl hHi.out hHz.out hHo.out ?_))
  clear hHr hHi hHz hHo
  have hN := setRow_heap _ (w.heap.size + 1 + 1) _ #[.int .i64 0, .int .i64 0, .int .i64 0, .int .i64 0, .int .i64 0, .int .i64 0, .int .i64 0, .int .i64 0] _ _ hr3_2
  have hsz := HU3.out.size
  have HUx := below_setRow (g := w.heap.size + 1 + 1) HU3.out (by first | omega | (simp at *; omega)) #[.int .i64 0, .int .i64 0, .int .i64 0, .int .i64 0, .int .i64 0, .int .i64 0, .int .i64 0, .int .i64 0]
  have hO : ∀ kk, kk ≠ w.heap.size + 1 + 1 → (y3.setRow (w.heap.size + 1 + 1) #[.int .i64 0, .int .i64 0, .int .i64 0, .int .i64 0, .int .i64 0, .int .i64 0, .int .i64 0, .int .i64 0]).heap[kk]? = y3.heap[kk]? := fun kk hk => setRow_other _ _ _ _ hk
  obtain ⟨y4, hy4⟩ : ∃ y, y3.setRow (w.heap.size + 1 + 1) #[.int .i64 0, .int .i64 0, .int .i64 0, .int .i64 0, .int .i64 0, .int .i64 0, .int .i64 0, .int .i64 0] = y := ⟨_, rfl⟩
  rw [hy4] at hN HUx hO ⊢
  clear hy4 hsz
  have HU4 := Lib.hid HUx
  clear HUx
  have hr4_0 := (hO _ (by omega)).trans hr3_0
  have hr4_1 := (hO _ (by omega)).trans hr3_1
  have hr4_2 := hN
  have hr4_3 := (hO _ (by omega)).trans hr3_3
  have hr4_4 := (hO _ (by omega)).trans hr3_4
  clear hN hO
  clear hr3_0 hr3_1 hr3_2 hr3_3 hr3_4 HU3
  have c2_0 := cell_of_row _ _ 0 _ _ _ hr4_2
  have c2_1 := cell_of_row _ _ 1 _ _ _ hr4_2
  have c2_2 := cell_of_row _ _ 2 _ _ _ hr4_2
  have c2_3 := cell_of_row _ _ 3 _ _ _ hr4_2
  have c2_4 := cell_of_row _ _ 4 _ _ _ hr4_2
  have c2_5 := cell_of_row _ _ 5 _ _ _ hr4_2
  have c2_6 := cell_of_row _ _ 6 _ _ _ hr4_2
  have c2_7 := cell_of_row _ _ 7 _ _ _ hr4_2
  simp at c2_0 c2_1 c2_2 c2_3 c2_4 c2_5 c2_6 c2_7
  go_wp2
  exact bodyPost_ret (v := .tuple #[.agg #[.int .i64 0, .int .i64 0, .int .i64 0, .int .i64 0, .int .i64 0, .int .i64 0, .int .i64 0, .int .i64 0], .bool false]) (by simp [results, Try.results92, go_sem, c2_0, c2_1, c2_2, c2_3, c2_4, c2_5, c2_6, c2_7]) rfl ⟨rfl, HU4.out⟩

set_option maxHeartbeats 8000000 in
set_option maxRecDepth 100000 in
theorem ball_first (near far k0 k1 p0 p1 p2 p3 p4 p5 p6 p7 p8 rad fx fy fz dx dy dz pt b0 b1 b2 b3 b4 b5 t1 t2 ux uy uz nx ny nz : Int) (hR : ∀ w : World, Calls Try.prog 145 #[.agg #[.int .i64 fx, .int .i64 fy, .int .i64 fz, .int .i64 dx, .int .i64 dy, .int .i64 dz, .int .i64 pt], .agg #[.int .i64 p0, .int .i64 p1, .int .i64 p2], .int .i64 rad] w fun e' w' => e' = .returned (.tuple #[.agg #[.int .i64 t1, .int .i64 t2], .bool true]) ∧ Below w.heap.size w w') (hA : ∀ w : World, Calls Try.prog 42 #[.agg #[.int .i64 k0, .int .i64 k1, .int .i64 p0, .int .i64 p1, .int .i64 p2, .int .i64 p3, .int .i64 p4, .int .i64 p5, .int .i64 p6, .int .i64 p7, .int .i64 p8, .int .i64 rad]] w fun e' w' => e' = .returned (.agg #[.int .i64 b0, .int .i64 b1, .int .i64 b2, .int .i64 b3, .int .i64 b4, .int .i64 b5]) ∧ Below w.heap.size w w') (h1 : (decide (near < t1) && decide (t1 ≤ far) && has6 b0 b1 b2 b3 b4 b5 (Pl.add fx (Pl.mul dx t1)) (Pl.add fy (Pl.mul dy t1)) (Pl.add fz (Pl.mul dz t1))) = true) (v : Bool) (eux : Pl.sub (Pl.add fx (Pl.mul dx t1)) p0 = ux) (euy : Pl.sub (Pl.add fy (Pl.mul dy t1)) p1 = uy) (euz : Pl.sub (Pl.add fz (Pl.mul dz t1)) p2 = uz) (enx : un ux uy uz ux = nx) (eny : un ux uy uz uy = ny) (enz : un ux uy uz uz = nz) (ev : decide (0 < Pl.add (Pl.add (Pl.add 0 (Pl.mul nx dx)) (Pl.mul ny dy)) (Pl.mul nz dz)) = v) (w : World)  : Calls Try.prog 92 #[.agg #[.int .i64 fx, .int .i64 fy, .int .i64 fz, .int .i64 dx, .int .i64 dy, .int .i64 dz, .int .i64 pt], .agg #[.int .i64 near, .int .i64 far, .int .i64 k0, .int .i64 k1, .int .i64 p0, .int .i64 p1, .int .i64 p2, .int .i64 p3, .int .i64 p4, .int .i64 p5, .int .i64 p6, .int .i64 p7, .int .i64 p8, .int .i64 rad]] w fun e' w' => e' = .returned (.tuple #[.agg #[.int .i64 t1, .int .i64 0, .int .i64 (Pl.add fx (Pl.mul dx t1)), .int .i64 (Pl.add fy (Pl.mul dy t1)), .int .i64 (Pl.add fz (Pl.mul dz t1)), .int .i64 (fc v nx), .int .i64 (fc v ny), .int .i64 (fc v nz)], .bool true]) ∧ Below w.heap.size w w' := by
  have Hh1 := Lib.hid h1
  clear h1
  go_enter Try.func92, Try.ntmps92
  go_upto_region 1 with fail
  have hR := Au.rows3 w (.cells #[.int .i64 fx, .int .i64 fy, .int .i64 fz, .int .i64 dx, .int .i64 dy, .int .i64 dz, .int .i64 pt] 101) (.cells #[.int .i64 near, .int .i64 far, .int .i64 k0, .int .i64 k1, .int .i64 p0, .int .i64 p1, .int .i64 p2, .int .i64 p3, .int .i64 p4, .int .i64 p5, .int .i64 p6, .int .i64 p7, .int .i64 p8, .int .i64 rad] 191) (.cells #[.int .i64 0, .int .i64 0, .int .i64 0, .int .i64 0, .int .i64 0, .int .i64 0, .int .i64 0, .int .i64 0] 104)
  have HUx := below_n3 w (.cells #[.int .i64 fx, .int .i64 fy, .int .i64 fz, .int .i64 dx, .int .i64 dy, .int .i64 dz, .int .i64 pt] 101) (.cells #[.int .i64 near, .int .i64 far, .int .i64 k0, .int .i64 k1, .int .i64 p0, .int .i64 p1, .int .i64 p2, .int .i64 p3, .int .i64 p4, .int .i64 p5, .int .i64 p6, .int .i64 p7, .int .i64 p8, .int .i64 rad] 191) (.cells #[.int .i64 0, .int .i64 0, .int .i64 0, .int .i64 0, .int .i64 0, .int .i64 0, .int .i64 0, .int .i64 0] 104)
  obtain ⟨y0, hy0⟩ : ∃ y0, ((w.alloc (.cells #[.int .i64 fx, .int .i64 fy, .int .i64 fz, .int .i64 dx, .int .i64 dy, .int .i64 dz, .int .i64 pt] 101)).alloc (.cells #[.int .i64 near, .int .i64 far, .int .i64 k0, .int .i64 k1, .int .i64 p0, .int .i64 p1, .int .i64 p2, .int .i64 p3, .int .i64 p4, .int .i64 p5, .int .i64 p6, .int .i64 p7, .int .i64 p8, .int .i64 rad] 191)).alloc (.cells #[.int .i64 0, .int .i64 0, .int .i64 0, .int .i64 0, .int .i64 0, .int .i64 0, .int .i64 0, .int .i64 0] 104) = y0 := ⟨_, rfl⟩
  rw [hy0] at hR HUx ⊢
  clear hy0
  have HU0 := Lib.hid HUx
  clear HUx
  obtain ⟨hr0_0, hr0_1, hr0_2⟩ := hR
  have c0_0 := cell_of_row _ _ 0 _ _ _ hr0_0
  have c0_1 := cell_of_row _ _ 1 _ _ _ hr0_0
  have c0_2 := cell_of_row _ _ 2 _ _ _ hr0_0
  have c0_3 := cell_of_row _ _ 3 _ _ _ hr0_0
  have c0_4 := cell_of_row _ _ 4 _ _ _ hr0_0
  have c0_5 := cell_of_row _ _ 5 _ _ _ hr0_0
  have c0_6 := cell_of_row _ _ 6 _ _ _ hr0_0
  have c1_0 := cell_of_row _ _ 0 _ _ _ hr0_1
  have c1_1 := cell_of_row _ _ 1 _ _ _ hr0_1
  have c1_2 := cell_of_row _ _ 2 _ _ _ hr0_1
  have c1_3 := cell_of_row _ _ 3 _ _ _ hr0_1
  have c1_4 := cell_of_row _ _ 4 _ _ _ hr0_1
  have c1_5 := cell_of_row _ _ 5 _ _ _ hr0_1
  have c1_6 := cell_of_row _ _ 6 _ _ _ hr0_1
  have c1_7 := cell_of_row _ _ 7 _ _ _ hr0_1
  have c1_8 := cell_of_row _ _ 8 _ _ _ hr0_1
  have c1_9 := cell_of_row _ _ 9 _ _ _ hr0_1
  have c1_10 := cell_of_row _ _ 10 _ _ _ hr0_1
  have c1_11 := cell_of_row _ _ 11 _ _ _ hr0_1
  have c1_12 := cell_of_row _ _ 12 _ _ _ hr0_1
  have c1_13 := cell_of_row _ _ 13 _ _ _ hr0_1
  have c2_0 := cell_of_row _ _ 0 _ _ _ hr0_2
  have c2_1 := cell_of_row _ _ 1 _ _ _ hr0_2
  have c2_2 := cell_of_row _ _ 2 _ _ _ hr0_2
  have c2_3 := cell_of_row _ _ 3 _ _ _ hr0_2
  have c2_4 := cell_of_row _ _ 4 _ _ _ hr0_2
  have c2_5 := cell_of_row _ _ 5 _ _ _ hr0_2
  have c2_6 := cell_of_row _ _ 6 _ _ _ hr0_2
  have c2_7 := cell_of_row _ _ 7 _ _ _ hr0_2
  simp at c0_0 c0_1 c0_2 c0_3 c0_4 c0_5 c0_6 c1_0 c1_1 c1_2 c1_3 c1_4 c1_5 c1_6 c1_7 c1_8 c1_9 c1_10 c1_11 c1_12 c1_13 c2_0 c2_1 c2_2 c2_3 c2_4 c2_5 c2_6 c2_7
  go_upto_region 2 with fail
  clear c0_0 c0_1 c0_2 c0_3 c0_4 c0_5 c0_6 c1_0 c1_1 c1_2 c1_3 c1_4 c1_5 c1_6 c1_7 c1_8 c1_9 c1_10 c1_11 c1_12 c1_13 c2_0 c2_1 c2_2 c2_3 c2_4 c2_5 c2_6 c2_7
  have hb1 := below_n1 y0 (.cells #[.int .i64 p0, .int .i64 p1, .int .i64 p2] 71)
  have hN := heap_alloc_last y0 (.cells #[.int .i64 p0, .int .i64 p1, .int .i64 p2] 71)
  obtain ⟨y1, hy1⟩ : ∃ y, y0.alloc (.cells #[.int .i64 p0, .int .i64 p1, .int .i64 p2] 71) = y := ⟨_, rfl⟩
  have hs1 : y1.heap.size = y0.heap.size + 1 := by rw [← hy1]; simp
  rw [hy1] at hb1 hN ⊢
  clear hy1
  have hl1_0 := lt_heap hr0_0
  have hl1_1 := lt_heap hr0_1
  have hl1_2 := lt_heap hr0_2
  have hr1_0 := (hb1.block _ (lt_heap hr0_0)).trans hr0_0
  have hr1_1 := (hb1.block _ (lt_heap hr0_1)).trans hr0_1
  have hr1_2 := (hb1.block _ (lt_heap hr0_2)).trans hr0_2
  have HU1 := Lib.hid (HU0.out.trans (hb1.mono HU0.out.size))
  clear hr0_0 hr0_1 hr0_2 HU0
  have hr1_3 := hN
  clear hN
  have c0_0 := cell_of_row _ _ 0 _ _ _ hr1_0
  have c0_1 := cell_of_row _ _ 1 _ _ _ hr1_0
  have c0_2 := cell_of_row _ _ 2 _ _ _ hr1_0
  have c0_3 := cell_of_row _ _ 3 _ _ _ hr1_0
  have c0_4 := cell_of_row _ _ 4 _ _ _ hr1_0
  have c0_5 := cell_of_row _ _ 5 _ _ _ hr1_0
  have c0_6 := cell_of_row _ _ 6 _ _ _ hr1_0
  have c1_0 := cell_of_row _ _ 0 _ _ _ hr1_1
  have c1_1 := cell_of_row _ _ 1 _ _ _ hr1_1
  have c1_2 := cell_of_row _ _ 2 _ _ _ hr1_1
  have c1_3 := cell_of_row _ _ 3 _ _ _ hr1_1
  have c1_4 := cell_of_row _ _ 4 _ _ _ hr1_1
  have c1_5 := cell_of_row _ _ 5 _ _ _ hr1_1
  have c1_6 := cell_of_row _ _ 6 _ _ _ hr1_1
  have c1_7 := cell_of_row _ _ 7 _ _ _ hr1_1
  have c1_8 := cell_of_row _ _ 8 _ _ _ hr1_1
  have c1_9 := cell_of_row _ _ 9 _ _ _ hr1_1
  have c1_10 := cell_of_row _ _ 10 _ _ _ hr1_1
  have c1_11 := cell_of_row _ _ 11 _ _ _ hr1_1
  have c1_12 := cell_of_row _ _ 12 _ _ _ hr1_1
  have c1_13 := cell_of_row _ _ 13 _ _ _ hr1_1
  have c2_0 := cell_of_row _ _ 0 _ _ _ hr1_2
  have c2_1 := cell_of_row _ _ 1 _ _ _ hr1_2
  have c2_2 := cell_of_row _ _ 2 _ _ _ hr1_2
  have c2_3 := cell_of_row _ _ 3 _ _ _ hr1_2
  have c2_4 := cell_of_row _ _ 4 _ _ _ hr1_2
  have c2_5 := cell_of_row _ _ 5 _ _ _ hr1_2
  have c2_6 := cell_of_row _ _ 6 _ _ _ hr1_2
  have c2_7 := cell_of_row _ _ 7 _ _ _ hr1_2
  have c3_0 := cell_of_row _ _ 0 _ _ _ hr1_3
  have c3_1 := cell_of_row _ _ 1 _ _ _ hr1_3
  have c3_2 := cell_of_row _ _ 2 _ _ _ hr1_3
  simp at c0_0 c0_1 c0_2 c0_3 c0_4 c0_5 c0_6 c1_0 c1_1 c1_2 c1_3 c1_4 c1_5 c1_6 c1_7 c1_8 c1_9 c1_10 c1_11 c1_12 c1_13 c2_0 c2_1 c2_2 c2_3 c2_4 c2_5 c2_6 c2_7 c3_0 c3_1 c3_2
  go_wp2_with fail
  refine (hR _).mono ?_
  rintro e y2 ⟨rfl, hb2⟩
  clear c0_0 c0_1 c0_2 c0_3 c0_4 c0_5 c0_6 c1_0 c1_1 c1_2 c1_3 c1_4 c1_5 c1_6 c1_7 c1_8 c1_9 c1_10 c1_11 c1_12 c1_13 c2_0 c2_1 c2_2 c2_3 c2_4 c2_5 c2_6 c2_7 c3_0 c3_1 c3_2
  have hr2_0 := (hb2.block _ (lt_heap hr1_0)).trans hr1_0
  have hr2_1 := (hb2.block _ (lt_heap hr1_1)).trans hr1_1
  have hr2_2 := (hb2.block _ (lt_heap hr1_2)).trans hr1_2
  have hr2_3 := (hb2.block _ (lt_heap hr1_3)).trans hr1_3
  have HU2 := Lib.hid (HU1.out.trans (hb2.mono HU1.out.size))
  clear hr1_0 hr1_1 hr1_2 hr1_3 HU1
  go_upto_region 3 with fail
  have hb3 := below_n1 y2 (.cells #[.int .i64 t1, .int .i64 t2] 239)
  have hN := heap_alloc_last y2 (.cells #[.int .i64 t1, .int .i64 t2] 239)
  obtain ⟨y3, hy3⟩ : ∃ y, y2.alloc (.cells #[.int .i64 t1, .int .i64 t2] 239) = y := ⟨_, rfl⟩
  have hs3 : y3.heap.size = y2.heap.size + 1 := by rw [← hy3]; simp
  rw [hy3] at hb3 hN ⊢
  clear hy3
  have hl3_0 := lt_heap hr2_0
  have hl3_1 := lt_heap hr2_1
  have hl3_2 := lt_heap hr2_2
  have hl3_3 := lt_heap hr2_3
  have hr3_0 := (hb3.block _ (lt_heap hr2_0)).trans hr2_0
  have hr3_1 := (hb3.block _ (lt_heap hr2_1)).trans hr2_1
  have hr3_2 := (hb3.block _ (lt_heap hr2_2)).trans hr2_2
  have hr3_3 := (hb3.block _ (lt_heap hr2_3)).trans hr2_3
  have HU3 := Lib.hid (HU2.out.trans (hb3.mono HU2.out.size))
  clear hr2_0 hr2_1 hr2_2 hr2_3 HU2
  have hr3_4 := hN
  clear hN
  have hx0 := idx_0
  have hx1 := idx_1
  have c4_0 := cell_of_row _ _ 0 _ _ _ hr3_4
  have c4_1 := cell_of_row _ _ 1 _ _ _ hr3_4
  simp at c4_0 c4_1
  go_wp2_with fail
  clear c4_0 c4_1
  refine wp_loop_rounds 3 ?_
  rw [rounds_succ]
  have c0_0 := cell_of_row _ _ 0 _ _ _ hr3_0
  have c0_1 := cell_of_row _ _ 1 _ _ _ hr3_0
  have c0_2 := cell_of_row _ _ 2 _ _ _ hr3_0
  have c0_3 := cell_of_row _ _ 3 _ _ _ hr3_0
  have c0_4 := cell_of_row _ _ 4 _ _ _ hr3_0
  have c0_5 := cell_of_row _ _ 5 _ _ _ hr3_0
  have c0_6 := cell_of_row _ _ 6 _ _ _ hr3_0
  have c1_0 := cell_of_row _ _ 0 _ _ _ hr3_1
  have c1_1 := cell_of_row _ _ 1 _ _ _ hr3_1
  have c1_2 := cell_of_row _ _ 2 _ _ _ hr3_1
  have c1_3 := cell_of_row _ _ 3 _ _ _ hr3_1
  have c1_4 := cell_of_row _ _ 4 _ _ _ hr3_1
  have c1_5 := cell_of_row _ _ 5 _ _ _ hr3_1
  have c1_6 := cell_of_row _ _ 6 _ _ _ hr3_1
  have c1_7 := cell_of_row _ _ 7 _ _ _ hr3_1
  have c1_8 := cell_of_row _ _ 8 _ _ _ hr3_1
  have c1_9 := cell_of_row _ _ 9 _ _ _ hr3_1
  have c1_10 := cell_of_row _ _ 10 _ _ _ hr3_1
  have c1_11 := cell_of_row _ _ 11 _ _ _ hr3_1
  have c1_12 := cell_of_row _ _ 12 _ _ _ hr3_1
  have c1_13 := cell_of_row _ _ 13 _ _ _ hr3_1
  simp at c0_0 c0_1 c0_2 c0_3 c0_4 c0_5 c0_6 c1_0 c1_1 c1_2 c1_3 c1_4 c1_5 c1_6 c1_7 c1_8 c1_9 c1_10 c1_11 c1_12 c1_13
  go_wp2_with fail
  refine (shows_any near far k0 k1 p0 p1 p2 p3 p4 p5 p6 p7 p8 rad fx fy fz dx dy dz pt b0 b1 b2 b3 b4 b5 t1 hA _).mono ?_
  rintro e y4 ⟨rfl, hb4⟩
  clear c0_0 c0_1 c0_2 c0_3 c0_4 c0_5 c0_6 c1_0 c1_1 c1_2 c1_3 c1_4 c1_5 c1_6 c1_7 c1_8 c1_9 c1_10 c1_11 c1_12 c1_13
  have hr4_0 := (hb4.block _ (lt_heap hr3_0)).trans hr3_0
  have hr4_1 := (hb4.block _ (lt_heap hr3_1)).trans hr3_1
  have hr4_2 := (hb4.block _ (lt_heap hr3_2)).trans hr3_2
  have hr4_3 := (hb4.block _ (lt_heap hr3_3)).trans hr3_3
  have hr4_4 := (hb4.block _ (lt_heap hr3_4)).trans hr3_4
  have HU4 := Lib.hid (HU3.out.trans (hb4.mono HU3.out.size))
  clear hr3_0 hr3_1 hr3_2 hr3_3 hr3_4 HU3
  rw [Hh1.out]
  go_upto_region 9 with fail
  refine wp_region_held_drew (S := fun y => y.heap[w.heap.size]? = some (.cells #[.int .i64 fx, .int .i64 fy, .int .i64 fz, .int .i64 dx, .int .i64 dy, .int .i64 dz, .int .i64 pt] 101 (0, 0)) ∧ y.heap[y0.heap.size]? = some (.cells #[.int .i64 p0, .int .i64 p1, .int .i64 p2] 71 (0, 0))) (by kernel_rfl) (⟨hr4_0, hr4_3⟩) (fun hS0 => ?_)
  obtain ⟨y5, hy5⟩ : ∃ y, y4.drew = y := ⟨_, rfl⟩
  have HU5 := Lib.hid (show Below w.heap.size w y5 by rw [← hy5]; exact HU4.out.drew)
  have hr5_0 : y5.heap[w.heap.size]? = some (.cells #[.int .i64 fx, .int .i64 fy, .int .i64 fz, .int .i64 dx, .int .i64 dy, .int .i64 dz, .int .i64 pt] 101 (0, 0)) := by rw [← hy5]; exact hr4_0
  have hr5_1 : y5.heap[w.heap.size + 1]? = some (.cells #[.int .i64 near, .int .i64 far, .int .i64 k0, .int .i64 k1, .int .i64 p0, .int .i64 p1, .int .i64 p2, .int .i64 p3, .int .i64 p4, .int .i64 p5, .int .i64 p6, .int .i64 p7, .int .i64 p8, .int .i64 rad] 191 (0, 0)) := by rw [← hy5]; exact hr4_1
  have hr5_2 : y5.heap[w.heap.size + 1 + 1]? = some (.cells #[.int .i64 0, .int .i64 0, .int .i64 0, .int .i64 0, .int .i64 0, .int .i64 0, .int .i64 0, .int .i64 0] 104 (0, 0)) := by rw [← hy5]; exact hr4_2
  have hr5_3 : y5.heap[y0.heap.size]? = some (.cells #[.int .i64 p0, .int .i64 p1, .int .i64 p2] 71 (0, 0)) := by rw [← hy5]; exact hr4_3
  have hr5_4 : y5.heap[y2.heap.size]? = some (.cells #[.int .i64 t1, .int .i64 t2] 239 (0, 0)) := by rw [← hy5]; exact hr4_4
  rw [hy5] at hS0 ⊢
  clear hy5
  refine wpAnyH_take (i := 0) (v := ?_) rfl (by kernel_rfl) (by kernel_rfl) (by kernel_rfl) (fun _ _ _ h => h) (Or.inl ⟨by kernel_rfl, by (intro wz hSz; have c0_0 := cell_of_row _ _ 0 _ _ _ hSz.1; have c0_1 := cell_of_row _ _ 1 _ _ _ hSz.1; have c0_2 := cell_of_row _ _ 2 _ _ _ hSz.1; have c0_3 := cell_of_row _ _ 3 _ _ _ hSz.1; have c0_4 := cell_of_row _ _ 4 _ _ _ hSz.1; have c0_5 := cell_of_row _ _ 5 _ _ _ hSz.1; have c0_6 := cell_of_row _ _ 6 _ _ _ hSz.1; have c3_0 := cell_of_row _ _ 0 _ _ _ hSz.2; have c3_1 := cell_of_row _ _ 1 _ _ _ hSz.2; have c3_2 := cell_of_row _ _ 2 _ _ _ hSz.2; simp at c0_0 c0_1 c0_2 c0_3 c0_4 c0_5 c0_6 c3_0 c3_1 c3_2; go_simp; try with_reducible rfl)⟩) hS0 ?_
  go_simp
  refine wpAnyH_take (i := 1) (v := ?_) rfl (by kernel_rfl) (by kernel_rfl) (by kernel_rfl) (fun _ _ _ h => h) (Or.inl ⟨by kernel_rfl, by (intro wz hSz; go_simp; try with_reducible rfl)⟩) hS0 ?_
  go_simp
  refine wpAnyH_take (i := 2) (v := ?_) rfl (by kernel_rfl) (by kernel_rfl) (by kernel_rfl) (fun _ _ _ h => h) (Or.inl ⟨by kernel_rfl, by (intro wz hSz; have c0_0 := cell_of_row _ _ 0 _ _ _ hSz.1; have c0_1 := cell_of_row _ _ 1 _ _ _ hSz.1; have c0_2 := cell_of_row _ _ 2 _ _ _ hSz.1; have c0_3 := cell_of_row _ _ 3 _ _ _ hSz.1; have c0_4 := cell_of_row _ _ 4 _ _ _ hSz.1; have c0_5 := cell_of_row _ _ 5 _ _ _ hSz.1; have c0_6 := cell_of_row _ _ 6 _ _ _ hSz.1; have c3_0 := cell_of_row _ _ 0 _ _ _ hSz.2; have c3_1 := cell_of_row _ _ 1 _ _ _ hSz.2; have c3_2 := cell_of_row _ _ 2 _ _ _ hSz.2; simp at c0_0 c0_1 c0_2 c0_3 c0_4 c0_5 c0_6 c3_0 c3_1 c3_2; go_simp; try with_reducible rfl)⟩) hS0 ?_
  go_simp
  refine wpAnyH_take (i := 3) (v := ?_) rfl (by kernel_rfl) (by kernel_rfl) (by kernel_rfl) (fun _ _ _ h => h) (Or.inl ⟨by kernel_rfl, by (intro wz hSz; go_simp; try with_reducible rfl)⟩) hS0 ?_
  go_simp
  refine wpAnyH_take (i := 5) (v := ?_) rfl (by kernel_rfl) (by kernel_rfl) (by kernel_rfl) (fun _ _ _ h => h) (Or.inl ⟨by kernel_rfl, by (intro wz hSz; have c0_0 := cell_of_row _ _ 0 _ _ _ hSz.1; have c0_1 := cell_of_row _ _ 1 _ _ _ hSz.1; have c0_2 := cell_of_row _ _ 2 _ _ _ hSz.1; have c0_3 := cell_of_row _ _ 3 _ _ _ hSz.1; have c0_4 := cell_of_row _ _ 4 _ _ _ hSz.1; have c0_5 := cell_of_row _ _ 5 _ _ _ hSz.1; have c0_6 := cell_of_row _ _ 6 _ _ _ hSz.1; have c3_0 := cell_of_row _ _ 0 _ _ _ hSz.2; have c3_1 := cell_of_row _ _ 1 _ _ _ hSz.2; have c3_2 := cell_of_row _ _ 2 _ _ _ hSz.2; simp at c0_0 c0_1 c0_2 c0_3 c0_4 c0_5 c0_6 c3_0 c3_1 c3_2; go_simp; try with_reducible rfl)⟩) hS0 ?_
  go_simp
  refine wpAnyH_ready (rs := [4]) (by kernel_rfl) (by simp) ?_
  refine AllReadyH.cons rfl (fun K hK => ?_) AllReadyH.nil
  go_simp
  go_wp2_with (go_at_call 31; refine (ray_at _ _ _ _ _ _ _ _ _).mono ?_; rintro e y6 ⟨rfl, hb6⟩)
  have hr6_0 := (hb6.block _ (lt_heap hr5_0)).trans hr5_0
  have hr6_1 := (hb6.block _ (lt_heap hr5_1)).trans hr5_1
  have hr6_2 := (hb6.block _ (lt_heap hr5_2)).trans hr5_2
  have hr6_3 := (hb6.block _ (lt_heap hr5_3)).trans hr5_3
  have hr6_4 := (hb6.block _ (lt_heap hr5_4)).trans hr5_4
  have HU6 := Lib.hid (HU5.out.trans (hb6.mono HU5.out.size))
  refine hK.out _ _ (⟨(hb6.block _ (lt_heap hS0.1)).trans hS0.1, (hb6.block _ (lt_heap hS0.2)).trans hS0.2⟩) (fun hS6c => ?_)
  clear hK K
  refine wpAnyH_ready (rs := [6]) (by kernel_rfl) (by simp) ?_
  refine AllReadyH.cons rfl (fun K hK => ?_) AllReadyH.nil
  go_simp
  go_wp2_with (go_at_call 86; refine (vsub_any _ _ _ _ _ _ _).mono ?_; rintro e y7 ⟨rfl, hb7⟩; rw [eux, euy, euz])
  have hr7_0 := (hb7.block _ (lt_heap hr6_0)).trans hr6_0
  have hr7_1 := (hb7.block _ (lt_heap hr6_1)).trans hr6_1
  have hr7_2 := (hb7.block _ (lt_heap hr6_2)).trans hr6_2
  have hr7_3 := (hb7.block _ (lt_heap hr6_3)).trans hr6_3
  have hr7_4 := (hb7.block _ (lt_heap hr6_4)).trans hr6_4
  have HU7 := Lib.hid (HU6.out.trans (hb7.mono HU6.out.size))
  refine hK.out _ _ (⟨(hb7.block _ (lt_heap hS6c.1)).trans hS6c.1, (hb7.block _ (lt_heap hS6c.2)).trans hS6c.2⟩) (fun hS7c => ?_)
  clear hK K
  refine wpAnyH_ready (rs := [7]) (by kernel_rfl) (by simp) ?_
  refine AllReadyH.cons rfl (fun K hK => ?_) AllReadyH.nil
  go_simp
  go_wp2_with (go_at_call 148; refine (vunit_any _ _ _ _).mono ?_; rintro e y8 ⟨rfl, hb8⟩; rw [enx, eny, enz])
  have hr8_0 := (hb8.block _ (lt_heap hr7_0)).trans hr7_0
  have hr8_1 := (hb8.block _ (lt_heap hr7_1)).trans hr7_1
  have hr8_2 := (hb8.block _ (lt_heap hr7_2)).trans hr7_2
  have hr8_3 := (hb8.block _ (lt_heap hr7_3)).trans hr7_3
  have hr8_4 := (hb8.block _ (lt_heap hr7_4)).trans hr7_4
  have HU8 := Lib.hid (HU7.out.trans (hb8.mono HU7.out.size))
  refine hK.out _ _ (⟨(hb8.block _ (lt_heap hS7c.1)).trans hS7c.1, (hb8.block _ (lt_heap hS7c.2)).trans hS7c.2⟩) (fun hS8c => ?_)
  clear hK K
  refine wpAnyH_ready (rs := [8]) (by kernel_rfl) (by simp) ?_
  refine AllReadyH.cons rfl (fun K hK => ?_) AllReadyH.nil
  go_simp
  go_wp2_with (go_at_call 147; refine (hit_any fx fy fz dx dy dz pt t1 nx ny nz v ev _).mono ?_; rintro e y9 ⟨rfl, hb9⟩)
  have hr9_0 := (hb9.block _ (lt_heap hr8_0)).trans hr8_0
  have hr9_1 := (hb9.block _ (lt_heap hr8_1)).trans hr8_1
  have hr9_2 := (hb9.block _ (lt_heap hr8_2)).trans hr8_2
  have hr9_3 := (hb9.block _ (lt_heap hr8_3)).trans hr8_3
  have hr9_4 := (hb9.block _ (lt_heap hr8_4)).trans hr8_4
  have HU9 := Lib.hid (HU8.out.trans (hb9.mono HU8.out.size))
  refine hK.out _ _ (⟨(hb9.block _ (lt_heap hS8c.1)).trans hS8c.1, (hb9.block _ (lt_heap hS8c.2)).trans hS8c.2⟩) (fun hS9c => ?_)
  clear hK K
  refine wpAnyH_ready (rs := [9]) (by kernel_rfl) (by simp) ?_
  refine AllReadyH.cons rfl (fun K hK => ?_) AllReadyH.nil
  refine step_store_row rfl 104 (.tmp 4) (.tmp 43) rfl #[.int .i64 0, .int .i64 0, .int .i64 0, .int .i64 0, .int .i64 0, .int .i64 0, .int .i64 0, .int .i64 0] #[.int .i64 t1, .int .i64 0, .int .i64 (Pl.add fx (Pl.mul dx t1)), .int .i64 (Pl.add fy (Pl.mul dy t1)), .int .i64 (Pl.add fz (Pl.mul dz t1)), .int .i64 (fc v nx), .int .i64 (fc v ny), .int .i64 (fc v nz)] _ 104 hr9_2 rfl (by first | rfl | (go_simp; done) | (go_simp; rfl)) (by kernel_rfl) rfl (by simp [Value.oneCell']) ?_
  have hN := setRow_heap _ (w.heap.size + 1 + 1) _ #[.int .i64 t1, .int .i64 0, .int .i64 (Pl.add fx (Pl.mul dx t1)), .int .i64 (Pl.add fy (Pl.mul dy t1)), .int .i64 (Pl.add fz (Pl.mul dz t1)), .int .i64 (fc v nx), .int .i64 (fc v ny), .int .i64 (fc v nz)] _ _ hr9_2
  have hsz := HU9.out.size
  have HUx := below_setRow (g := w.heap.size + 1 + 1) HU9.out (by first | omega | (simp at *; omega)) #[.int .i64 t1, .int .i64 0, .int .i64 (Pl.add fx (Pl.mul dx t1)), .int .i64 (Pl.add fy (Pl.mul dy t1)), .int .i64 (Pl.add fz (Pl.mul dz t1)), .int .i64 (fc v nx), .int .i64 (fc v ny), .int .i64 (fc v nz)]
  obtain ⟨y10, hy10⟩ : ∃ y, y9.setRow (w.heap.size + 1 + 1) #[.int .i64 t1, .int .i64 0, .int .i64 (Pl.add fx (Pl.mul dx t1)), .int .i64 (Pl.add fy (Pl.mul dy t1)), .int .i64 (Pl.add fz (Pl.mul dz t1)), .int .i64 (fc v nx), .int .i64 (fc v ny), .int .i64 (fc v nz)] = y := ⟨_, rfl⟩
  have hO : ∀ k, k ≠ w.heap.size + 1 + 1 → y10.heap[k]? = y9.heap[k]? := fun k hk => by rw [← hy10]; exact setRow_other _ _ _ _ hk
  rw [hy10] at hN HUx ⊢
  clear hy10
  have HU10 := Lib.hid HUx
  clear HUx
  have hr10_0 := (hO _ (by omega)).trans hr9_0
  have hr10_1 := (hO _ (by omega)).trans hr9_1
  have hr10_2 := hN
  have hr10_3 := (hO _ (by omega)).trans hr9_3
  have hr10_4 := (hO _ (by omega)).trans hr9_4
  clear hN
  refine hK.out _ _ (⟨(hO _ (by omega)).trans hS9c.1, (hO _ (by omega)).trans hS9c.2⟩) (fun hS10s => ?_)
  clear hK K
  refine wpAnyH_take (i := 10) (v := ?_) rfl (by kernel_rfl) (by kernel_rfl) (by kernel_rfl) (fun _ _ _ h => h) (Or.inl ⟨by kernel_rfl, by (intro wz hSz; go_simp; try with_reducible rfl)⟩) hS10s ?_
  go_simp
  refine wpAnyH_done (by kernel_rfl) ?_ _
  have c2_0 := cell_of_row _ _ 0 _ _ _ hr10_2
  have c2_1 := cell_of_row _ _ 1 _ _ _ hr10_2
  have c2_2 := cell_of_row _ _ 2 _ _ _ hr10_2
  have c2_3 := cell_of_row _ _ 3 _ _ _ hr10_2
  have c2_4 := cell_of_row _ _ 4 _ _ _ hr10_2
  have c2_5 := cell_of_row _ _ 5 _ _ _ hr10_2
  have c2_6 := cell_of_row _ _ 6 _ _ _ hr10_2
  have c2_7 := cell_of_row _ _ 7 _ _ _ hr10_2
  simp at c2_0 c2_1 c2_2 c2_3 c2_4 c2_5 c2_6 c2_7
  go_wp2
  exact bodyPost_ret (v := .tuple #[.agg #[.int .i64 t1, .int .i64 0, .int .i64 (Pl.add fx (Pl.mul dx t1)), .int .i64 (Pl.add fy (Pl.mul dy t1)), .int .i64 (Pl.add fz (Pl.mul dz t1)), .int .i64 (fc v nx), .int .i64 (fc v ny), .int .i64 (fc v nz)], .bool true]) (by simp [results, Try.results92, go_sem, c2_0, c2_1, c2_2, c2_3, c2_4, c2_5, c2_6, c2_7]) rfl ⟨rfl, HU10.out⟩

set_option maxHeartbeats 8000000 in
set_option maxRecDepth 100000 in
theorem ball_second (near far k0 k1 p0 p1 p2 p3 p4 p5 p6 p7 p8 rad fx fy fz dx dy dz pt b0 b1 b2 b3 b4 b5 t1 t2 ux uy uz nx ny nz : Int) (hR : ∀ w : World, Calls Try.prog 145 #[.agg #[.int .i64 fx, .int .i64 fy, .int .i64 fz, .int .i64 dx, .int .i64 dy, .int .i64 dz, .int .i64 pt], .agg #[.int .i64 p0, .int .i64 p1, .int .i64 p2], .int .i64 rad] w fun e' w' => e' = .returned (.tuple #[.agg #[.int .i64 t1, .int .i64 t2], .bool true]) ∧ Below w.heap.size w w') (hA : ∀ w : World, Calls Try.prog 42 #[.agg #[.int .i64 k0, .int .i64 k1, .int .i64 p0, .int .i64 p1, .int .i64 p2, .int .i64 p3, .int .i64 p4, .int .i64 p5, .int .i64 p6, .int .i64 p7, .int .i64 p8, .int .i64 rad]] w fun e' w' => e' = .returned (.agg #[.int .i64 b0, .int .i64 b1, .int .i64 b2, .int .i64 b3, .int .i64 b4, .int .i64 b5]) ∧ Below w.heap.size w w') (h1 : (decide (near < t1) && decide (t1 ≤ far) && has6 b0 b1 b2 b3 b4 b5 (Pl.add fx (Pl.mul dx t1)) (Pl.add fy (Pl.mul dy t1)) (Pl.add fz (Pl.mul dz t1))) = false) (h2 : (decide (near < t2) && decide (t2 ≤ far) && has6 b0 b1 b2 b3 b4 b5 (Pl.add fx (Pl.mul dx t2)) (Pl.add fy (Pl.mul dy t2)) (Pl.add fz (Pl.mul dz t2))) = true) (v : Bool) (eux : Pl.sub (Pl.add fx (Pl.mul dx t2)) p0 = ux) (euy : Pl.sub (Pl.add fy (Pl.mul dy t2)) p1 = uy) (euz : Pl.sub (Pl.add fz (Pl.mul dz t2)) p2 = uz) (enx : un ux uy uz ux = nx) (eny : un ux uy uz uy = ny) (enz : un ux uy uz uz = nz) (ev : decide (0 < Pl.add (Pl.add (Pl.add 0 (Pl.mul nx dx)) (Pl.mul ny dy)) (Pl.mul nz dz)) = v) (w : World)  : Calls Try.prog 92 #[.agg #[.int .i64 fx, .int .i64 fy, .int .i64 fz, .int .i64 dx, .int .i64 dy, .int .i64 dz, .int .i64 pt], .agg #[.int .i64 near, .int .i64 far, .int .i64 k0, .int .i64 k1, .int .i64 p0, .int .i64 p1, .int .i64 p2, .int .i64 p3, .int .i64 p4, .int .i64 p5, .int .i64 p6, .int .i64 p7, .int .i64 p8, .int .i64 rad]] w fun e' w' => e' = .returned (.tuple #[.agg #[.int .i64 t2, .int .i64 0, .int .i64 (Pl.add fx (Pl.mul dx t2)), .int .i64 (Pl.add fy (Pl.mul dy t2)), .int .i64 (Pl.add fz (Pl.mul dz t2)), .int .i64 (fc v nx), .int .i64 (fc v ny), .int .i64 (fc v nz)], .bool true]) ∧ Below w.heap.size w w' := by
  have Hh1 := Lib.hid h1
  clear h1
  have Hh2 := Lib.hid h2
  clear h2
  go_enter Try.func92, Try.ntmps92
  go_upto_region 1 with fail
  have hR := Au.rows3 w (.cells #[.int .i64 fx, .int .i64 fy, .int .i64 fz, .int .i64 dx, .int .i64 dy, .int .i64 dz, .int .i64 pt] 101) (.cells #[.int .i64 near, .int .i64 far, .int .i64 k0, .int .i64 k1, .int .i64 p0, .int .i64 p1, .int .i64 p2, .int .i64 p3, .int .i64 p4, .int .i64 p5, .int .i64 p6, .int .i64 p7, .int .i64 p8, .int .i64 rad] 191) (.cells #[.int .i64 0, .int .i64 0, .int .i64 0, .int .i64 0, .int .i64 0, .int .i64 0, .int .i64 0, .int .i64 0] 104)
  have HUx := below_n3 w (.cells #[.int .i64 fx, .int .i64 fy, .int .i64 fz, .int .i64 dx, .int .i64 dy, .int .i64 dz, .int .i64 pt] 101) (.cells #[.int .i64 near, .int .i64 far, .int .i64 k0, .int .i64 k1, .int .i64 p0, .int .i64 p1, .int .i64 p2, .int .i64 p3, .int .i64 p4, .int .i64 p5, .int .i64 p6, .int .i64 p7, .int .i64 p8, .int .i64 rad] 191) (.cells #[.int .i64 0, .int .i64 0, .int .i64 0, .int .i64 0, .int .i64 0, .int .i64 0, .int .i64 0, .int .i64 0] 104)
  obtain ⟨y0, hy0⟩ : ∃ y0, ((w.alloc (.cells #[.int .i64 fx, .int .i64 fy, .int .i64 fz, .int .i64 dx, .int .i64 dy, .int .i64 dz, .int .i64 pt] 101)).alloc (.cells #[.int .i64 near, .int .i64 far, .int .i64 k0, .int .i64 k1, .int .i64 p0, .int .i64 p1, .int .i64 p2, .int .i64 p3, .int .i64 p4, .int .i64 p5, .int .i64 p6, .int .i64 p7, .int .i64 p8, .int .i64 rad] 191)).alloc (.cells #[.int .i64 0, .int .i64 0, .int .i64 0, .int .i64 0, .int .i64 0, .int .i64 0, .int .i64 0, .int .i64 0] 104) = y0 := ⟨_, rfl⟩
  rw [hy0] at hR HUx ⊢
  clear hy0
  have HU0 := Lib.hid HUx
  clear HUx
  obtain ⟨hr0_0, hr0_1, hr0_2⟩ := hR
  have c0_0 := cell_of_row _ _ 0 _ _ _ hr0_0
  have c0_1 := cell_of_row _ _ 1 _ _ _ hr0_0
  have c0_2 := cell_of_row _ _ 2 _ _ _ hr0_0
  have c0_3 := cell_of_row _ _ 3 _ _ _ hr0_0
  have c0_4 := cell_of_row _ _ 4 _ _ _ hr0_0
  have c0_5 := cell_of_row _ _ 5 _ _ _ hr0_0
  have c0_6 := cell_of_row _ _ 6 _ _ _ hr0_0
  have c1_0 := cell_of_row _ _ 0 _ _ _ hr0_1
  have c1_1 := cell_of_row _ _ 1 _ _ _ hr0_1
  have c1_2 := cell_of_row _ _ 2 _ _ _ hr0_1
  have c1_3 := cell_of_row _ _ 3 _ _ _ hr0_1
  have c1_4 := cell_of_row _ _ 4 _ _ _ hr0_1
  have c1_5 := cell_of_row _ _ 5 _ _ _ hr0_1
  have c1_6 := cell_of_row _ _ 6 _ _ _ hr0_1
  have c1_7 := cell_of_row _ _ 7 _ _ _ hr0_1
  have c1_8 := cell_of_row _ _ 8 _ _ _ hr0_1
  have c1_9 := cell_of_row _ _ 9 _ _ _ hr0_1
  have c1_10 := cell_of_row _ _ 10 _ _ _ hr0_1
  have c1_11 := cell_of_row _ _ 11 _ _ _ hr0_1
  have c1_12 := cell_of_row _ _ 12 _ _ _ hr0_1
  have c1_13 := cell_of_row _ _ 13 _ _ _ hr0_1
  have c2_0 := cell_of_row _ _ 0 _ _ _ hr0_2
  have c2_1 := cell_of_row _ _ 1 _ _ _ hr0_2
  have c2_2 := cell_of_row _ _ 2 _ _ _ hr0_2
  have c2_3 := cell_of_row _ _ 3 _ _ _ hr0_2
  have c2_4 := cell_of_row _ _ 4 _ _ _ hr0_2
  have c2_5 := cell_of_row _ _ 5 _ _ _ hr0_2
  have c2_6 := cell_of_row _ _ 6 _ _ _ hr0_2
  have c2_7 := cell_of_row _ _ 7 _ _ _ hr0_2
  simp at c0_0 c0_1 c0_2 c0_3 c0_4 c0_5 c0_6 c1_0 c1_1 c1_2 c1_3 c1_4 c1_5 c1_6 c1_7 c1_8 c1_9 c1_10 c1_11 c1_12 c1_13 c2_0 c2_1 c2_2 c2_3 c2_4 c2_5 c2_6 c2_7
  go_upto_region 2 with fail
  clear c0_0 c0_1 c0_2 c0_3 c0_4 c0_5 c0_6 c1_0 c1_1 c1_2 c1_3 c1_4 c1_5 c1_6 c1_7 c1_8 c1_9 c1_10 c1_11 c1_12 c1_13 c2_0 c2_1 c2_2 c2_3 c2_4 c2_5 c2_6 c2_7
  have hb1 := below_n1 y0 (.cells #[.int .i64 p0, .int .i64 p1, .int .i64 p2] 71)
  have hN := heap_alloc_last y0 (.cells #[.int .i64 p0, .int .i64 p1, .int .i64 p2] 71)
  obtain ⟨y1, hy1⟩ : ∃ y, y0.alloc (.cells #[.int .i64 p0, .int .i64 p1, .int .i64 p2] 71) = y := ⟨_, rfl⟩
  have hs1 : y1.heap.size = y0.heap.size + 1 := by rw [← hy1]; simp
  rw [hy1] at hb1 hN ⊢
  clear hy1
  have hl1_0 := lt_heap hr0_0
  have hl1_1 := lt_heap hr0_1
  have hl1_2 := lt_heap hr0_2
  have hr1_0 := (hb1.block _ (lt_heap hr0_0)).trans hr0_0
  have hr1_1 := (hb1.block _ (lt_heap hr0_1)).trans hr0_1
  have hr1_2 := (hb1.block _ (lt_heap hr0_2)).trans hr0_2
  have HU1 := Lib.hid (HU0.out.trans (hb1.mono HU0.out.size))
  clear hr0_0 hr0_1 hr0_2 HU0
  have hr1_3 := hN
  clear hN
  have c0_0 := cell_of_row _ _ 0 _ _ _ hr1_0
  have c0_1 := cell_of_row _ _ 1 _ _ _ hr1_0
  have c0_2 := cell_of_row _ _ 2 _ _ _ hr1_0
  have c0_3 := cell_of_row _ _ 3 _ _ _ hr1_0
  have c0_4 := cell_of_row _ _ 4 _ _ _ hr1_0
  have c0_5 := cell_of_row _ _ 5 _ _ _ hr1_0
  have c0_6 := cell_of_row _ _ 6 _ _ _ hr1_0
  have c1_0 := cell_of_row _ _ 0 _ _ _ hr1_1
  have c1_1 := cell_of_row _ _ 1 _ _ _ hr1_1
  have c1_2 := cell_of_row _ _ 2 _ _ _ hr1_1
  have c1_3 := cell_of_row _ _ 3 _ _ _ hr1_1
  have c1_4 := cell_of_row _ _ 4 _ _ _ hr1_1
  have c1_5 := cell_of_row _ _ 5 _ _ _ hr1_1
  have c1_6 := cell_of_row _ _ 6 _ _ _ hr1_1
  have c1_7 := cell_of_row _ _ 7 _ _ _ hr1_1
  have c1_8 := cell_of_row _ _ 8 _ _ _ hr1_1
  have c1_9 := cell_of_row _ _ 9 _ _ _ hr1_1
  have c1_10 := cell_of_row _ _ 10 _ _ _ hr1_1
  have c1_11 := cell_of_row _ _ 11 _ _ _ hr1_1
  have c1_12 := cell_of_row _ _ 12 _ _ _ hr1_1
  have c1_13 := cell_of_row _ _ 13 _ _ _ hr1_1
  have c2_0 := cell_of_row _ _ 0 _ _ _ hr1_2
  have c2_1 := cell_of_row _ _ 1 _ _ _ hr1_2
  have c2_2 := cell_of_row _ _ 2 _ _ _ hr1_2
  have c2_3 := cell_of_row _ _ 3 _ _ _ hr1_2
  have c2_4 := cell_of_row _ _ 4 _ _ _ hr1_2
  have c2_5 := cell_of_row _ _ 5 _ _ _ hr1_2
  have c2_6 := cell_of_row _ _ 6 _ _ _ hr1_2
  have c2_7 := cell_of_row _ _ 7 _ _ _ hr1_2
  have c3_0 := cell_of_row _ _ 0 _ _ _ hr1_3
  have c3_1 := cell_of_row _ _ 1 _ _ _ hr1_3
  have c3_2 := cell_of_row _ _ 2 _ _ _ hr1_3
  simp at c0_0 c0_1 c0_2 c0_3 c0_4 c0_5 c0_6 c1_0 c1_1 c1_2 c1_3 c1_4 c1_5 c1_6 c1_7 c1_8 c1_9 c1_10 c1_11 c1_12 c1_13 c2_0 c2_1 c2_2 c2_3 c2_4 c2_5 c2_6 c2_7 c3_0 c3_1 c3_2
  go_wp2_with fail
  refine (hR _).mono ?_
  rintro e y2 ⟨rfl, hb2⟩
  clear c0_0 c0_1 c0_2 c0_3 c0_4 c0_5 c0_6 c1_0 c1_1 c1_2 c1_3 c1_4 c1_5 c1_6 c1_7 c1_8 c1_9 c1_10 c1_11 c1_12 c1_13 c2_0 c2_1 c2_2 c2_3 c2_4 c2_5 c2_6 c2_7 c3_0 c3_1 c3_2
  have hr2_0 := (hb2.block _ (lt_heap hr1_0)).trans hr1_0
  have hr2_1 := (hb2.block _ (lt_heap hr1_1)).trans hr1_1
  have hr2_2 := (hb2.block _ (lt_heap hr1_2)).trans hr1_2
  have hr2_3 := (hb2.block _ (lt_heap hr1_3)).trans hr1_3
  have HU2 := Lib.hid (HU1.out.trans (hb2.mono HU1.out.size))
  clear hr1_0 hr1_1 hr1_2 hr1_3 HU1
  go_upto_region 3 with fail
  have hb3 := below_n1 y2 (.cells #[.int .i64 t1, .int .i64 t2] 239)
  have hN := heap_alloc_last y2 (.cells #[.int .i64 t1, .int .i64 t2] 239)
  obtain ⟨y3, hy3⟩ : ∃ y, y2.alloc (.cells #[.int .i64 t1, .int .i64 t2] 239) = y := ⟨_, rfl⟩
  have hs3 : y3.heap.size = y2.heap.size + 1 := by rw [← hy3]; simp
  rw [hy3] at hb3 hN ⊢
  clear hy3
  have hl3_0 := lt_heap hr2_0
  have hl3_1 := lt_heap hr2_1
  have hl3_2 := lt_heap hr2_2
  have hl3_3 := lt_heap hr2_3
  have hr3_0 := (hb3.block _ (lt_heap hr2_0)).trans hr2_0
  have hr3_1 := (hb3.block _ (lt_heap hr2_1)).trans hr2_1
  have hr3_2 := (hb3.block _ (lt_heap hr2_2)).trans hr2_2
  have hr3_3 := (hb3.block _ (lt_heap hr2_3)).trans hr2_3
  have HU3 := Lib.hid (HU2.out.trans (hb3.mono HU2.out.size))
  clear hr2_0 hr2_1 hr2_2 hr2_3 HU2
  have hr3_4 := hN
  clear hN
  have hx0 := idx_0
  have hx1 := idx_1
  have c4_0 := cell_of_row _ _ 0 _ _ _ hr3_4
  have c4_1 := cell_of_row _ _ 1 _ _ _ hr3_4
  simp at c4_0 c4_1
  go_wp2_with fail
  clear c4_0 c4_1
  refine wp_loop_rounds 3 ?_
  rw [rounds_succ]
  have c0_0 := cell_of_row _ _ 0 _ _ _ hr3_0
  have c0_1 := cell_of_row _ _ 1 _ _ _ hr3_0
  have c0_2 := cell_of_row _ _ 2 _ _ _ hr3_0
  have c0_3 := cell_of_row _ _ 3 _ _ _ hr3_0
  have c0_4 := cell_of_row _ _ 4 _ _ _ hr3_0
  have c0_5 := cell_of_row _ _ 5 _ _ _ hr3_0
  have c0_6 := cell_of_row _ _ 6 _ _ _ hr3_0
  have c1_0 := cell_of_row _ _ 0 _ _ _ hr3_1
  have c1_1 := cell_of_row _ _ 1 _ _ _ hr3_1
  have c1_2 := cell_of_row _ _ 2 _ _ _ hr3_1
  have c1_3 := cell_of_row _ _ 3 _ _ _ hr3_1
  have c1_4 := cell_of_row _ _ 4 _ _ _ hr3_1
  have c1_5 := cell_of_row _ _ 5 _ _ _ hr3_1
  have c1_6 := cell_of_row _ _ 6 _ _ _ hr3_1
  have c1_7 := cell_of_row _ _ 7 _ _ _ hr3_1
  have c1_8 := cell_of_row _ _ 8 _ _ _ hr3_1
  have c1_9 := cell_of_row _ _ 9 _ _ _ hr3_1
  have c1_10 := cell_of_row _ _ 10 _ _ _ hr3_1
  have c1_11 := cell_of_row _ _ 11 _ _ _ hr3_1
  have c1_12 := cell_of_row _ _ 12 _ _ _ hr3_1
  have c1_13 := cell_of_row _ _ 13 _ _ _ hr3_1
  simp at c0_0 c0_1 c0_2 c0_3 c0_4 c0_5 c0_6 c1_0 c1_1 c1_2 c1_3 c1_4 c1_5 c1_6 c1_7 c1_8 c1_9 c1_10 c1_11 c1_12 c1_13
  go_wp2_with fail
  refine (shows_any near far k0 k1 p0 p1 p2 p3 p4 p5 p6 p7 p8 rad fx fy fz dx dy dz pt b0 b1 b2 b3 b4 b5 t1 hA _).mono ?_
  rintro e y4 ⟨rfl, hb4⟩
  clear c0_0 c0_1 c0_2 c0_3 c0_4 c0_5 c0_6 c1_0 c1_1 c1_2 c1_3 c1_4 c1_5 c1_6 c1_7 c1_8 c1_9 c1_10 c1_11 c1_12 c1_13
  have hr4_0 := (hb4.block _ (lt_heap hr3_0)).trans hr3_0
  have hr4_1 := (hb4.block _ (lt_heap hr3_1)).trans hr3_1
  have hr4_2 := (hb4.block _ (lt_heap hr3_2)).trans hr3_2
  have hr4_3 := (hb4.block _ (lt_heap hr3_3)).trans hr3_3
  have hr4_4 := (hb4.block _ (lt_heap hr3_4)).trans hr3_4
  have HU4 := Lib.hid (HU3.out.trans (hb4.mono HU3.out.size))
  clear hr3_0 hr3_1 hr3_2 hr3_3 hr3_4 HU3
  rw [Hh1.out]
  go_wp2_with fail
  rw [rounds_succ]
  have c0_0 := cell_of_row _ _ 0 _ _ _ hr4_0
  have c0_1 := cell_of_row _ _ 1 _ _ _ hr4_0
  have c0_2 := cell_of_row _ _ 2 _ _ _ hr4_0
  have c0_3 := cell_of_row _ _ 3 _ _ _ hr4_0
  have c0_4 := cell_of_row _ _ 4 _ _ _ hr4_0
  have c0_5 := cell_of_row _ _ 5 _ _ _ hr4_0
  have c0_6 := cell_of_row _ _ 6 _ _ _ hr4_0
  have c1_0 := cell_of_row _ _ 0 _ _ _ hr4_1
  have c1_1 := cell_of_row _ _ 1 _ _ _ hr4_1
  have c1_2 := cell_of_row _ _ 2 _ _ _ hr4_1
  have c1_3 := cell_of_row _ _ 3 _ _ _ hr4_1
  have c1_4 := cell_of_row _ _ 4 _ _ _ hr4_1
  have c1_5 := cell_of_row _ _ 5 _ _ _ hr4_1
  have c1_6 := cell_of_row _ _ 6 _ _ _ hr4_1
  have c1_7 := cell_of_row _ _ 7 _ _ _ hr4_1
  have c1_8 := cell_of_row _ _ 8 _ _ _ hr4_1
  have c1_9 := cell_of_row _ _ 9 _ _ _ hr4_1
  have c1_10 := cell_of_row _ _ 10 _ _ _ hr4_1
  have c1_11 := cell_of_row _ _ 11 _ _ _ hr4_1
  have c1_12 := cell_of_row _ _ 12 _ _ _ hr4_1
  have c1_13 := cell_of_row _ _ 13 _ _ _ hr4_1
  simp at c0_0 c0_1 c0_2 c0_3 c0_4 c0_5 c0_6 c1_0 c1_1 c1_2 c1_3 c1_4 c1_5 c1_6 c1_7 c1_8 c1_9 c1_10 c1_11 c1_12 c1_13
  go_wp2_with fail
  refine (shows_any near far k0 k1 p0 p1 p2 p3 p4 p5 p6 p7 p8 rad fx fy fz dx dy dz pt b0 b1 b2 b3 b4 b5 t2 hA _).mono ?_
  rintro e y5 ⟨rfl, hb5⟩
  clear c0_0 c0_1 c0_2 c0_3 c0_4 c0_5 c0_6 c1_0 c1_1 c1_2 c1_3 c1_4 c1_5 c1_6 c1_7 c1_8 c1_9 c1_10 c1_11 c1_12 c1_13
  have hr5_0 := (hb5.block _ (lt_heap hr4_0)).trans hr4_0
  have hr5_1 := (hb5.block _ (lt_heap hr4_1)).trans hr4_1
  have hr5_2 := (hb5.block _ (lt_heap hr4_2)).trans hr4_2
  have hr5_3 := (hb5.block _ (lt_heap hr4_3)).trans hr4_3
  have hr5_4 := (hb5.block _ (lt_heap hr4_4)).trans hr4_4
  have HU5 := Lib.hid (HU4.out.trans (hb5.mono HU4.out.size))
  clear hr4_0 hr4_1 hr4_2 hr4_3 hr4_4 HU4
  rw [Hh2.out]
  go_upto_region 9 with fail
  refine wp_region_held_drew (S := fun y => y.heap[w.heap.size]? = some (.cells #[.int .i64 fx, .int .i64 fy, .int .i64 fz, .int .i64 dx, .int .i64 dy, .int .i64 dz, .int .i64 pt] 101 (0, 0)) ∧ y.heap[y0.heap.size]? = some (.cells #[.int .i64 p0, .int .i64 p1, .int .i64 p2] 71 (0, 0))) (by kernel_rfl) (⟨hr5_0, hr5_3⟩) (fun hS0 => ?_)
  obtain ⟨y6, hy6⟩ : ∃ y, y5.drew = y := ⟨_, rfl⟩
  have HU6 := Lib.hid (show Below w.heap.size w y6 by rw [← hy6]; exact HU5.out.drew)
  have hr6_0 : y6.heap[w.heap.size]? = some (.cells #[.int .i64 fx, .int .i64 fy, .int .i64 fz, .int .i64 dx, .int .i64 dy, .int .i64 dz, .int .i64 pt] 101 (0, 0)) := by rw [← hy6]; exact hr5_0
  have hr6_1 : y6.heap[w.heap.size + 1]? = some (.cells #[.int .i64 near, .int .i64 far, .int .i64 k0, .int .i64 k1, .int .i64 p0, .int .i64 p1, .int .i64 p2, .int .i64 p3, .int .i64 p4, .int .i64 p5, .int .i64 p6, .int .i64 p7, .int .i64 p8, .int .i64 rad] 191 (0, 0)) := by rw [← hy6]; exact hr5_1
  have hr6_2 : y6.heap[w.heap.size + 1 + 1]? = some (.cells #[.int .i64 0, .int .i64 0, .int .i64 0, .int .i64 0, .int .i64 0, .int .i64 0, .int .i64 0, .int .i64 0] 104 (0, 0)) := by rw [← hy6]; exact hr5_2
  have hr6_3 : y6.heap[y0.heap.size]? = some (.cells #[.int .i64 p0, .int .i64 p1, .int .i64 p2] 71 (0, 0)) := by rw [← hy6]; exact hr5_3
  have hr6_4 : y6.heap[y2.heap.size]? = some (.cells #[.int .i64 t1, .int .i64 t2] 239 (0, 0)) := by rw [← hy6]; exact hr5_4
  rw [hy6] at hS0 ⊢
  clear hy6
  refine wpAnyH_take (i := 0) (v := ?_) rfl (by kernel_rfl) (by kernel_rfl) (by kernel_rfl) (fun _ _ _ h => h) (Or.inl ⟨by kernel_rfl, by (intro wz hSz; have c0_0 := cell_of_row _ _ 0 _ _ _ hSz.1; have c0_1 := cell_of_row _ _ 1 _ _ _ hSz.1; have c0_2 := cell_of_row _ _ 2 _ _ _ hSz.1; have c0_3 := cell_of_row _ _ 3 _ _ _ hSz.1; have c0_4 := cell_of_row _ _ 4 _ _ _ hSz.1; have c0_5 := cell_of_row _ _ 5 _ _ _ hSz.1; have c0_6 := cell_of_row _ _ 6 _ _ _ hSz.1; have c3_0 := cell_of_row _ _ 0 _ _ _ hSz.2; have c3_1 := cell_of_row _ _ 1 _ _ _ hSz.2; have c3_2 := cell_of_row _ _ 2 _ _ _ hSz.2; simp at c0_0 c0_1 c0_2 c0_3 c0_4 c0_5 c0_6 c3_0 c3_1 c3_2; go_simp; try with_reducible rfl)⟩) hS0 ?_
  go_simp
  refine wpAnyH_take (i := 1) (v := ?_) rfl (by kernel_rfl) (by kernel_rfl) (by kernel_rfl) (fun _ _ _ h => h) (Or.inl ⟨by kernel_rfl, by (intro wz hSz; go_simp; try with_reducible rfl)⟩) hS0 ?_
  go_simp
  refine wpAnyH_take (i := 2) (v := ?_) rfl (by kernel_rfl) (by kernel_rfl) (by kernel_rfl) (fun _ _ _ h => h) (Or.inl ⟨by kernel_rfl, by (intro wz hSz; have c0_0 := cell_of_row _ _ 0 _ _ _ hSz.1; have c0_1 := cell_of_row _ _ 1 _ _ _ hSz.1; have c0_2 := cell_of_row _ _ 2 _ _ _ hSz.1; have c0_3 := cell_of_row _ _ 3 _ _ _ hSz.1; have c0_4 := cell_of_row _ _ 4 _ _ _ hSz.1; have c0_5 := cell_of_row _ _ 5 _ _ _ hSz.1; have c0_6 := cell_of_row _ _ 6 _ _ _ hSz.1; have c3_0 := cell_of_row _ _ 0 _ _ _ hSz.2; have c3_1 := cell_of_row _ _ 1 _ _ _ hSz.2; have c3_2 := cell_of_row _ _ 2 _ _ _ hSz.2; simp at c0_0 c0_1 c0_2 c0_3 c0_4 c0_5 c0_6 c3_0 c3_1 c3_2; go_simp; try with_reducible rfl)⟩) hS0 ?_
  go_simp
  refine wpAnyH_take (i := 3) (v := ?_) rfl (by kernel_rfl) (by kernel_rfl) (by kernel_rfl) (fun _ _ _ h => h) (Or.inl ⟨by kernel_rfl, by (intro wz hSz; go_simp; try with_reducible rfl)⟩) hS0 ?_
  go_simp
  refine wpAnyH_take (i := 5) (v := ?_) rfl (by kernel_rfl) (by kernel_rfl) (by kernel_rfl) (fun _ _ _ h => h) (Or.inl ⟨by kernel_rfl, by (intro wz hSz; have c0_0 := cell_of_row _ _ 0 _ _ _ hSz.1; have c0_1 := cell_of_row _ _ 1 _ _ _ hSz.1; have c0_2 := cell_of_row _ _ 2 _ _ _ hSz.1; have c0_3 := cell_of_row _ _ 3 _ _ _ hSz.1; have c0_4 := cell_of_row _ _ 4 _ _ _ hSz.1; have c0_5 := cell_of_row _ _ 5 _ _ _ hSz.1; have c0_6 := cell_of_row _ _ 6 _ _ _ hSz.1; have c3_0 := cell_of_row _ _ 0 _ _ _ hSz.2; have c3_1 := cell_of_row _ _ 1 _ _ _ hSz.2; have c3_2 := cell_of_row _ _ 2 _ _ _ hSz.2; simp at c0_0 c0_1 c0_2 c0_3 c0_4 c0_5 c0_6 c3_0 c3_1 c3_2; go_simp; try with_reducible rfl)⟩) hS0 ?_
  go_simp
  refine wpAnyH_ready (rs := [4]) (by kernel_rfl) (by simp) ?_
  refine AllReadyH.cons rfl (fun K hK => ?_) AllReadyH.nil
  go_simp
  go_wp2_with (go_at_call 31; refine (ray_at _ _ _ _ _ _ _ _ _).mono ?_; rintro e y7 ⟨rfl, hb7⟩)
  have hr7_0 := (hb7.block _ (lt_heap hr6_0)).trans hr6_0
  have hr7_1 := (hb7.block _ (lt_heap hr6_1)).trans hr6_1
  have hr7_2 := (hb7.block _ (lt_heap hr6_2)).trans hr6_2
  have hr7_3 := (hb7.block _ (lt_heap hr6_3)).trans hr6_3
  have hr7_4 := (hb7.block _ (lt_heap hr6_4)).trans hr6_4
  have HU7 := Lib.hid (HU6.out.trans (hb7.mono HU6.out.size))
  refine hK.out _ _ (⟨(hb7.block _ (lt_heap hS0.1)).trans hS0.1, (hb7.block _ (lt_heap hS0.2)).trans hS0.2⟩) (fun hS7c => ?_)
  clear hK K
  refine wpAnyH_ready (rs := [6]) (by kernel_rfl) (by simp) ?_
  refine AllReadyH.cons rfl (fun K hK => ?_) AllReadyH.nil
  go_simp
  go_wp2_with (go_at_call 86; refine (vsub_any _ _ _ _ _ _ _).mono ?_; rintro e y8 ⟨rfl, hb8⟩; rw [eux, euy, euz])
  have hr8_0 := (hb8.block _ (lt_heap hr7_0)).trans hr7_0
  have hr8_1 := (hb8.block _ (lt_heap hr7_1)).trans hr7_1
  have hr8_2 := (hb8.block _ (lt_heap hr7_2)).trans hr7_2
  have hr8_3 := (hb8.block _ (lt_heap hr7_3)).trans hr7_3
  have hr8_4 := (hb8.block _ (lt_heap hr7_4)).trans hr7_4
  have HU8 := Lib.hid (HU7.out.trans (hb8.mono HU7.out.size))
  refine hK.out _ _ (⟨(hb8.block _ (lt_heap hS7c.1)).trans hS7c.1, (hb8.block _ (lt_heap hS7c.2)).trans hS7c.2⟩) (fun hS8c => ?_)
  clear hK K
  refine wpAnyH_ready (rs := [7]) (by kernel_rfl) (by simp) ?_
  refine AllReadyH.cons rfl (fun K hK => ?_) AllReadyH.nil
  go_simp
  go_wp2_with (go_at_call 148; refine (vunit_any _ _ _ _).mono ?_; rintro e y9 ⟨rfl, hb9⟩; rw [enx, eny, enz])
  have hr9_0 := (hb9.block _ (lt_heap hr8_0)).trans hr8_0
  have hr9_1 := (hb9.block _ (lt_heap hr8_1)).trans hr8_1
  have hr9_2 := (hb9.block _ (lt_heap hr8_2)).trans hr8_2
  have hr9_3 := (hb9.block _ (lt_heap hr8_3)).trans hr8_3
  have hr9_4 := (hb9.block _ (lt_heap hr8_4)).trans hr8_4
  have HU9 := Lib.hid (HU8.out.trans (hb9.mono HU8.out.size))
  refine hK.out _ _ (⟨(hb9.block _ (lt_heap hS8c.1)).trans hS8c.1, (hb9.block _ (lt_heap hS8c.2)).trans hS8c.2⟩) (fun hS9c => ?_)
  clear hK K
  refine wpAnyH_ready (rs := [8]) (by kernel_rfl) (by simp) ?_
  refine AllReadyH.cons rfl (fun K hK => ?_) AllReadyH.nil
  go_simp
  go_wp2_with (go_at_call 147; refine (hit_any fx fy fz dx dy dz pt t2 nx ny nz v ev _).mono ?_; rintro e y10 ⟨rfl, hb10⟩)
  have hr10_0 := (hb10.block _ (lt_heap hr9_0)).trans hr9_0
  have hr10_1 := (hb10.block _ (lt_heap hr9_1)).trans hr9_1
  have hr10_2 := (hb10.block _ (lt_heap hr9_2)).trans hr9_2
  have hr10_3 := (hb10.block _ (lt_heap hr9_3)).trans hr9_3
  have hr10_4 := (hb10.block _ (lt_heap hr9_4)).trans hr9_4
  have HU10 := Lib.hid (HU9.out.trans (hb10.mono HU9.out.size))
  refine hK.out _ _ (⟨(hb10.block _ (lt_heap hS9c.1)).trans hS9c.1, (hb10.block _ (lt_heap hS9c.2)).trans hS9c.2⟩) (fun hS10c => ?_)
  clear hK K
  refine wpAnyH_ready (rs := [9]) (by kernel_rfl) (by simp) ?_
  refine AllReadyH.cons rfl (fun K hK => ?_) AllReadyH.nil
  refine step_store_row rfl 104 (.tmp 4) (.tmp 43) rfl #[.int .i64 0, .int .i64 0, .int .i64 0, .int .i64 0, .int .i64 0, .int .i64 0, .int .i64 0, .int .i64 0] #[.int .i64 t2, .int .i64 0, .int .i64 (Pl.add fx (Pl.mul dx t2)), .int .i64 (Pl.add fy (Pl.mul dy t2)), .int .i64 (Pl.add fz (Pl.mul dz t2)), .int .i64 (fc v nx), .int .i64 (fc v ny), .int .i64 (fc v nz)] _ 104 hr10_2 rfl (by first | rfl | (go_simp; done) | (go_simp; rfl)) (by kernel_rfl) rfl (by simp [Value.oneCell']) ?_
  have hN := setRow_heap _ (w.heap.size + 1 + 1) _ #[.int .i64 t2, .int .i64 0, .int .i64 (Pl.add fx (Pl.mul dx t2)), .int .i64 (Pl.add fy (Pl.mul dy t2)), .int .i64 (Pl.add fz (Pl.mul dz t2)), .int .i64 (fc v nx), .int .i64 (fc v ny), .int .i64 (fc v nz)] _ _ hr10_2
  have hsz := HU10.out.size
  have HUx := below_setRow (g := w.heap.size + 1 + 1) HU10.out (by first | omega | (simp at *; omega)) #[.int .i64 t2, .int .i64 0, .int .i64 (Pl.add fx (Pl.mul dx t2)), .int .i64 (Pl.add fy (Pl.mul dy t2)), .int .i64 (Pl.add fz (Pl.mul dz t2)), .int .i64 (fc v nx), .int .i64 (fc v ny), .int .i64 (fc v nz)]
  obtain ⟨y11, hy11⟩ : ∃ y, y10.setRow (w.heap.size + 1 + 1) #[.int .i64 t2, .int .i64 0, .int .i64 (Pl.add fx (Pl.mul dx t2)), .int .i64 (Pl.add fy (Pl.mul dy t2)), .int .i64 (Pl.add fz (Pl.mul dz t2)), .int .i64 (fc v nx), .int .i64 (fc v ny), .int .i64 (fc v nz)] = y := ⟨_, rfl⟩
  have hO : ∀ k, k ≠ w.heap.size + 1 + 1 → y11.heap[k]? = y10.heap[k]? := fun k hk => by rw [← hy11]; exact setRow_other _ _ _ _ hk
  rw [hy11] at hN HUx ⊢
  clear hy11
  have HU11 := Lib.hid HUx
  clear HUx
  have hr11_0 := (hO _ (by omega)).trans hr10_0
  have hr11_1 := (hO _ (by omega)).trans hr10_1
  have hr11_2 := hN
  have hr11_3 := (hO _ (by omega)).trans hr10_3
  have hr11_4 := (hO _ (by omega)).trans hr10_4
  clear hN
  refine hK.out _ _ (⟨(hO _ (by omega)).trans hS10c.1, (hO _ (by omega)).trans hS10c.2⟩) (fun hS11s => ?_)
  clear hK K
  refine wpAnyH_take (i := 10) (v := ?_) rfl (by kernel_rfl) (by kernel_rfl) (by kernel_rfl) (fun _ _ _ h => h) (Or.inl ⟨by kernel_rfl, by (intro wz hSz; go_simp; try with_reducible rfl)⟩) hS11s ?_
  go_simp
  refine wpAnyH_done (by kernel_rfl) ?_ _
  have c2_0 := cell_of_row _ _ 0 _ _ _ hr11_2
  have c2_1 := cell_of_row _ _ 1 _ _ _ hr11_2
  have c2_2 := cell_of_row _ _ 2 _ _ _ hr11_2
  have c2_3 := cell_of_row _ _ 3 _ _ _ hr11_2
  have c2_4 := cell_of_row _ _ 4 _ _ _ hr11_2
  have c2_5 := cell_of_row _ _ 5 _ _ _ hr11_2
  have c2_6 := cell_of_row _ _ 6 _ _ _ hr11_2
  have c2_7 := cell_of_row _ _ 7 _ _ _ hr11_2
  simp at c2_0 c2_1 c2_2 c2_3 c2_4 c2_5 c2_6 c2_7
  go_wp2
  exact bodyPost_ret (v := .tuple #[.agg #[.int .i64 t2, .int .i64 0, .int .i64 (Pl.add fx (Pl.mul dx t2)), .int .i64 (Pl.add fy (Pl.mul dy t2)), .int .i64 (Pl.add fz (Pl.mul dz t2)), .int .i64 (fc v nx), .int .i64 (fc v ny), .int .i64 (fc v nz)], .bool true]) (by simp [results, Try.results92, go_sem, c2_0, c2_1, c2_2, c2_3, c2_4, c2_5, c2_6, c2_7]) rfl ⟨rfl, HU11.out⟩

set_option maxHeartbeats 8000000 in
set_option maxRecDepth 100000 in
theorem ball_out (near far k0 k1 p0 p1 p2 p3 p4 p5 p6 p7 p8 rad fx fy fz dx dy dz pt b0 b1 b2 b3 b4 b5 t1 t2 : Int) (hR : ∀ w : World, Calls Try.prog 145 #[.agg #[.int .i64 fx, .int .i64 fy, .int .i64 fz, .int .i64 dx, .int .i64 dy, .int .i64 dz, .int .i64 pt], .agg #[.int .i64 p0, .int .i64 p1, .int .i64 p2], .int .i64 rad] w fun e' w' => e' = .returned (.tuple #[.agg #[.int .i64 t1, .int .i64 t2], .bool true]) ∧ Below w.heap.size w w') (hA : ∀ w : World, Calls Try.prog 42 #[.agg #[.int .i64 k0, .int .i64 k1, .int .i64 p0, .int .i64 p1, .int .i64 p2, .int .i64 p3, .int .i64 p4, .int .i64 p5, .int .i64 p6, .int .i64 p7, .int .i64 p8, .int .i64 rad]] w fun e' w' => e' = .returned (.agg #[.int .i64 b0, .int .i64 b1, .int .i64 b2, .int .i64 b3, .int .i64 b4, .int .i64 b5]) ∧ Below w.heap.size w w') (h1 : (decide (near < t1) && decide (t1 ≤ far) && has6 b0 b1 b2 b3 b4 b5 (Pl.add fx (Pl.mul dx t1)) (Pl.add fy (Pl.mul dy t1)) (Pl.add fz (Pl.mul dz t1))) = false) (h2 : (decide (near < t2) && decide (t2 ≤ far) && has6 b0 b1 b2 b3 b4 b5 (Pl.add fx (Pl.mul dx t2)) (Pl.add fy (Pl.mul dy t2)) (Pl.add fz (Pl.mul dz t2))) = false) (w : World)  : Calls Try.prog 92 #[.agg #[.int .i64 fx, .int .i64 fy, .int .i64 fz, .int .i64 dx, .int .i64 dy, .int .i64 dz, .int .i64 pt], .agg #[.int .i64 near, .int .i64 far, .int .i64 k0, .int .i64 k1, .int .i64 p0, .int .i64 p1, .int .i64 p2, .int .i64 p3, .int .i64 p4, .int .i64 p5, .int .i64 p6, .int .i64 p7, .int .i64 p8, .int .i64 rad]] w fun e' w' => e' = .returned (.tuple #[.agg #[.int .i64 0, .int .i64 0, .int .i64 0, .int .i64 0, .int .i64 0, .int .i64 0, .int .i64 0, .int .i64 0], .bool false]) ∧ Below w.heap.size w w' := by
  have Hh1 := Lib.hid h1
  clear h1
  have Hh2 := Lib.hid h2
  clear h2
  go_enter Try.func92, Try.ntmps92
  go_upto_region 1 with fail
  have hR := Au.rows3 w (.cells #[.int .i64 fx, .int .i64 fy, .int .i64 fz, .int .i64 dx, .int .i64 dy, .int .i64 dz, .int .i64 pt] 101) (.cells #[.int .i64 near, .int .i64 far, .int .i64 k0, .int .i64 k1, .int .i64 p0, .int .i64 p1, .int .i64 p2, .int .i64 p3, .int .i64 p4, .int .i64 p5, .int .i64 p6, .int .i64 p7, .int .i64 p8, .int .i64 rad] 191) (.cells #[.int .i64 0, .int .i64 0, .int .i64 0, .int .i64 0, .int .i64 0, .int .i64 0, .int .i64 0, .int .i64 0] 104)
  have HUx := below_n3 w (.cells #[.int .i64 fx, .int .i64 fy, .int .i64 fz, .int .i64 dx, .int .i64 dy, .int .i64 dz, .int .i64 pt] 101) (.cells #[.int .i64 near, .int .i64 far, .int .i64 k0, .int .i64 k1, .int .i64 p0, .int .i64 p1, .int .i64 p2, .int .i64 p3, .int .i64 p4, .int .i64 p5, .int .i64 p6, .int .i64 p7, .int .i64 p8, .int .i64 rad] 191) (.cells #[.int .i64 0, .int .i64 0, .int .i64 0, .int .i64 0, .int .i64 0, .int .i64 0, .int .i64 0, .int .i64 0] 104)
  obtain ⟨y0, hy0⟩ : ∃ y0, ((w.alloc (.cells #[.int .i64 fx, .int .i64 fy, .int .i64 fz, .int .i64 dx, .int .i64 dy, .int .i64 dz, .int .i64 pt] 101)).alloc (.cells #[.int .i64 near, .int .i64 far, .int .i64 k0, .int .i64 k1, .int .i64 p0, .int .i64 p1, .int .i64 p2, .int .i64 p3, .int .i64 p4, .int .i64 p5, .int .i64 p6, .int .i64 p7, .int .i64 p8, .int .i64 rad] 191)).alloc (.cells #[.int .i64 0, .int .i64 0, .int .i64 0, .int .i64 0, .int .i64 0, .int .i64 0, .int .i64 0, .int .i64 0] 104) = y0 := ⟨_, rfl⟩
  rw [hy0] at hR HUx ⊢
  clear hy0
  have HU0 := Lib.hid HUx
  clear HUx
  obtain ⟨hr0_0, hr0_1, hr0_2⟩ := hR
  have c0_0 := cell_of_row _ _ 0 _ _ _ hr0_0
  have c0_1 := cell_of_row _ _ 1 _ _ _ hr0_0
  have c0_2 := cell_of_row _ _ 2 _ _ _ hr0_0
  have c0_3 := cell_of_row _ _ 3 _ _ _ hr0_0
  have c0_4 := cell_of_row _ _ 4 _ _ _ hr0_0
  have c0_5 := cell_of_row _ _ 5 _ _ _ hr0_0
  have c0_6 := cell_of_row _ _ 6 _ _ _ hr0_0
  have c1_0 := cell_of_row _ _ 0 _ _ _ hr0_1
  have c1_1 := cell_of_row _ _ 1 _ _ _ hr0_1
  have c1_2 := cell_of_row _ _ 2 _ _ _ hr0_1
  have c1_3 := cell_of_row _ _ 3 _ _ _ hr0_1
  have c1_4 := cell_of_row _ _ 4 _ _ _ hr0_1
  have c1_5 := cell_of_row _ _ 5 _ _ _ hr0_1
  have c1_6 := cell_of_row _ _ 6 _ _ _ hr0_1
  have c1_7 := cell_of_row _ _ 7 _ _ _ hr0_1
  have c1_8 := cell_of_row _ _ 8 _ _ _ hr0_1
  have c1_9 := cell_of_row _ _ 9 _ _ _ hr0_1
  have c1_10 := cell_of_row _ _ 10 _ _ _ hr0_1
  have c1_11 := cell_of_row _ _ 11 _ _ _ hr0_1
  have c1_12 := cell_of_row _ _ 12 _ _ _ hr0_1
  have c1_13 := cell_of_row _ _ 13 _ _ _ hr0_1
  have c2_0 := cell_of_row _ _ 0 _ _ _ hr0_2
  have c2_1 := cell_of_row _ _ 1 _ _ _ hr0_2
  have c2_2 := cell_of_row _ _ 2 _ _ _ hr0_2
  have c2_3 := cell_of_row _ _ 3 _ _ _ hr0_2
  have c2_4 := cell_of_row _ _ 4 _ _ _ hr0_2
  have c2_5 := cell_of_row _ _ 5 _ _ _ hr0_2
  have c2_6 := cell_of_row _ _ 6 _ _ _ hr0_2
  have c2_7 := cell_of_row _ _ 7 _ _ _ hr0_2
  simp at c0_0 c0_1 c0_2 c0_3 c0_4 c0_5 c0_6 c1_0 c1_1 c1_2 c1_3 c1_4 c1_5 c1_6 c1_7 c1_8 c1_9 c1_10 c1_11 c1_12 c1_13 c2_0 c2_1 c2_2 c2_3 c2_4 c2_5 c2_6 c2_7
  go_upto_region 2 with fail
  clear c0_0 c0_1 c0_2 c0_3 c0_4 c0_5 c0_6 c1_0 c1_1 c1_2 c1_3 c1_4 c1_5 c1_6 c1_7 c1_8 c1_9 c1_10 c1_11 c1_12 c1_13 c2_0 c2_1 c2_2 c2_3 c2_4 c2_5 c2_6 c2_7
  have hb1 := below_n1 y0 (.cells #[.int .i64 p0, .int .i64 p1, .int .i64 p2] 71)
  have hN := heap_alloc_last y0 (.cells #[.int .i64 p0, .int .i64 p1, .int .i64 p2] 71)
  obtain ⟨y1, hy1⟩ : ∃ y, y0.alloc (.cells #[.int .i64 p0, .int .i64 p1, .int .i64 p2] 71) = y := ⟨_, rfl⟩
  have hs1 : y1.heap.size = y0.heap.size + 1 := by rw [← hy1]; simp
  rw [hy1] at hb1 hN ⊢
  clear hy1
  have hl1_0 := lt_heap hr0_0
  have hl1_1 := lt_heap hr0_1
  have hl1_2 := lt_heap hr0_2
  have hr1_0 := (hb1.block _ (lt_heap hr0_0)).trans hr0_0
  have hr1_1 := (hb1.block _ (lt_heap hr0_1)).trans hr0_1
  have hr1_2 := (hb1.block _ (lt_heap hr0_2)).trans hr0_2
  have HU1 := Lib.hid (HU0.out.trans (hb1.mono HU0.out.size))
  clear hr0_0 hr0_1 hr0_2 HU0
  have hr1_3 := hN
  clear hN
  have c0_0 := cell_of_row _ _ 0 _ _ _ hr1_0
  have c0_1 := cell_of_row _ _ 1 _ _ _ hr1_0
  have c0_2 := cell_of_row _ _ 2 _ _ _ hr1_0
  have c0_3 := cell_of_row _ _ 3 _ _ _ hr1_0
  have c0_4 := cell_of_row _ _ 4 _ _ _ hr1_0
  have c0_5 := cell_of_row _ _ 5 _ _ _ hr1_0
  have c0_6 := cell_of_row _ _ 6 _ _ _ hr1_0
  have c1_0 := cell_of_row _ _ 0 _ _ _ hr1_1
  have c1_1 := cell_of_row _ _ 1 _ _ _ hr1_1
  have c1_2 := cell_of_row _ _ 2 _ _ _ hr1_1
  have c1_3 := cell_of_row _ _ 3 _ _ _ hr1_1
  have c1_4 := cell_of_row _ _ 4 _ _ _ hr1_1
  have c1_5 := cell_of_row _ _ 5 _ _ _ hr1_1
  have c1_6 := cell_of_row _ _ 6 _ _ _ hr1_1
  have c1_7 := cell_of_row _ _ 7 _ _ _ hr1_1
  have c1_8 := cell_of_row _ _ 8 _ _ _ hr1_1
  have c1_9 := cell_of_row _ _ 9 _ _ _ hr1_1
  have c1_10 := cell_of_row _ _ 10 _ _ _ hr1_1
  have c1_11 := cell_of_row _ _ 11 _ _ _ hr1_1
  have c1_12 := cell_of_row _ _ 12 _ _ _ hr1_1
  have c1_13 := cell_of_row _ _ 13 _ _ _ hr1_1
  have c2_0 := cell_of_row _ _ 0 _ _ _ hr1_2
  have c2_1 := cell_of_row _ _ 1 _ _ _ hr1_2
  have c2_2 := cell_of_row _ _ 2 _ _ _ hr1_2
  have c2_3 := cell_of_row _ _ 3 _ _ _ hr1_2
  have c2_4 := cell_of_row _ _ 4 _ _ _ hr1_2
  have c2_5 := cell_of_row _ _ 5 _ _ _ hr1_2
  have c2_6 := cell_of_row _ _ 6 _ _ _ hr1_2
  have c2_7 := cell_of_row _ _ 7 _ _ _ hr1_2
  have c3_0 := cell_of_row _ _ 0 _ _ _ hr1_3
  have c3_1 := cell_of_row _ _ 1 _ _ _ hr1_3
  have c3_2 := cell_of_row _ _ 2 _ _ _ hr1_3
  simp at c0_0 c0_1 c0_2 c0_3 c0_4 c0_5 c0_6 c1_0 c1_1 c1_2 c1_3 c1_4 c1_5 c1_6 c1_7 c1_8 c1_9 c1_10 c1_11 c1_12 c1_13 c2_0 c2_1 c2_2 c2_3 c2_4 c2_5 c2_6 c2_7 c3_0 c3_1 c3_2
  go_wp2_with fail
  refine (hR _).mono ?_
  rintro e y2 ⟨rfl, hb2⟩
  clear c0_0 c0_1 c0_2 c0_3 c0_4 c0_5 c0_6 c1_0 c1_1 c1_2 c1_3 c1_4 c1_5 c1_6 c1_7 c1_8 c1_9 c1_10 c1_11 c1_12 c1_13 c2_0 c2_1 c2_2 c2_3 c2_4 c2_5 c2_6 c2_7 c3_0 c3_1 c3_2
  have hr2_0 := (hb2.block _ (lt_heap hr1_0)).trans hr1_0
  have hr2_1 := (hb2.block _ (lt_heap hr1_1)).trans hr1_1
  have hr2_2 := (hb2.block _ (lt_heap hr1_2)).trans hr1_2
  have hr2_3 := (hb2.block _ (lt_heap hr1_3)).trans hr1_3
  have HU2 := Lib.hid (HU1.out.trans (hb2.mono HU1.out.size))
  clear hr1_0 hr1_1 hr1_2 hr1_3 HU1
  go_upto_region 3 with fail
  have hb3 := below_n1 y2 (.cells #[.int .i64 t1, .int .i64 t2] 239)
  have hN := heap_alloc_last y2 (.cells #[.int .i64 t1, .int .i64 t2] 239)
  obtain ⟨y3, hy3⟩ : ∃ y, y2.alloc (.cells #[.int .i64 t1, .int .i64 t2] 239) = y := ⟨_, rfl⟩
  have hs3 : y3.heap.size = y2.heap.size + 1 := by rw [← hy3]; simp
  rw [hy3] at hb3 hN ⊢
  clear hy3
  have hl3_0 := lt_heap hr2_0
  have hl3_1 := lt_heap hr2_1
  have hl3_2 := lt_heap hr2_2
  have hl3_3 := lt_heap hr2_3
  have hr3_0 := (hb3.block _ (lt_heap hr2_0)).trans hr2_0
  have hr3_1 := (hb3.block _ (lt_heap hr2_1)).trans hr2_1
  have hr3_2 := (hb3.block _ (lt_heap hr2_2)).trans hr2_2
  have hr3_3 := (hb3.block _ (lt_heap hr2_3)).trans hr2_3
  have HU3 := Lib.hid (HU2.out.trans (hb3.mono HU2.out.size))
  clear hr2_0 hr2_1 hr2_2 hr2_3 HU2
  have hr3_4 := hN
  clear hN
  have hx0 := idx_0
  have hx1 := idx_1
  have c4_0 := cell_of_row _ _ 0 _ _ _ hr3_4
  have c4_1 := cell_of_row _ _ 1 _ _ _ hr3_4
  simp at c4_0 c4_1
  go_wp2_with fail
  clear c4_0 c4_1
  refine wp_loop_rounds 3 ?_
  rw [rounds_succ]
  have c0_0 := cell_of_row _ _ 0 _ _ _ hr3_0
  have c0_1 := cell_of_row _ _ 1 _ _ _ hr3_0
  have c0_2 := cell_of_row _ _ 2 _ _ _ hr3_0
  have c0_3 := cell_of_row _ _ 3 _ _ _ hr3_0
  have c0_4 := cell_of_row _ _ 4 _ _ _ hr3_0
  have c0_5 := cell_of_row _ _ 5 _ _ _ hr3_0
  have c0_6 := cell_of_row _ _ 6 _ _ _ hr3_0
  have c1_0 := cell_of_row _ _ 0 _ _ _ hr3_1
  have c1_1 := cell_of_row _ _ 1 _ _ _ hr3_1
  have c1_2 := cell_of_row _ _ 2 _ _ _ hr3_1
  have c1_3 := cell_of_row _ _ 3 _ _ _ hr3_1
  have c1_4 := cell_of_row _ _ 4 _ _ _ hr3_1
  have c1_5 := cell_of_row _ _ 5 _ _ _ hr3_1
  have c1_6 := cell_of_row _ _ 6 _ _ _ hr3_1
  have c1_7 := cell_of_row _ _ 7 _ _ _ hr3_1
  have c1_8 := cell_of_row _ _ 8 _ _ _ hr3_1
  have c1_9 := cell_of_row _ _ 9 _ _ _ hr3_1
  have c1_10 := cell_of_row _ _ 10 _ _ _ hr3_1
  have c1_11 := cell_of_row _ _ 11 _ _ _ hr3_1
  have c1_12 := cell_of_row _ _ 12 _ _ _ hr3_1
  have c1_13 := cell_of_row _ _ 13 _ _ _ hr3_1
  simp at c0_0 c0_1 c0_2 c0_3 c0_4 c0_5 c0_6 c1_0 c1_1 c1_2 c1_3 c1_4 c1_5 c1_6 c1_7 c1_8 c1_9 c1_10 c1_11 c1_12 c1_13
  go_wp2_with fail
  refine (shows_any near far k0 k1 p0 p1 p2 p3 p4 p5 p6 p7 p8 rad fx fy fz dx dy dz pt b0 b1 b2 b3 b4 b5 t1 hA _).mono ?_
  rintro e y4 ⟨rfl, hb4⟩
  clear c0_0 c0_1 c0_2 c0_3 c0_4 c0_5 c0_6 c1_0 c1_1 c1_2 c1_3 c1_4 c1_5 c1_6 c1_7 c1_8 c1_9 c1_10 c1_11 c1_12 c1_13
  have hr4_0 := (hb4.block _ (lt_heap hr3_0)).trans hr3_0
  have hr4_1 := (hb4.block _ (lt_heap hr3_1)).trans hr3_1
  have hr4_2 := (hb4.block _ (lt_heap hr3_2)).trans hr3_2
  have hr4_3 := (hb4.block _ (lt_heap hr3_3)).trans hr3_3
  have hr4_4 := (hb4.block _ (lt_heap hr3_4)).trans hr3_4
  have HU4 := Lib.hid (HU3.out.trans (hb4.mono HU3.out.size))
  clear hr3_0 hr3_1 hr3_2 hr3_3 hr3_4 HU3
  rw [Hh1.out]
  go_wp2_with fail
  rw [rounds_succ]
  have c0_0 := cell_of_row _ _ 0 _ _ _ hr4_0
  have c0_1 := cell_of_row _ _ 1 _ _ _ hr4_0
  have c0_2 := cell_of_row _ _ 2 _ _ _ hr4_0
  have c0_3 := cell_of_row _ _ 3 _ _ _ hr4_0
  have c0_4 := cell_of_row _ _ 4 _ _ _ hr4_0
  have c0_5 := cell_of_row _ _ 5 _ _ _ hr4_0
  have c0_6 := cell_of_row _ _ 6 _ _ _ hr4_0
  have c1_0 := cell_of_row _ _ 0 _ _ _ hr4_1
  have c1_1 := cell_of_row _ _ 1 _ _ _ hr4_1
  have c1_2 := cell_of_row _ _ 2 _ _ _ hr4_1
  have c1_3 := cell_of_row _ _ 3 _ _ _ hr4_1
  have c1_4 := cell_of_row _ _ 4 _ _ _ hr4_1
  have c1_5 := cell_of_row _ _ 5 _ _ _ hr4_1
  have c1_6 := cell_of_row _ _ 6 _ _ _ hr4_1
  have c1_7 := cell_of_row _ _ 7 _ _ _ hr4_1
  have c1_8 := cell_of_row _ _ 8 _ _ _ hr4_1
  have c1_9 := cell_of_row _ _ 9 _ _ _ hr4_1
  have c1_10 := cell_of_row _ _ 10 _ _ _ hr4_1
  have c1_11 := cell_of_row _ _ 11 _ _ _ hr4_1
  have c1_12 := cell_of_row _ _ 12 _ _ _ hr4_1
  have c1_13 := cell_of_row _ _ 13 _ _ _ hr4_1
  simp at c0_0 c0_1 c0_2 c0_3 c0_4 c0_5 c0_6 c1_0 c1_1 c1_2 c1_3 c1_4 c1_5 c1_6 c1_7 c1_8 c1_9 c1_10 c1_11 c1_12 c1_13
  go_wp2_with fail
  refine (shows_any near far k0 k1 p0 p1 p2 p3 p4 p5 p6 p7 p8 rad fx fy fz dx dy dz pt b0 b1 b2 b3 b4 b5 t2 hA _).mono ?_
  rintro e y5 ⟨rfl, hb5⟩
  clear c0_0 c0_1 c0_2 c0_3 c0_4 c0_5 c0_6 c1_0 c1_1 c1_2 c1_3 c1_4 c1_5 c1_6 c1_7 c1_8 c1_9 c1_10 c1_11 c1_12 c1_13
  have hr5_0 := (hb5.block _ (lt_heap hr4_0)).trans hr4_0
  have hr5_1 := (hb5.block _ (lt_heap hr4_1)).trans hr4_1
  have hr5_2 := (hb5.block _ (lt_heap hr4_2)).trans hr4_2
  have hr5_3 := (hb5.block _ (lt_heap hr4_3)).trans hr4_3
  have hr5_4 := (hb5.block _ (lt_heap hr4_4)).trans hr4_4
  have HU5 := Lib.hid (HU4.out.trans (hb5.mono HU4.out.size))
  clear hr4_0 hr4_1 hr4_2 hr4_3 hr4_4 HU4
  rw [Hh2.out]
  go_wp2_with fail
  rw [rounds_succ]
  go_upto_region 11 with fail
  have hHr := Lib.hid hr5_2
  have hHi := Lib.hid (show (Try.prog.info? 104).map (·.size) = some (#[.int .i64 0, .int .i64 0, .int .i64 0, .int .i64 0, .int .i64 0, .int .i64 0, .int .i64 0, .int .i64 0] : Array Value).size by kernel_rfl)
  have hHz := Lib.hid (show (#[.int .i64 0, .int .i64 0, .int .i64 0, .int .i64 0, .int .i64 0, .int .i64 0, .int .i64 0, .int .i64 0] : Array Value).size = (#[.int .i64 0, .int .i64 0, .int .i64 0, .int .i64 0, .int .i64 0, .int .i64 0, .int .i64 0, .int .i64 0] : Array Value).size from rfl)
  have hHo := Lib.hid (show (#[.int .i64 0, .int .i64 0, .int .i64 0, .int .i64 0, .int .i64 0, .int .i64 0, .int .i64 0, .int .i64 0] : Array Value).all (·.oneCell') = true by simp [Value.oneCell'])
  go_wp2_with (first | (refine Au.wpList_store_row rfl 104 (.tmp 4) (.tmp 45) rfl y5 #[.int .i64 0, .int .i64 0, .int .i64 0, .int .i64 0, .int .i64 0, .int .i64 0, .int .i64 0, .int .i64 0] #[.int .i64 0, .int .i64 0, .int .i64 0, .int .i64 0, .int .i64 0, .int .i64 0, .int .i64 0, .int .i64 0] (w.heap.size + 1 + 1) 104 hHr.out rfl rfl hHi.out hHz.out hHo.out ?_))
  clear hHr hHi hHz hHo
  have hN := setRow_heap _ (w.heap.size + 1 + 1) _ #[.int .i64 0, .int .i64 0, .int .i64 0, .int .i64 0, .int .i64 0, .int .i64 0, .int .i64 0, .int .i64 0] _ _ hr5_2
  have hsz := HU5.out.size
  have HUx := below_setRow (g := w.heap.size + 1 + 1) HU5.out (by first | omega | (simp at *; omega)) #[.int .i64 0, .int .i64 0, .int .i64 0, .int .i64 0, .int .i64 0, .int .i64 0, .int .i64 0, .int .i64 0]
  have hO : ∀ kk, kk ≠ w.heap.size + 1 + 1 → (y5.setRow (w.heap.size + 1 + 1) #[.int .i64 0, .int .i64 0, .int .i64 0, .int .i64 0, .int .i64 0, .int .i64 0, .int .i64 0, .int .i64 0]).heap[kk]? = y5.heap[kk]? := fun kk hk => setRow_other _ _ _ _ hk
  obtain ⟨y6, hy6⟩ : ∃ y, y5.setRow (w.heap.size + 1 + 1) #[.int .i64 0, .int .i64 0, .int .i64 0, .int .i64 0, .int .i64 0, .int .i64 0, .int .i64 0, .int .i64 0] = y := ⟨_, rfl⟩
  rw [hy6] at hN HUx hO ⊢
  clear hy6 hsz
  have HU6 := Lib.hid HUx
  clear HUx
  have hr6_0 := (hO _ (by omega)).trans hr5_0
  have hr6_1 := (hO _ (by omega)).trans hr5_1
  have hr6_2 := hN
  have hr6_3 := (hO _ (by omega)).trans hr5_3
  have hr6_4 := (hO _ (by omega)).trans hr5_4
  clear hN hO
  clear hr5_0 hr5_1 hr5_2 hr5_3 hr5_4 HU5
  have c2_0 := cell_of_row _ _ 0 _ _ _ hr6_2
  have c2_1 := cell_of_row _ _ 1 _ _ _ hr6_2
  have c2_2 := cell_of_row _ _ 2 _ _ _ hr6_2
  have c2_3 := cell_of_row _ _ 3 _ _ _ hr6_2
  have c2_4 := cell_of_row _ _ 4 _ _ _ hr6_2
  have c2_5 := cell_of_row _ _ 5 _ _ _ hr6_2
  have c2_6 := cell_of_row _ _ 6 _ _ _ hr6_2
  have c2_7 := cell_of_row _ _ 7 _ _ _ hr6_2
  simp at c2_0 c2_1 c2_2 c2_3 c2_4 c2_5 c2_6 c2_7
  go_wp2
  exact bodyPost_ret (v := .tuple #[.agg #[.int .i64 0, .int .i64 0, .int .i64 0, .int .i64 0, .int .i64 0, .int .i64 0, .int .i64 0, .int .i64 0], .bool false]) (by simp [results, Try.results92, go_sem, c2_0, c2_1, c2_2, c2_3, c2_4, c2_5, c2_6, c2_7]) rfl ⟨rfl, HU6.out⟩

end Go.Proofs.Ythlcfhnlkpobhaa.Yr
