/- Rays: where a face is met. -/
import Derived.Test.YthlcfhnlkpobhaaYd
namespace Go.Proofs.Ythlcfhnlkpobhaa.Yr
open Go.RowKit Go.Proofs.Ythlcfhnlkpobhaa Go.Proofs.Ythlcfhnlkpobhaa.Wa Go.Proofs.Ythlcfhnlkpobhaa.Ve Go.Proofs.Ythlcfhnlkpobhaa.Au Go.Proofs.Ythlcfhnlkpobhaa.Bx
set_option linter.unusedVariables false
set_option linter.unusedSimpArgs false

/-- one of two values -/
def pick2 (p : Prop) [Decidable p] (a b : Value) : Value := if p then a else b

set_option maxHeartbeats 8000000 in
set_option maxRecDepth 100000 in
theorem face_any (near far k0 k1 p0 p1 p2 p3 p4 p5 p6 p7 p8 rad fx fy fz dx dy dz pt b0 b1 b2 b3 b4 b5 e_x e_y e_z g_x g_y g_z x_x x_y x_z Y q_x q_y q_z z_x z_y z_z U V t m_x m_y m_z nx ny nz : Int) (hA : ∀ w : World, Calls Try.prog 42 #[.agg #[.int .i64 k0, .int .i64 k1, .int .i64 p0, .int .i64 p1, .int .i64 p2, .int .i64 p3, .int .i64 p4, .int .i64 p5, .int .i64 p6, .int .i64 p7, .int .i64 p8, .int .i64 rad]] w fun e' w' => e' = .returned (.agg #[.int .i64 b0, .int .i64 b1, .int .i64 b2, .int .i64 b3, .int .i64 b4, .int .i64 b5]) ∧ Below w.heap.size w w') (v : Bool) (he_x : Pl.sub p3 p0 = e_x) (he_y : Pl.sub p4 p1 = e_y) (he_z : Pl.sub p5 p2 = e_z) (hg_x : Pl.sub p6 p0 = g_x) (hg_y : Pl.sub p7 p1 = g_y) (hg_z : Pl.sub p8 p2 = g_z) (hx_x : Pl.sub (Pl.mul dy g_z) (Pl.mul dz g_y) = x_x) (hx_y : Pl.sub (Pl.mul dz g_x) (Pl.mul dx g_z) = x_y) (hx_z : Pl.sub (Pl.mul dx g_y) (Pl.mul dy g_x) = x_z) (hY : Pl.add (Pl.add (Pl.add 0 (Pl.mul e_x x_x)) (Pl.mul e_y x_y)) (Pl.mul e_z x_z) = Y) (hq_x : Pl.sub fx p0 = q_x) (hq_y : Pl.sub fy p1 = q_y) (hq_z : Pl.sub fz p2 = q_z) (hz_x : Pl.sub (Pl.mul q_y e_z) (Pl.mul q_z e_y) = z_x) (hz_y : Pl.sub (Pl.mul q_z e_x) (Pl.mul q_x e_z) = z_y) (hz_z : Pl.sub (Pl.mul q_x e_y) (Pl.mul q_y e_x) = z_z) (hU : Pl.div (Pl.add (Pl.add (Pl.add 0 (Pl.mul q_x x_x)) (Pl.mul q_y x_y)) (Pl.mul q_z x_z)) Y = U) (hV : Pl.div (Pl.add (Pl.add (Pl.add 0 (Pl.mul dx z_x)) (Pl.mul dy z_y)) (Pl.mul dz z_z)) Y = V) (ht : Pl.div (Pl.add (Pl.add (Pl.add 0 (Pl.mul g_x z_x)) (Pl.mul g_y z_y)) (Pl.mul g_z z_z)) Y = t) (hm_x : Pl.sub (Pl.mul e_y g_z) (Pl.mul e_z g_y) = m_x) (hm_y : Pl.sub (Pl.mul e_z g_x) (Pl.mul e_x g_z) = m_y) (hm_z : Pl.sub (Pl.mul e_x g_y) (Pl.mul e_y g_x) = m_z) (enx : un m_x m_y m_z m_x = nx) (eny : un m_x m_y m_z m_y = ny) (enz : un m_x m_y m_z m_z = nz) (ev : decide (0 < Pl.add (Pl.add (Pl.add 0 (Pl.mul nx dx)) (Pl.mul ny dy)) (Pl.mul nz dz)) = v) (w : World)  : Calls Try.prog 93 #[.agg #[.int .i64 fx, .int .i64 fy, .int .i64 fz, .int .i64 dx, .int .i64 dy, .int .i64 dz, .int .i64 pt], .agg #[.int .i64 near, .int .i64 far, .int .i64 k0, .int .i64 k1, .int .i64 p0, .int .i64 p1, .int .i64 p2, .int .i64 p3, .int .i64 p4, .int .i64 p5, .int .i64 p6, .int .i64 p7, .int .i64 p8, .int .i64 rad]] w fun e' w' => e' = .returned (pick2 (Y = 0 ∨ U < 0 ∨ V < 0 ∨ 65536 < Pl.add U V ∨ (decide (near < t) && decide (t ≤ far) && has6 b0 b1 b2 b3 b4 b5 (Pl.add fx (Pl.mul dx t)) (Pl.add fy (Pl.mul dy t)) (Pl.add fz (Pl.mul dz t))) = false) (.tuple #[.agg #[.int .i64 0, .int .i64 0, .int .i64 0, .int .i64 0, .int .i64 0, .int .i64 0, .int .i64 0, .int .i64 0], .bool false]) (.tuple #[.agg #[.int .i64 t, .int .i64 0, .int .i64 (Pl.add fx (Pl.mul dx t)), .int .i64 (Pl.add fy (Pl.mul dy t)), .int .i64 (Pl.add fz (Pl.mul dz t)), .int .i64 (fc v nx), .int .i64 (fc v ny), .int .i64 (fc v nz)], .bool true])) ∧ Below w.heap.size w w' := by
  go_enter Try.func93, Try.ntmps93
  go_upto_region 1 with fail
  have hR := Au.rows3 w (.cells #[.int .i64 fx, .int .i64 fy, .int .i64 fz, .int .i64 dx, .int .i64 dy, .int .i64 dz, .int .i64 pt] 101) (.cells #[.int .i64 near, .int .i64 far, .int .i64 k0, .int .i64 k1, .int .i64 p0, .int .i64 p1, .int .i64 p2, .int .i64 p3, .int .i64 p4, .int .i64 p5, .int .i64 p6, .int .i64 p7, .int .i64 p8, .int .i64 rad] 191) (.cells #[.int .i64 0, .int .i64 0, .int .i64 0, .int .i64 0, .int .i64 0, .int .i64 0, .int .i64 0, .int .i64 0] 104)
  have HUx := below_n3 w (.cells #[.int .i64 fx, .int .i64 fy, .int .i64 fz, .int .i64 dx, .int .i64 dy, .int .i64 dz, .int .i64 pt] 101) (.cells #[.int .i64 near, .int .i64 far, .int .i64 k0, .int .i64 k1, .int .i64 p0, .int .i64 p1, .int .i64 p2, .int .i64 p3, .int .i64 p4, .int .i64 p5, .int .i64 p6, .int .i64 p7, .int .i64 p8, .int .i64 rad] 191) (.cells #[.int .i64 0, .int .i64 0, .int .i64 0, .int .i64 0, .int .i64 0, .int .i64 0, .int .i64 0, .int .i64 0] 104)
  obtain ⟨y0, hy0⟩ : ∃ y0, ((w.alloc (.cells #[.int .i64 fx, .int .i64 fy, .int .i64 fz, .int .i64 dx, .int .i64 dy, .int .i64 dz, .int .i64 pt] 101)).alloc (.cells #[.int .i64 near, .int .i64 far, .int .i64 k0, .int .i64 k1, .int .i64 p0, .int .i64 p1, .int .i64 p2, .int .i64 p3, .int .i64 p4, .int .i64 p5, .int .i64 p6, .int .i64 p7, .int .i64 p8, .int .i64 rad] 191)).alloc (.cells #[.int .i64 0, .int .i64 0, .int .i64 0, .int .i64 0, .int .i64 0, .int .i64 0, .int .i64 0, .int .i64 0] 104) = y0 := ⟨_, rfl⟩
  rw [hy0] at hR HUx ⊢
  clear hy0
  have HU0 := Lib.hid HUx
  clear HUx
  obtain ⟨hr0_0, hr0_1, hr0_2⟩ := hR
  have hw1 : IntKind.i64.wrap 1 = 1 := rfl
  have hw2 : IntKind.i64.wrap 2 = 2 := rfl
  have c0_0 := cell_of_row _ _ 0 _ _ _ hr0_0
  have c0_1 := cell_of_row _ _ 1 _ _ _ hr0_0
  have c0_2 := cell_of_row _ _ 2 _ _ _ hr0_0
  have c0_3 := cell_of_row _ _ 3 _ _ _ hr0_0
  have c0_4 := cell_of_row _ _ 4 _ _ _ hr0_0
  have c0_5 := cell_of_row _ _ 5 _ _ _ hr0_0
  have c0_6 := cell_of_row _ _ 6 _ _ _ hr0_0
  have c1_0 := cell_of_row _ _ 0 _ _ _ hr0_1
  have c1_1 := cell_of_row _ _ 1 _ _ _ hr0_1
  have c1_2 := cell_of_row _ _ 2 _ _ _ hr0_1
  have c1_3 := cell_of_row _ _ 3 _ _ _ hr0_1
  have c1_4 := cell_of_row _ _ 4 _ _ _ hr0_1
  have c1_5 := cell_of_row _ _ 5 _ _ _ hr0_1
  have c1_6 := cell_of_row _ _ 6 _ _ _ hr0_1
  have c1_7 := cell_of_row _ _ 7 _ _ _ hr0_1
  have c1_8 := cell_of_row _ _ 8 _ _ _ hr0_1
  have c1_9 := cell_of_row _ _ 9 _ _ _ hr0_1
  have c1_10 := cell_of_row _ _ 10 _ _ _ hr0_1
  have c1_11 := cell_of_row _ _ 11 _ _ _ hr0_1
  have c1_12 := cell_of_row _ _ 12 _ _ _ hr0_1
  have c1_13 := cell_of_row _ _ 13 _ _ _ hr0_1
  have c2_0 := cell_of_row _ _ 0 _ _ _ hr0_2
  have c2_1 := cell_of_row _ _ 1 _ _ _ hr0_2
  have c2_2 := cell_of_row _ _ 2 _ _ _ hr0_2
  have c2_3 := cell_of_row _ _ 3 _ _ _ hr0_2
  have c2_4 := cell_of_row _ _ 4 _ _ _ hr0_2
  have c2_5 := cell_of_row _ _ 5 _ _ _ hr0_2
  have c2_6 := cell_of_row _ _ 6 _ _ _ hr0_2
  have c2_7 := cell_of_row _ _ 7 _ _ _ hr0_2
  simp at c0_0 c0_1 c0_2 c0_3 c0_4 c0_5 c0_6 c1_0 c1_1 c1_2 c1_3 c1_4 c1_5 c1_6 c1_7 c1_8 c1_9 c1_10 c1_11 c1_12 c1_13 c2_0 c2_1 c2_2 c2_3 c2_4 c2_5 c2_6 c2_7
  go_upto_region 2 with fail
  clear c0_0 c0_1 c0_2 c0_3 c0_4 c0_5 c0_6 c1_0 c1_1 c1_2 c1_3 c1_4 c1_5 c1_6 c1_7 c1_8 c1_9 c1_10 c1_11 c1_12 c1_13 c2_0 c2_1 c2_2 c2_3 c2_4 c2_5 c2_6 c2_7
  have hb1 := below_n1 y0 (.cells #[.int .i64 p0, .int .i64 p1, .int .i64 p2] 71)
  have hN := heap_alloc_last y0 (.cells #[.int .i64 p0, .int .i64 p1, .int .i64 p2] 71)
  obtain ⟨y1, hy1⟩ : ∃ y, y0.alloc (.cells #[.int .i64 p0, .int .i64 p1, .int .i64 p2] 71) = y := ⟨_, rfl⟩
  have hs1 : y1.heap.size = y0.heap.size + 1 := by rw [← hy1]; simp
  rw [hy1] at hb1 hN ⊢
  clear hy1
  have hl1_0 := lt_heap hr0_0
  have hl1_1 := lt_heap hr0_1
  have hl1_2 := lt_heap hr0_2
  have hr1_0 := (hb1.block _ (lt_heap hr0_0)).trans hr0_0
  have hr1_1 := (hb1.block _ (lt_heap hr0_1)).trans hr0_1
  have hr1_2 := (hb1.block _ (lt_heap hr0_2)).trans hr0_2
  have HU1 := Lib.hid (HU0.out.trans (hb1.mono HU0.out.size))
  clear hr0_0 hr0_1 hr0_2 HU0
  have hr1_3 := hN
  clear hN
  go_cut [7, 8] (fun s7 s8 wx => ∃ ge gg : Nat, s7 = .pointer (some ⟨ge, 0, none⟩) ∧ s8 = .pointer (some ⟨gg, 0, none⟩) ∧ w.heap.size + 1 + 1 < ge ∧ w.heap.size + 1 + 1 < gg ∧ wx.heap[ge]? = some (.cells #[.int .i64 e_x, .int .i64 e_y, .int .i64 e_z] 71 (0, 0)) ∧ wx.heap[gg]? = some (.cells #[.int .i64 g_x, .int .i64 g_y, .int .i64 g_z] 71 (0, 0)) ∧ wx.heap[w.heap.size]? = some (.cells #[.int .i64 fx, .int .i64 fy, .int .i64 fz, .int .i64 dx, .int .i64 dy, .int .i64 dz, .int .i64 pt] 101 (0, 0)) ∧ wx.heap[w.heap.size + 1]? = some (.cells #[.int .i64 near, .int .i64 far, .int .i64 k0, .int .i64 k1, .int .i64 p0, .int .i64 p1, .int .i64 p2, .int .i64 p3, .int .i64 p4, .int .i64 p5, .int .i64 p6, .int .i64 p7, .int .i64 p8, .int .i64 rad] 191 (0, 0)) ∧ wx.heap[w.heap.size + 1 + 1]? = some (.cells #[.int .i64 0, .int .i64 0, .int .i64 0, .int .i64 0, .int .i64 0, .int .i64 0, .int .i64 0, .int .i64 0] 104 (0, 0)) ∧ wx.heap[y0.heap.size]? = some (.cells #[.int .i64 p0, .int .i64 p1, .int .i64 p2] 71 (0, 0)) ∧ Hid (Below w.heap.size w wx))
  case first =>
    refine wp_region_held_drew (S := fun y => y.heap[w.heap.size]? = some (.cells #[.int .i64 fx, .int .i64 fy, .int .i64 fz, .int .i64 dx, .int .i64 dy, .int .i64 dz, .int .i64 pt] 101 (0, 0)) ∧ y.heap[w.heap.size + 1]? = some (.cells #[.int .i64 near, .int .i64 far, .int .i64 k0, .int .i64 k1, .int .i64 p0, .int .i64 p1, .int .i64 p2, .int .i64 p3, .int .i64 p4, .int .i64 p5, .int .i64 p6, .int .i64 p7, .int .i64 p8, .int .i64 rad] 191 (0, 0)) ∧ y.heap[y0.heap.size]? = some (.cells #[.int .i64 p0, .int .i64 p1, .int .i64 p2] 71 (0, 0))) (by kernel_rfl) (⟨hr1_0, hr1_1, hr1_3⟩) (fun hS0 => ?_)
    obtain ⟨y2, hy2⟩ : ∃ y, y1.drew = y := ⟨_, rfl⟩
    have HU2 := Lib.hid (show Below w.heap.size w y2 by rw [← hy2]; exact HU1.out.drew)
    have hr2_0 : y2.heap[w.heap.size]? = some (.cells #[.int .i64 fx, .int .i64 fy, .int .i64 fz, .int .i64 dx, .int .i64 dy, .int .i64 dz, .int .i64 pt] 101 (0, 0)) := by rw [← hy2]; exact hr1_0
    have hr2_1 : y2.heap[w.heap.size + 1]? = some (.cells #[.int .i64 near, .int .i64 far, .int .i64 k0, .int .i64 k1, .int .i64 p0, .int .i64 p1, .int .i64 p2, .int .i64 p3, .int .i64 p4, .int .i64 p5, .int .i64 p6, .int .i64 p7, .int .i64 p8, .int .i64 rad] 191 (0, 0)) := by rw [← hy2]; exact hr1_1
    have hr2_2 : y2.heap[w.heap.size + 1 + 1]? = some (.cells #[.int .i64 0, .int .i64 0, .int .i64 0, .int .i64 0, .int .i64 0, .int .i64 0, .int .i64 0, .int .i64 0] 104 (0, 0)) := by rw [← hy2]; exact hr1_2
    have hr2_3 : y2.heap[y0.heap.size]? = some (.cells #[.int .i64 p0, .int .i64 p1, .int .i64 p2] 71 (0, 0)) := by rw [← hy2]; exact hr1_3
    rw [hy2] at hS0 ⊢
    clear hy2
    refine wpAnyH_take (i := 0) (v := ?_) rfl (by kernel_rfl) (by kernel_rfl) (by kernel_rfl) (fun _ _ _ h => h) (Or.inl ⟨by kernel_rfl, by (intro wz hSz; go_simp; try with_reducible rfl)⟩) hS0 ?_
    go_simp
    refine wpAnyH_take (i := 1) (v := ?_) rfl (by kernel_rfl) (by kernel_rfl) (by kernel_rfl) (fun _ _ _ h => h) (Or.inl ⟨by kernel_rfl, by (intro wz hSz; go_simp; try with_reducible rfl)⟩) hS0 ?_
    go_simp
    refine wpAnyH_take (i := 2) (v := ?_) rfl (by kernel_rfl) (by kernel_rfl) (by kernel_rfl) (fun _ _ _ h => h) (Or.inl ⟨by kernel_rfl, by (intro wz hSz; go_simp; try with_reducible rfl)⟩) hS0 ?_
    go_simp
    refine wpAnyH_take (i := 3) (v := ?_) rfl (by kernel_rfl) (by kernel_rfl) (by kernel_rfl) (fun _ _ _ h => h) (Or.inl ⟨by kernel_rfl, by (intro wz hSz; have c0_0 := cell_of_row _ _ 0 _ _ _ hSz.1; have c0_1 := cell_of_row _ _ 1 _ _ _ hSz.1; have c0_2 := cell_of_row _ _ 2 _ _ _ hSz.1; have c0_3 := cell_of_row _ _ 3 _ _ _ hSz.1; have c0_4 := cell_of_row _ _ 4 _ _ _ hSz.1; have c0_5 := cell_of_row _ _ 5 _ _ _ hSz.1; have c0_6 := cell_of_row _ _ 6 _ _ _ hSz.1; have c1_0 := cell_of_row _ _ 0 _ _ _ hSz.2.1; have c1_1 := cell_of_row _ _ 1 _ _ _ hSz.2.1; have c1_2 := cell_of_row _ _ 2 _ _ _ hSz.2.1; have c1_3 := cell_of_row _ _ 3 _ _ _ hSz.2.1; have c1_4 := cell_of_row _ _ 4 _ _ _ hSz.2.1; have c1_5 := cell_of_row _ _ 5 _ _ _ hSz.2.1; have c1_6 := cell_of_row _ _ 6 _ _ _ hSz.2.1; have c1_7 := cell_of_row _ _ 7 _ _ _ hSz.2.1; have c1_8 := cell_of_row _ _ 8 _ _ _ hSz.2.1; have c1_9 := cell_of_row _ _ 9 _ _ _ hSz.2.1; have c1_10 := cell_of_row _ _ 10 _ _ _ hSz.2.1; have c1_11 := cell_of_row _ _ 11 _ _ _ hSz.2.1; have c1_12 := cell_of_row _ _ 12 _ _ _ hSz.2.1; have c1_13 := cell_of_row _ _ 13 _ _ _ hSz.2.1; have c3_0 := cell_of_row _ _ 0 _ _ _ hSz.2.2; have c3_1 := cell_of_row _ _ 1 _ _ _ hSz.2.2; have c3_2 := cell_of_row _ _ 2 _ _ _ hSz.2.2; simp at c0_0 c0_1 c0_2 c0_3 c0_4 c0_5 c0_6 c1_0 c1_1 c1_2 c1_3 c1_4 c1_5 c1_6 c1_7 c1_8 c1_9 c1_10 c1_11 c1_12 c1_13 c3_0 c3_1 c3_2; go_simp; try with_reducible rfl)⟩) hS0 ?_
    go_simp
    refine wpAnyH_take (i := 4) (v := ?_) rfl (by kernel_rfl) (by kernel_rfl) (by kernel_rfl) (fun _ _ _ h => h) (Or.inl ⟨by kernel_rfl, by (intro wz hSz; have c0_0 := cell_of_row _ _ 0 _ _ _ hSz.1; have c0_1 := cell_of_row _ _ 1 _ _ _ hSz.1; have c0_2 := cell_of_row _ _ 2 _ _ _ hSz.1; have c0_3 := cell_of_row _ _ 3 _ _ _ hSz.1; have c0_4 := cell_of_row _ _ 4 _ _ _ hSz.1; have c0_5 := cell_of_row _ _ 5 _ _ _ hSz.1; have c0_6 := cell_of_row _ _ 6 _ _ _ hSz.1; have c1_0 := cell_of_row _ _ 0 _ _ _ hSz.2.1; have c1_1 := cell_of_row _ _ 1 _ _ _ hSz.2.1; have c1_2 := cell_of_row _ _ 2 _ _ _ hSz.2.1; have c1_3 := cell_of_row _ _ 3 _ _ _ hSz.2.1; have c1_4 := cell_of_row _ _ 4 _ _ _ hSz.2.1; have c1_5 := cell_of_row _ _ 5 _ _ _ hSz.2.1; have c1_6 := cell_of_row _ _ 6 _ _ _ hSz.2.1; have c1_7 := cell_of_row _ _ 7 _ _ _ hSz.2.1; have c1_8 := cell_of_row _ _ 8 _ _ _ hSz.2.1; have c1_9 := cell_of_row _ _ 9 _ _ _ hSz.2.1; have c1_10 := cell_of_row _ _ 10 _ _ _ hSz.2.1; have c1_11 := cell_of_row _ _ 11 _ _ _ hSz.2.1; have c1_12 := cell_of_row _ _ 12 _ _ _ hSz.2.1; have c1_13 := cell_of_row _ _ 13 _ _ _ hSz.2.1; have c3_0 := cell_of_row _ _ 0 _ _ _ hSz.2.2; have c3_1 := cell_of_row _ _ 1 _ _ _ hSz.2.2; have c3_2 := cell_of_row _ _ 2 _ _ _ hSz.2.2; simp at c0_0 c0_1 c0_2 c0_3 c0_4 c0_5 c0_6 c1_0 c1_1 c1_2 c1_3 c1_4 c1_5 c1_6 c1_7 c1_8 c1_9 c1_10 c1_11 c1_12 c1_13 c3_0 c3_1 c3_2; go_simp; try with_reducible rfl)⟩) hS0 ?_
    go_simp
    refine wpAnyH_take (i := 6) (v := ?_) rfl (by kernel_rfl) (by kernel_rfl) (by kernel_rfl) (fun _ _ _ h => h) (Or.inl ⟨by kernel_rfl, by (intro wz hSz; go_simp; try with_reducible rfl)⟩) hS0 ?_
    go_simp
    refine wpAnyH_take (i := 7) (v := ?_) rfl (by kernel_rfl) (by kernel_rfl) (by kernel_rfl) (fun _ _ _ h => h) (Or.inl ⟨by kernel_rfl, by (intro wz hSz; go_simp; try with_reducible rfl)⟩) hS0 ?_
    go_simp
    refine wpAnyH_take (i := 8) (v := ?_) rfl (by kernel_rfl) (by kernel_rfl) (by kernel_rfl) (fun _ _ _ h => h) (Or.inl ⟨by kernel_rfl, by (intro wz hSz; go_simp; try with_reducible rfl)⟩) hS0 ?_
    go_simp
    refine wpAnyH_take (i := 9) (v := ?_) rfl (by kernel_rfl) (by kernel_rfl) (by kernel_rfl) (fun _ _ _ h => h) (Or.inl ⟨by kernel_rfl, by (intro wz hSz; have c0_0 := cell_of_row _ _ 0 _ _ _ hSz.1; have c0_1 := cell_of_row _ _ 1 _ _ _ hSz.1; have c0_2 := cell_of_row _ _ 2 _ _ _ hSz.1; have c0_3 := cell_of_row _ _ 3 _ _ _ hSz.1; have c0_4 := cell_of_row _ _ 4 _ _ _ hSz.1; have c0_5 := cell_of_row _ _ 5 _ _ _ hSz.1; have c0_6 := cell_of_row _ _ 6 _ _ _ hSz.1; have c1_0 := cell_of_row _ _ 0 _ _ _ hSz.2.1; have c1_1 := cell_of_row _ _ 1 _ _ _ hSz.2.1; have c1_2 := cell_of_row _ _ 2 _ _ _ hSz.2.1; have c1_3 := cell_of_row _ _ 3 _ _ _ hSz.2.1; have c1_4 := cell_of_row _ _ 4 _ _ _ hSz.2.1; have c1_5 := cell_of_row _ _ 5 _ _ _ hSz.2.1; have c1_6 := cell_of_row _ _ 6 _ _ _ hSz.2.1; have c1_7 := cell_of_row _ _ 7 _ _ _ hSz.2.1; have c1_8 := cell_of_row _ _ 8 _ _ _ hSz.2.1; have c1_9 := cell_of_row _ _ 9 _ _ _ hSz.2.1; have c1_10 := cell_of_row _ _ 10 _ _ _ hSz.2.1; have c1_11 := cell_of_row _ _ 11 _ _ _ hSz.2.1; have c1_12 := cell_of_row _ _ 12 _ _ _ hSz.2.1; have c1_13 := cell_of_row _ _ 13 _ _ _ hSz.2.1; have c3_0 := cell_of_row _ _ 0 _ _ _ hSz.2.2; have c3_1 := cell_of_row _ _ 1 _ _ _ hSz.2.2; have c3_2 := cell_of_row _ _ 2 _ _ _ hSz.2.2; simp at c0_0 c0_1 c0_2 c0_3 c0_4 c0_5 c0_6 c1_0 c1_1 c1_2 c1_3 c1_4 c1_5 c1_6 c1_7 c1_8 c1_9 c1_10 c1_11 c1_12 c1_13 c3_0 c3_1 c3_2; go_simp; try with_reducible rfl)⟩) hS0 ?_
    go_simp
    refine wpAnyH_take (i := 10) (v := ?_) rfl (by kernel_rfl) (by kernel_rfl) (by kernel_rfl) (fun _ _ _ h => h) (Or.inl ⟨by kernel_rfl, by (intro wz hSz; have c0_0 := cell_of_row _ _ 0 _ _ _ hSz.1; have c0_1 := cell_of_row _ _ 1 _ _ _ hSz.1; have c0_2 := cell_of_row _ _ 2 _ _ _ hSz.1; have c0_3 := cell_of_row _ _ 3 _ _ _ hSz.1; have c0_4 := cell_of_row _ _ 4 _ _ _ hSz.1; have c0_5 := cell_of_row _ _ 5 _ _ _ hSz.1; have c0_6 := cell_of_row _ _ 6 _ _ _ hSz.1; have c1_0 := cell_of_row _ _ 0 _ _ _ hSz.2.1; have c1_1 := cell_of_row _ _ 1 _ _ _ hSz.2.1; have c1_2 := cell_of_row _ _ 2 _ _ _ hSz.2.1; have c1_3 := cell_of_row _ _ 3 _ _ _ hSz.2.1; have c1_4 := cell_of_row _ _ 4 _ _ _ hSz.2.1; have c1_5 := cell_of_row _ _ 5 _ _ _ hSz.2.1; have c1_6 := cell_of_row _ _ 6 _ _ _ hSz.2.1; have c1_7 := cell_of_row _ _ 7 _ _ _ hSz.2.1; have c1_8 := cell_of_row _ _ 8 _ _ _ hSz.2.1; have c1_9 := cell_of_row _ _ 9 _ _ _ hSz.2.1; have c1_10 := cell_of_row _ _ 10 _ _ _ hSz.2.1; have c1_11 := cell_of_row _ _ 11 _ _ _ hSz.2.1; have c1_12 := cell_of_row _ _ 12 _ _ _ hSz.2.1; have c1_13 := cell_of_row _ _ 13 _ _ _ hSz.2.1; have c3_0 := cell_of_row _ _ 0 _ _ _ hSz.2.2; have c3_1 := cell_of_row _ _ 1 _ _ _ hSz.2.2; have c3_2 := cell_of_row _ _ 2 _ _ _ hSz.2.2; simp at c0_0 c0_1 c0_2 c0_3 c0_4 c0_5 c0_6 c1_0 c1_1 c1_2 c1_3 c1_4 c1_5 c1_6 c1_7 c1_8 c1_9 c1_10 c1_11 c1_12 c1_13 c3_0 c3_1 c3_2; go_simp; try with_reducible rfl)⟩) hS0 ?_
    go_simp
    refine wpAnyH_ready (rs := [5, 12, 13]) (by kernel_rfl) (by simp) ?_
    refine AllReadyH.cons rfl (fun K hK => ?_) (AllReadyH.cons rfl (fun K hK => ?_) (AllReadyH.cons rfl (fun K hK => ?_) AllReadyH.nil))
    · skip
      go_simp
      go_wp2_with (go_at_call 86; refine (vsub_any _ _ _ _ _ _ _).mono ?_; rintro e y3 ⟨rfl, hb3⟩; try rw [he_x, he_y, he_z])
      have hr3_0 := (hb3.block _ (lt_heap hr2_0)).trans hr2_0
      have hr3_1 := (hb3.block _ (lt_heap hr2_1)).trans hr2_1
      have hr3_2 := (hb3.block _ (lt_heap hr2_2)).trans hr2_2
      have hr3_3 := (hb3.block _ (lt_heap hr2_3)).trans hr2_3
      have HU3 := Lib.hid (HU2.out.trans (hb3.mono HU2.out.size))
      refine hK.out _ _ (⟨(hb3.block _ (lt_heap hS0.1)).trans hS0.1, (hb3.block _ (lt_heap hS0.2.1)).trans hS0.2.1, (hb3.block _ (lt_heap hS0.2.2)).trans hS0.2.2⟩) (fun hS3c => ?_)
      clear hK K
      refine wpAnyH_ready (rs := [11, 12, 13]) (by kernel_rfl) (by simp) ?_
      refine AllReadyH.cons rfl (fun K hK => ?_) (AllReadyH.cons rfl (fun K hK => ?_) (AllReadyH.cons rfl (fun K hK => ?_) AllReadyH.nil))
      · skip
        go_simp
        go_wp2_with (go_at_call 86; refine (vsub_any _ _ _ _ _ _ _).mono ?_; rintro e y4 ⟨rfl, hb4⟩; try rw [hg_x, hg_y, hg_z])
        have hr4_0 := (hb4.block _ (lt_heap hr3_0)).trans hr3_0
        have hr4_1 := (hb4.block _ (lt_heap hr3_1)).trans hr3_1
        have hr4_2 := (hb4.block _ (lt_heap hr3_2)).trans hr3_2
        have hr4_3 := (hb4.block _ (lt_heap hr3_3)).trans hr3_3
        have HU4 := Lib.hid (HU3.out.trans (hb4.mono HU3.out.size))
        refine hK.out _ _ (⟨(hb4.block _ (lt_heap hS3c.1)).trans hS3c.1, (hb4.block _ (lt_heap hS3c.2.1)).trans hS3c.2.1, (hb4.block _ (lt_heap hS3c.2.2)).trans hS3c.2.2⟩) (fun hS4c => ?_)
        clear hK K
        refine wpAnyH_ready (rs := [12, 13]) (by kernel_rfl) (by simp) ?_
        refine AllReadyH.cons rfl (fun K hK => ?_) (AllReadyH.cons rfl (fun K hK => ?_) AllReadyH.nil)
        · skip
          go_simp
          have hb5 := below_n1 y4 (.cells #[.int .i64 0, .int .i64 0, .int .i64 0] 71)
          have hN := heap_alloc_last y4 (.cells #[.int .i64 0, .int .i64 0, .int .i64 0] 71)
          obtain ⟨y5, hy5⟩ : ∃ y, y4.alloc (.cells #[.int .i64 0, .int .i64 0, .int .i64 0] 71) = y := ⟨_, rfl⟩
          rw [hy5] at hb5 hN ⊢
          clear hy5
          have hl5_0 := lt_heap hr4_0
          have hr5_0 := (hb5.block _ (lt_heap hr4_0)).trans hr4_0
          have hl5_1 := lt_heap hr4_1
          have hr5_1 := (hb5.block _ (lt_heap hr4_1)).trans hr4_1
          have hl5_2 := lt_heap hr4_2
          have hr5_2 := (hb5.block _ (lt_heap hr4_2)).trans hr4_2
          have hl5_3 := lt_heap hr4_3
          have hr5_3 := (hb5.block _ (lt_heap hr4_3)).trans hr4_3
          have hr5_4 := hN
          clear hN
          have HU5 := Lib.hid (HU4.out.trans (hb5.mono HU4.out.size))
          refine hK.out _ _ (⟨(hb5.block _ (lt_heap hS4c.1)).trans hS4c.1, (hb5.block _ (lt_heap hS4c.2.1)).trans hS4c.2.1, (hb5.block _ (lt_heap hS4c.2.2)).trans hS4c.2.2⟩) (fun hS5a => ?_)
          clear hK K
          refine wpAnyH_ready (rs := [13]) (by kernel_rfl) (by simp) ?_
          refine AllReadyH.cons rfl (fun K hK => ?_) AllReadyH.nil
          go_simp
          have hb6 := below_n1 y5 (.cells #[.int .i64 0, .int .i64 0, .int .i64 0] 71)
          have hN := heap_alloc_last y5 (.cells #[.int .i64 0, .int .i64 0, .int .i64 0] 71)
          obtain ⟨y6, hy6⟩ : ∃ y, y5.alloc (.cells #[.int .i64 0, .int .i64 0, .int .i64 0] 71) = y := ⟨_, rfl⟩
          rw [hy6] at hb6 hN ⊢
          clear hy6
          have hl6_0 := lt_heap hr5_0
          have hr6_0 := (hb6.block _ (lt_heap hr5_0)).trans hr5_0
          have hl6_1 := lt_heap hr5_1
          have hr6_1 := (hb6.block _ (lt_heap hr5_1)).trans hr5_1
          have hl6_2 := lt_heap hr5_2
          have hr6_2 := (hb6.block _ (lt_heap hr5_2)).trans hr5_2
          have hl6_3 := lt_heap hr5_3
          have hr6_3 := (hb6.block _ (lt_heap hr5_3)).trans hr5_3
          have hl6_4 := lt_heap hr5_4
          have hr6_4 := (hb6.block _ (lt_heap hr5_4)).trans hr5_4
          have hr6_5 := hN
          clear hN
          have HU6 := Lib.hid (HU5.out.trans (hb6.mono HU5.out.size))
          refine hK.out _ _ (⟨(hb6.block _ (lt_heap hS5a.1)).trans hS5a.1, (hb6.block _ (lt_heap hS5a.2.1)).trans hS5a.2.1, (hb6.block _ (lt_heap hS5a.2.2)).trans hS5a.2.2⟩) (fun hS6a => ?_)
          clear hK K
          refine wpAnyH_ready (rs := [14]) (by kernel_rfl) (by simp) ?_
          refine AllReadyH.cons rfl (fun K hK => ?_) AllReadyH.nil
          refine step_store_row rfl 71 (.tmp 7) (.tmp 25) rfl #[.int .i64 0, .int .i64 0, .int .i64 0] #[.int .i64 e_x, .int .i64 e_y, .int .i64 e_z] _ 71 hr6_4 rfl (by first | rfl | (go_simp; done) | (go_simp; rfl)) (by kernel_rfl) rfl (by simp [Value.oneCell']) ?_
          have hN := setRow_heap _ (y4.heap.size) _ #[.int .i64 e_x, .int .i64 e_y, .int .i64 e_z] _ _ hr6_4
          have hsz := HU6.out.size
          have HUx := below_setRow (g := y4.heap.size) HU6.out (by first | omega | (simp at *; omega)) #[.int .i64 e_x, .int .i64 e_y, .int .i64 e_z]
          obtain ⟨y7, hy7⟩ : ∃ y, y6.setRow (y4.heap.size) #[.int .i64 e_x, .int .i64 e_y, .int .i64 e_z] = y := ⟨_, rfl⟩
          have hO : ∀ k, k ≠ y4.heap.size → y7.heap[k]? = y6.heap[k]? := fun k hk => by rw [← hy7]; exact setRow_other _ _ _ _ hk
          rw [hy7] at hN HUx ⊢
          clear hy7
          have HU7 := Lib.hid HUx
          clear HUx
          have hr7_0 := (hO _ (by omega)).trans hr6_0
          have hr7_1 := (hO _ (by omega)).trans hr6_1
          have hr7_2 := (hO _ (by omega)).trans hr6_2
          have hr7_3 := (hO _ (by omega)).trans hr6_3
          have hr7_4 := hN
          have hr7_5 := (hO _ (by omega)).trans hr6_5
          clear hN
          refine hK.out _ _ (⟨(hO _ (by omega)).trans hS6a.1, (hO _ (by omega)).trans hS6a.2.1, (hO _ (by omega)).trans hS6a.2.2⟩) (fun hS7s => ?_)
          clear hK K
          refine wpAnyH_ready (rs := [15]) (by kernel_rfl) (by simp) ?_
          refine AllReadyH.cons rfl (fun K hK => ?_) AllReadyH.nil
          refine step_store_row rfl 71 (.tmp 8) (.tmp 31) rfl #[.int .i64 0, .int .i64 0, .int .i64 0] #[.int .i64 g_x, .int .i64 g_y, .int .i64 g_z] _ 71 hr7_5 rfl (by first | rfl | (go_simp; done) | (go_simp; rfl)) (by kernel_rfl) rfl (by simp [Value.oneCell']) ?_
          have hN := setRow_heap _ (y5.heap.size) _ #[.int .i64 g_x, .int .i64 g_y, .int .i64 g_z] _ _ hr7_5
          have hsz := HU7.out.size
          have HUx := below_setRow (g := y5.heap.size) HU7.out (by first | omega | (simp at *; omega)) #[.int .i64 g_x, .int .i64 g_y, .int .i64 g_z]
          obtain ⟨y8, hy8⟩ : ∃ y, y7.setRow (y5.heap.size) #[.int .i64 g_x, .int .i64 g_y, .int .i64 g_z] = y := ⟨_, rfl⟩
          have hO : ∀ k, k ≠ y5.heap.size → y8.heap[k]? = y7.heap[k]? := fun k hk => by rw [← hy8]; exact setRow_other _ _ _ _ hk
          rw [hy8] at hN HUx ⊢
          clear hy8
          have HU8 := Lib.hid HUx
          clear HUx
          have hr8_0 := (hO _ (by omega)).trans hr7_0
          have hr8_1 := (hO _ (by omega)).trans hr7_1
          have hr8_2 := (hO _ (by omega)).trans hr7_2
          have hr8_3 := (hO _ (by omega)).trans hr7_3
          have hr8_4 := (hO _ (by omega)).trans hr7_4
          have hr8_5 := hN
          clear hN
          refine hK.out _ _ (⟨(hO _ (by omega)).trans hS7s.1, (hO _ (by omega)).trans hS7s.2.1, (hO _ (by omega)).trans hS7s.2.2⟩) (fun hS8s => ?_)
          clear hK K
          refine wpAnyH_done (by kernel_rfl) ?_ _
          go_wp2_with fail
          go_meet
          exact ⟨_, _, rfl, rfl, by omega, by omega, hr8_4, hr8_5, hr8_0, hr8_1, hr8_2, hr8_3, HU8⟩
        · skip
          go_simp
          have hb5 := below_n1 y4 (.cells #[.int .i64 0, .int .i64 0, .int .i64 0] 71)
          have hN := heap_alloc_last y4 (.cells #[.int .i64 0, .int .i64 0, .int .i64 0] 71)
          obtain ⟨y5, hy5⟩ : ∃ y, y4.alloc (.cells #[.int .i64 0, .int .i64 0, .int .i64 0] 71) = y := ⟨_, rfl⟩
          rw [hy5] at hb5 hN ⊢
          clear hy5
          have hl5_0 := lt_heap hr4_0
          have hr5_0 := (hb5.block _ (lt_heap hr4_0)).trans hr4_0
          have hl5_1 := lt_heap hr4_1
          have hr5_1 := (hb5.block _ (lt_heap hr4_1)).trans hr4_1
          have hl5_2 := lt_heap hr4_2
          have hr5_2 := (hb5.block _ (lt_heap hr4_2)).trans hr4_2
          have hl5_3 := lt_heap hr4_3
          have hr5_3 := (hb5.block _ (lt_heap hr4_3)).trans hr4_3
          have hr5_4 := hN
          clear hN
          have HU5 := Lib.hid (HU4.out.trans (hb5.mono HU4.out.size))
          refine hK.out _ _ (⟨(hb5.block _ (lt_heap hS4c.1)).trans hS4c.1, (hb5.block _ (lt_heap hS4c.2.1)).trans hS4c.2.1, (hb5.block _ (lt_heap hS4c.2.2)).trans hS4c.2.2⟩) (fun hS5a => ?_)
          clear hK K
          refine wpAnyH_ready (rs := [12]) (by kernel_rfl) (by simp) ?_
          refine AllReadyH.cons rfl (fun K hK => ?_) AllReadyH.nil
          go_simp
          have hb6 := below_n1 y5 (.cells #[.int .i64 0, .int .i64 0, .int .i64 0] 71)
          have hN := heap_alloc_last y5 (.cells #[.int .i64 0, .int .i64 0, .int .i64 0] 71)
          obtain ⟨y6, hy6⟩ : ∃ y, y5.alloc (.cells #[.int .i64 0, .int .i64 0, .int .i64 0] 71) = y := ⟨_, rfl⟩
          rw [hy6] at hb6 hN ⊢
          clear hy6
          have hl6_0 := lt_heap hr5_0
          have hr6_0 := (hb6.block _ (lt_heap hr5_0)).trans hr5_0
          have hl6_1 := lt_heap hr5_1
          have hr6_1 := (hb6.block _ (lt_heap hr5_1)).trans hr5_1
          have hl6_2 := lt_heap hr5_2
          have hr6_2 := (hb6.block _ (lt_heap hr5_2)).trans hr5_2
          have hl6_3 := lt_heap hr5_3
          have hr6_3 := (hb6.block _ (lt_heap hr5_3)).trans hr5_3
          have hl6_4 := lt_heap hr5_4
          have hr6_4 := (hb6.block _ (lt_heap hr5_4)).trans hr5_4
          have hr6_5 := hN
          clear hN
          have HU6 := Lib.hid (HU5.out.trans (hb6.mono HU5.out.size))
          refine hK.out _ _ (⟨(hb6.block _ (lt_heap hS5a.1)).trans hS5a.1, (hb6.block _ (lt_heap hS5a.2.1)).trans hS5a.2.1, (hb6.block _ (lt_heap hS5a.2.2)).trans hS5a.2.2⟩) (fun hS6a => ?_)
          clear hK K
          refine wpAnyH_ready (rs := [14]) (by kernel_rfl) (by simp) ?_
          refine AllReadyH.cons rfl (fun K hK => ?_) AllReadyH.nil
          refine step_store_row rfl 71 (.tmp 7) (.tmp 25) rfl #[.int .i64 0, .int .i64 0, .int .i64 0] #[.int .i64 e_x, .int .i64 e_y, .int .i64 e_z] _ 71 hr6_5 rfl (by first | rfl | (go_simp; done) | (go_simp; rfl)) (by kernel_rfl) rfl (by simp [Value.oneCell']) ?_
          have hN := setRow_heap _ (y5.heap.size) _ #[.int .i64 e_x, .int .i64 e_y, .int .i64 e_z] _ _ hr6_5
          have hsz := HU6.out.size
          have HUx := below_setRow (g := y5.heap.size) HU6.out (by first | omega | (simp at *; omega)) #[.int .i64 e_x, .int .i64 e_y, .int .i64 e_z]
          obtain ⟨y7, hy7⟩ : ∃ y, y6.setRow (y5.heap.size) #[.int .i64 e_x, .int .i64 e_y, .int .i64 e_z] = y := ⟨_, rfl⟩
          have hO : ∀ k, k ≠ y5.heap.size → y7.heap[k]? = y6.heap[k]? := fun k hk => by rw [← hy7]; exact setRow_other _ _ _ _ hk
          rw [hy7] at hN HUx ⊢
          clear hy7
          have HU7 := Lib.hid HUx
          clear HUx
          have hr7_0 := (hO _ (by omega)).trans hr6_0
          have hr7_1 := (hO _ (by omega)).trans hr6_1
          have hr7_2 := (hO _ (by omega)).trans hr6_2
          have hr7_3 := (hO _ (by omega)).trans hr6_3
          have hr7_4 := (hO _ (by omega)).trans hr6_4
          have hr7_5 := hN
          clear hN
          refine hK.out _ _ (⟨(hO _ (by omega)).trans hS6a.1, (hO _ (by omega)).trans hS6a.2.1, (hO _ (by omega)).trans hS6a.2.2⟩) (fun hS7s => ?_)
          clear hK K
          refine wpAnyH_ready (rs := [15]) (by kernel_rfl) (by simp) ?_
          refine AllReadyH.cons rfl (fun K hK => ?_) AllReadyH.nil
          refine step_store_row rfl 71 (.tmp 8) (.tmp 31) rfl #[.int .i64 0, .int .i64 0, .int .i64 0] #[.int .i64 g_x, .int .i64 g_y, .int .i64 g_z] _ 71 hr7_4 rfl (by first | rfl | (go_simp; done) | (go_simp; rfl)) (by kernel_rfl) rfl (by simp [Value.oneCell']) ?_
          have hN := setRow_heap _ (y4.heap.size) _ #[.int .i64 g_x, .int .i64 g_y, .int .i64 g_z] _ _ hr7_4
          have hsz := HU7.out.size
          have HUx := below_setRow (g := y4.heap.size) HU7.out (by first | omega | (simp at *; omega)) #[.int .i64 g_x, .int .i64 g_y, .int .i64 g_z]
          obtain ⟨y8, hy8⟩ : ∃ y, y7.setRow (y4.heap.size) #[.int .i64 g_x, .int .i64 g_y, .int .i64 g_z] = y := ⟨_, rfl⟩
          have hO : ∀ k, k ≠ y4.heap.size → y8.heap[k]? = y7.heap[k]? := fun k hk => by rw [← hy8]; exact setRow_other _ _ _ _ hk
          rw [hy8] at hN HUx ⊢
          clear hy8
          have HU8 := Lib.hid HUx
          clear HUx
          have hr8_0 := (hO _ (by omega)).trans hr7_0
          have hr8_1 := (hO _ (by omega)).trans hr7_1
          have hr8_2 := (hO _ (by omega)).trans hr7_2
          have hr8_3 := (hO _ (by omega)).trans hr7_3
          have hr8_4 := hN
          have hr8_5 := (hO _ (by omega)).trans hr7_5
          clear hN
          refine hK.out _ _ (⟨(hO _ (by omega)).trans hS7s.1, (hO _ (by omega)).trans hS7s.2.1, (hO _ (by omega)).trans hS7s.2.2⟩) (fun hS8s => ?_)
          clear hK K
          refine wpAnyH_done (by kernel_rfl) ?_ _
          go_wp2_with fail
          go_meet
          exact ⟨_, _, rfl, rfl, by omega, by omega, hr8_5, hr8_4, hr8_0, hr8_1, hr8_2, hr8_3, HU8⟩
      · skip
        go_simp
        have hb4 := below_n1 y3 (.cells #[.int .i64 0, .int .i64 0, .int .i64 0] 71)
        have hN := heap_alloc_last y3 (.cells #[.int .i64 0, .int .i64 0, .int .i64 0] 71)
        obtain ⟨y4, hy4⟩ : ∃ y, y3.alloc (.cells #[.int .i64 0, .int .i64 0, .int .i64 0] 71) = y := ⟨_, rfl⟩
        rw [hy4] at hb4 hN ⊢
        clear hy4
        have hl4_0 := lt_heap hr3_0
        have hr4_0 := (hb4.block _ (lt_heap hr3_0)).trans hr3_0
        have hl4_1 := lt_heap hr3_1
        have hr4_1 := (hb4.block _ (lt_heap hr3_1)).trans hr3_1
        have hl4_2 := lt_heap hr3_2
        have hr4_2 := (hb4.block _ (lt_heap hr3_2)).trans hr3_2
        have hl4_3 := lt_heap hr3_3
        have hr4_3 := (hb4.block _ (lt_heap hr3_3)).trans hr3_3
        have hr4_4 := hN
        clear hN
        have HU4 := Lib.hid (HU3.out.trans (hb4.mono HU3.out.size))
        refine hK.out _ _ (⟨(hb4.block _ (lt_heap hS3c.1)).trans hS3c.1, (hb4.block _ (lt_heap hS3c.2.1)).trans hS3c.2.1, (hb4.block _ (lt_heap hS3c.2.2)).trans hS3c.2.2⟩) (fun hS4a => ?_)
        clear hK K
        refine wpAnyH_ready (rs := [11, 13]) (by kernel_rfl) (by simp) ?_
        refine AllReadyH.cons rfl (fun K hK => ?_) (AllReadyH.cons rfl (fun K hK => ?_) AllReadyH.nil)
        · skip
          go_simp
          go_wp2_with (go_at_call 86; refine (vsub_any _ _ _ _ _ _ _).mono ?_; rintro e y5 ⟨rfl, hb5⟩; try rw [hg_x, hg_y, hg_z])
          have hr5_0 := (hb5.block _ (lt_heap hr4_0)).trans hr4_0
          have hr5_1 := (hb5.block _ (lt_heap hr4_1)).trans hr4_1
          have hr5_2 := (hb5.block _ (lt_heap hr4_2)).trans hr4_2
          have hr5_3 := (hb5.block _ (lt_heap hr4_3)).trans hr4_3
          have hr5_4 := (hb5.block _ (lt_heap hr4_4)).trans hr4_4
          have HU5 := Lib.hid (HU4.out.trans (hb5.mono HU4.out.size))
          refine hK.out _ _ (⟨(hb5.block _ (lt_heap hS4a.1)).trans hS4a.1, (hb5.block _ (lt_heap hS4a.2.1)).trans hS4a.2.1, (hb5.block _ (lt_heap hS4a.2.2)).trans hS4a.2.2⟩) (fun hS5c => ?_)
          clear hK K
          refine wpAnyH_ready (rs := [13]) (by kernel_rfl) (by simp) ?_
          refine AllReadyH.cons rfl (fun K hK => ?_) AllReadyH.nil
          go_simp
          have hb6 := below_n1 y5 (.cells #[.int .i64 0, .int .i64 0, .int .i64 0] 71)
          have hN := heap_alloc_last y5 (.cells #[.int .i64 0, .int .i64 0, .int .i64 0] 71)
          obtain ⟨y6, hy6⟩ : ∃ y, y5.alloc (.cells #[.int .i64 0, .int .i64 0, .int .i64 0] 71) = y := ⟨_, rfl⟩
          rw [hy6] at hb6 hN ⊢
          clear hy6
          have hl6_0 := lt_heap hr5_0
          have hr6_0 := (hb6.block _ (lt_heap hr5_0)).trans hr5_0
          have hl6_1 := lt_heap hr5_1
          have hr6_1 := (hb6.block _ (lt_heap hr5_1)).trans hr5_1
          have hl6_2 := lt_heap hr5_2
          have hr6_2 := (hb6.block _ (lt_heap hr5_2)).trans hr5_2
          have hl6_3 := lt_heap hr5_3
          have hr6_3 := (hb6.block _ (lt_heap hr5_3)).trans hr5_3
          have hl6_4 := lt_heap hr5_4
          have hr6_4 := (hb6.block _ (lt_heap hr5_4)).trans hr5_4
          have hr6_5 := hN
          clear hN
          have HU6 := Lib.hid (HU5.out.trans (hb6.mono HU5.out.size))
          refine hK.out _ _ (⟨(hb6.block _ (lt_heap hS5c.1)).trans hS5c.1, (hb6.block _ (lt_heap hS5c.2.1)).trans hS5c.2.1, (hb6.block _ (lt_heap hS5c.2.2)).trans hS5c.2.2⟩) (fun hS6a => ?_)
          clear hK K
          refine wpAnyH_ready (rs := [14]) (by kernel_rfl) (by simp) ?_
          refine AllReadyH.cons rfl (fun K hK => ?_) AllReadyH.nil
          refine step_store_row rfl 71 (.tmp 7) (.tmp 25) rfl #[.int .i64 0, .int .i64 0, .int .i64 0] #[.int .i64 e_x, .int .i64 e_y, .int .i64 e_z] _ 71 hr6_4 rfl (by first | rfl | (go_simp; done) | (go_simp; rfl)) (by kernel_rfl) rfl (by simp [Value.oneCell']) ?_
          have hN := setRow_heap _ (y3.heap.size) _ #[.int .i64 e_x, .int .i64 e_y, .int .i64 e_z] _ _ hr6_4
          have hsz := HU6.out.size
          have HUx := below_setRow (g := y3.heap.size) HU6.out (by first | omega | (simp at *; omega)) #[.int .i64 e_x, .int .i64 e_y, .int .i64 e_z]
          obtain ⟨y7, hy7⟩ : ∃ y, y6.setRow (y3.heap.size) #[.int .i64 e_x, .int .i64 e_y, .int .i64 e_z] = y := ⟨_, rfl⟩
          have hO : ∀ k, k ≠ y3.heap.size → y7.heap[k]? = y6.heap[k]? := fun k hk => by rw [← hy7]; exact setRow_other _ _ _ _ hk
          rw [hy7] at hN HUx ⊢
          clear hy7
          have HU7 := Lib.hid HUx
          clear HUx
          have hr7_0 := (hO _ (by omega)).trans hr6_0
          have hr7_1 := (hO _ (by omega)).trans hr6_1
          have hr7_2 := (hO _ (by omega)).trans hr6_2
          have hr7_3 := (hO _ (by omega)).trans hr6_3
          have hr7_4 := hN
          have hr7_5 := (hO _ (by omega)).trans hr6_5
          clear hN
          refine hK.out _ _ (⟨(hO _ (by omega)).trans hS6a.1, (hO _ (by omega)).trans hS6a.2.1, (hO _ (by omega)).trans hS6a.2.2⟩) (fun hS7s => ?_)
          clear hK K
          refine wpAnyH_ready (rs := [15]) (by kernel_rfl) (by simp) ?_
          refine AllReadyH.cons rfl (fun K hK => ?_) AllReadyH.nil
          refine step_store_row rfl 71 (.tmp 8) (.tmp 31) rfl #[.int .i64 0, .int .i64 0, .int .i64 0] #[.int .i64 g_x, .int .i64 g_y, .int .i64 g_z] _ 71 hr7_5 rfl (by first | rfl | (go_simp; done) | (go_simp; rfl)) (by kernel_rfl) rfl (by simp [Value.oneCell']) ?_
          have hN := setRow_heap _ (y5.heap.size) _ #[.int .i64 g_x, .int .i64 g_y, .int .i64 g_z] _ _ hr7_5
          have hsz := HU7.out.size
          have HUx := below_setRow (g := y5.heap.size) HU7.out (by first | omega | (simp at *; omega)) #[.int .i64 g_x, .int .i64 g_y, .int .i64 g_z]
          obtain ⟨y8, hy8⟩ : ∃ y, y7.setRow (y5.heap.size) #[.int .i64 g_x, .int .i64 g_y, .int .i64 g_z] = y := ⟨_, rfl⟩
          have hO : ∀ k, k ≠ y5.heap.size → y8.heap[k]? = y7.heap[k]? := fun k hk => by rw [← hy8]; exact setRow_other _ _ _ _ hk
          rw [hy8] at hN HUx ⊢
          clear hy8
          have HU8 := Lib.hid HUx
          clear HUx
          have hr8_0 := (hO _ (by omega)).trans hr7_0
          have hr8_1 := (hO _ (by omega)).trans hr7_1
          have hr8_2 := (hO _ (by omega)).trans hr7_2
          have hr8_3 := (hO _ (by omega)).trans hr7_3
          have hr8_4 := (hO _ (by omega)).trans hr7_4
          have hr8_5 := hN
          clear hN
          refine hK.out _ _ (⟨(hO _ (by omega)).trans hS7s.1, (hO _ (by omega)).trans hS7s.2.1, (hO _ (by omega)).trans hS7s.2.2⟩) (fun hS8s => ?_)
          clear hK K
          refine wpAnyH_done (by kernel_rfl) ?_ _
          go_wp2_with fail
          go_meet
          exact ⟨_, _, rfl, rfl, by omega, by omega, hr8_4, hr8_5, hr8_0, hr8_1, hr8_2, hr8_3, HU8⟩
        · skip
          go_simp
          have hb5 := below_n1 y4 (.cells #[.int .i64 0, .int .i64 0, .int .i64 0] 71)
          have hN := heap_alloc_last y4 (.cells #[.int .i64 0, .int .i64 0, .int .i64 0] 71)
          obtain ⟨y5, hy5⟩ : ∃ y, y4.alloc (.cells #[.int .i64 0, .int .i64 0, .int .i64 0] 71) = y := ⟨_, rfl⟩
          rw [hy5] at hb5 hN ⊢
          clear hy5
          have hl5_0 := lt_heap hr4_0
          have hr5_0 := (hb5.block _ (lt_heap hr4_0)).trans hr4_0
          have hl5_1 := lt_heap hr4_1
          have hr5_1 := (hb5.block _ (lt_heap hr4_1)).trans hr4_1
          have hl5_2 := lt_heap hr4_2
          have hr5_2 := (hb5.block _ (lt_heap hr4_2)).trans hr4_2
          have hl5_3 := lt_heap hr4_3
          have hr5_3 := (hb5.block _ (lt_heap hr4_3)).trans hr4_3
          have hl5_4 := lt_heap hr4_4
          have hr5_4 := (hb5.block _ (lt_heap hr4_4)).trans hr4_4
          have hr5_5 := hN
          clear hN
          have HU5 := Lib.hid (HU4.out.trans (hb5.mono HU4.out.size))
          refine hK.out _ _ (⟨(hb5.block _ (lt_heap hS4a.1)).trans hS4a.1, (hb5.block _ (lt_heap hS4a.2.1)).trans hS4a.2.1, (hb5.block _ (lt_heap hS4a.2.2)).trans hS4a.2.2⟩) (fun hS5a => ?_)
          clear hK K
          refine wpAnyH_ready (rs := [11]) (by kernel_rfl) (by simp) ?_
          refine AllReadyH.cons rfl (fun K hK => ?_) AllReadyH.nil
          go_simp
          go_wp2_with (go_at_call 86; refine (vsub_any _ _ _ _ _ _ _).mono ?_; rintro e y6 ⟨rfl, hb6⟩; try rw [hg_x, hg_y, hg_z])
          have hr6_0 := (hb6.block _ (lt_heap hr5_0)).trans hr5_0
          have hr6_1 := (hb6.block _ (lt_heap hr5_1)).trans hr5_1
          have hr6_2 := (hb6.block _ (lt_heap hr5_2)).trans hr5_2
          have hr6_3 := (hb6.block _ (lt_heap hr5_3)).trans hr5_3
          have hr6_4 := (hb6.block _ (lt_heap hr5_4)).trans hr5_4
          have hr6_5 := (hb6.block _ (lt_heap hr5_5)).trans hr5_5
          have HU6 := Lib.hid (HU5.out.trans (hb6.mono HU5.out.size))
          refine hK.out _ _ (⟨(hb6.block _ (lt_heap hS5a.1)).trans hS5a.1, (hb6.block _ (lt_heap hS5a.2.1)).trans hS5a.2.1, (hb6.block _ (lt_heap hS5a.2.2)).trans hS5a.2.2⟩) (fun hS6c => ?_)
          clear hK K
          refine wpAnyH_ready (rs := [14]) (by kernel_rfl) (by simp) ?_
          refine AllReadyH.cons rfl (fun K hK => ?_) AllReadyH.nil
          refine step_store_row rfl 71 (.tmp 7) (.tmp 25) rfl #[.int .i64 0, .int .i64 0, .int .i64 0] #[.int .i64 e_x, .int .i64 e_y, .int .i64 e_z] _ 71 hr6_4 rfl (by first | rfl | (go_simp; done) | (go_simp; rfl)) (by kernel_rfl) rfl (by simp [Value.oneCell']) ?_
          have hN := setRow_heap _ (y3.heap.size) _ #[.int .i64 e_x, .int .i64 e_y, .int .i64 e_z] _ _ hr6_4
          have hsz := HU6.out.size
          have HUx := below_setRow (g := y3.heap.size) HU6.out (by first | omega | (simp at *; omega)) #[.int .i64 e_x, .int .i64 e_y, .int .i64 e_z]
          obtain ⟨y7, hy7⟩ : ∃ y, y6.setRow (y3.heap.size) #[.int .i64 e_x, .int .i64 e_y, .int .i64 e_z] = y := ⟨_, rfl⟩
          have hO : ∀ k, k ≠ y3.heap.size → y7.heap[k]? = y6.heap[k]? := fun k hk => by rw [← hy7]; exact setRow_other _ _ _ _ hk
          rw [hy7] at hN HUx ⊢
          clear hy7
          have HU7 := Lib.hid HUx
          clear HUx
          have hr7_0 := (hO _ (by omega)).trans hr6_0
          have hr7_1 := (hO _ (by omega)).trans hr6_1
          have hr7_2 := (hO _ (by omega)).trans hr6_2
          have hr7_3 := (hO _ (by omega)).trans hr6_3
          have hr7_4 := hN
          have hr7_5 := (hO _ (by omega)).trans hr6_5
          clear hN
          refine hK.out _ _ (⟨(hO _ (by omega)).trans hS6c.1, (hO _ (by omega)).trans hS6c.2.1, (hO _ (by omega)).trans hS6c.2.2⟩) (fun hS7s => ?_)
          clear hK K
          refine wpAnyH_ready (rs := [15]) (by kernel_rfl) (by simp) ?_
          refine AllReadyH.cons rfl (fun K hK => ?_) AllReadyH.nil
          refine step_store_row rfl 71 (.tmp 8) (.tmp 31) rfl #[.int .i64 0, .int .i64 0, .int .i64 0] #[.int .i64 g_x, .int .i64 g_y, .int .i64 g_z] _ 71 hr7_5 rfl (by first | rfl | (go_simp; done) | (go_simp; rfl)) (by kernel_rfl) rfl (by simp [Value.oneCell']) ?_
          have hN := setRow_heap _ (y4.heap.size) _ #[.int .i64 g_x, .int .i64 g_y, .int .i64 g_z] _ _ hr7_5
          have hsz := HU7.out.size
          have HUx := below_setRow (g := y4.heap.size) HU7.out (by first | omega | (simp at *; omega)) #[.int .i64 g_x, .int .i64 g_y, .int .i64 g_z]
          obtain ⟨y8, hy8⟩ : ∃ y, y7.setRow (y4.heap.size) #[.int .i64 g_x, .int .i64 g_y, .int .i64 g_z] = y := ⟨_, rfl⟩
          have hO : ∀ k, k ≠ y4.heap.size → y8.heap[k]? = y7.heap[k]? := fun k hk => by rw [← hy8]; exact setRow_other _ _ _ _ hk
          rw [hy8] at hN HUx ⊢
          clear hy8
          have HU8 := Lib.hid HUx
          clear HUx
          have hr8_0 := (hO _ (by omega)).trans hr7_0
          have hr8_1 := (hO _ (by omega)).trans hr7_1
          have hr8_2 := (hO _ (by omega)).trans hr7_2
          have hr8_3 := (hO _ (by omega)).trans hr7_3
          have hr8_4 := (hO _ (by omega)).trans hr7_4
          have hr8_5 := hN
          clear hN
          refine hK.out _ _ (⟨(hO _ (by omega)).trans hS7s.1, (hO _ (by omega)).trans hS7s.2.1, (hO _ (by omega)).trans hS7s.2.2⟩) (fun hS8s => ?_)
          clear hK K
          refine wpAnyH_done (by kernel_rfl) ?_ _
          go_wp2_with fail
          go_meet
          exact ⟨_, _, rfl, rfl, by omega, by omega, hr8_4, hr8_5, hr8_0, hr8_1, hr8_2, hr8_3, HU8⟩
      · skip
        go_simp
        have hb4 := below_n1 y3 (.cells #[.int .i64 0, .int .i64 0, .int .i64 0] 71)
        have hN := heap_alloc_last y3 (.cells #[.int .i64 0, .int .i64 0, .int .i64 0] 71)
        obtain ⟨y4, hy4⟩ : ∃ y, y3.alloc (.cells #[.int .i64 0, .int .i64 0, .int .i64 0] 71) = y := ⟨_, rfl⟩
        rw [hy4] at hb4 hN ⊢
        clear hy4
        have hl4_0 := lt_heap hr3_0
        have hr4_0 := (hb4.block _ (lt_heap hr3_0)).trans hr3_0
        have hl4_1 := lt_heap hr3_1
        have hr4_1 := (hb4.block _ (lt_heap hr3_1)).trans hr3_1
        have hl4_2 := lt_heap hr3_2
        have hr4_2 := (hb4.block _ (lt_heap hr3_2)).trans hr3_2
        have hl4_3 := lt_heap hr3_3
        have hr4_3 := (hb4.block _ (lt_heap hr3_3)).trans hr3_3
        have hr4_4 := hN
        clear hN
        have HU4 := Lib.hid (HU3.out.trans (hb4.mono HU3.out.size))
        refine hK.out _ _ (⟨(hb4.block _ (lt_heap hS3c.1)).trans hS3c.1, (hb4.block _ (lt_heap hS3c.2.1)).trans hS3c.2.1, (hb4.block _ (lt_heap hS3c.2.2)).trans hS3c.2.2⟩) (fun hS4a => ?_)
        clear hK K
        refine wpAnyH_ready (rs := [11, 12]) (by kernel_rfl) (by simp) ?_
        refine AllReadyH.cons rfl (fun K hK => ?_) (AllReadyH.cons rfl (fun K hK => ?_) AllReadyH.nil)
        · skip
          go_simp
          go_wp2_with (go_at_call 86; refine (vsub_any _ _ _ _ _ _ _).mono ?_; rintro e y5 ⟨rfl, hb5⟩; try rw [hg_x, hg_y, hg_z])
          have hr5_0 := (hb5.block _ (lt_heap hr4_0)).trans hr4_0
          have hr5_1 := (hb5.block _ (lt_heap hr4_1)).trans hr4_1
          have hr5_2 := (hb5.block _ (lt_heap hr4_2)).trans hr4_2
          have hr5_3 := (hb5.block _ (lt_heap hr4_3)).trans hr4_3
          have hr5_4 := (hb5.block _ (lt_heap hr4_4)).trans hr4_4
          have HU5 := Lib.hid (HU4.out.trans (hb5.mono HU4.out.size))
          refine hK.out _ _ (⟨(hb5.block _ (lt_heap hS4a.1)).trans hS4a.1, (hb5.block _ (lt_heap hS4a.2.1)).trans hS4a.2.1, (hb5.block _ (lt_heap hS4a.2.2)).trans hS4a.2.2⟩) (fun hS5c => ?_)
          clear hK K
          refine wpAnyH_ready (rs := [12]) (by kernel_rfl) (by simp) ?_
          refine AllReadyH.cons rfl (fun K hK => ?_) AllReadyH.nil
          go_simp
          have hb6 := below_n1 y5 (.cells #[.int .i64 0, .int .i64 0, .int .i64 0] 71)
          have hN := heap_alloc_last y5 (.cells #[.int .i64 0, .int .i64 0, .int .i64 0] 71)
          obtain ⟨y6, hy6⟩ : ∃ y, y5.alloc (.cells #[.int .i64 0, .int .i64 0, .int .i64 0] 71) = y := ⟨_, rfl⟩
          rw [hy6] at hb6 hN ⊢
          clear hy6
          have hl6_0 := lt_heap hr5_0
          have hr6_0 := (hb6.block _ (lt_heap hr5_0)).trans hr5_0
          have hl6_1 := lt_heap hr5_1
          have hr6_1 := (hb6.block _ (lt_heap hr5_1)).trans hr5_1
          have hl6_2 := lt_heap hr5_2
          have hr6_2 := (hb6.block _ (lt_heap hr5_2)).trans hr5_2
          have hl6_3 := lt_heap hr5_3
          have hr6_3 := (hb6.block _ (lt_heap hr5_3)).trans hr5_3
          have hl6_4 := lt_heap hr5_4
          have hr6_4 := (hb6.block _ (lt_heap hr5_4)).trans hr5_4
          have hr6_5 := hN
          clear hN
          have HU6 := Lib.hid (HU5.out.trans (hb6.mono HU5.out.size))
          refine hK.out _ _ (⟨(hb6.block _ (lt_heap hS5c.1)).trans hS5c.1, (hb6.block _ (lt_heap hS5c.2.1)).trans hS5c.2.1, (hb6.block _ (lt_heap hS5c.2.2)).trans hS5c.2.2⟩) (fun hS6a => ?_)
          clear hK K
          refine wpAnyH_ready (rs := [14]) (by kernel_rfl) (by simp) ?_
          refine AllReadyH.cons rfl (fun K hK => ?_) AllReadyH.nil
          refine step_store_row rfl 71 (.tmp 7) (.tmp 25) rfl #[.int .i64 0, .int .i64 0, .int .i64 0] #[.int .i64 e_x, .int .i64 e_y, .int .i64 e_z] _ 71 hr6_5 rfl (by first | rfl | (go_simp; done) | (go_simp; rfl)) (by kernel_rfl) rfl (by simp [Value.oneCell']) ?_
          have hN := setRow_heap _ (y5.heap.size) _ #[.int .i64 e_x, .int .i64 e_y, .int .i64 e_z] _ _ hr6_5
          have hsz := HU6.out.size
          have HUx := below_setRow (g := y5.heap.size) HU6.out (by first | omega | (simp at *; omega)) #[.int .i64 e_x, .int .i64 e_y, .int .i64 e_z]
          obtain ⟨y7, hy7⟩ : ∃ y, y6.setRow (y5.heap.size) #[.int .i64 e_x, .int .i64 e_y, .int .i64 e_z] = y := ⟨_, rfl⟩
          have hO : ∀ k, k ≠ y5.heap.size → y7.heap[k]? = y6.heap[k]? := fun k hk => by rw [← hy7]; exact setRow_other _ _ _ _ hk
          rw [hy7] at hN HUx ⊢
          clear hy7
          have HU7 := Lib.hid HUx
          clear HUx
          have hr7_0 := (hO _ (by omega)).trans hr6_0
          have hr7_1 := (hO _ (by omega)).trans hr6_1
          have hr7_2 := (hO _ (by omega)).trans hr6_2
          have hr7_3 := (hO _ (by omega)).trans hr6_3
          have hr7_4 := (hO _ (by omega)).trans hr6_4
          have hr7_5 := hN
          clear hN
          refine hK.out _ _ (⟨(hO _ (by omega)).trans hS6a.1, (hO _ (by omega)).trans hS6a.2.1, (hO _ (by omega)).trans hS6a.2.2⟩) (fun hS7s => ?_)
          clear hK K
          refine wpAnyH_ready (rs := [15]) (by kernel_rfl) (by simp) ?_
          refine AllReadyH.cons rfl (fun K hK => ?_) AllReadyH.nil
          refine step_store_row rfl 71 (.tmp 8) (.tmp 31) rfl #[.int .i64 0, .int .i64 0, .int .i64 0] #[.int .i64 g_x, .int .i64 g_y, .int .i64 g_z] _ 71 hr7_4 rfl (by first | rfl | (go_simp; done) | (go_simp; rfl)) (by kernel_rfl) rfl (by simp [Value.oneCell']) ?_
          have hN := setRow_heap _ (y3.heap.size) _ #[.int .i64 g_x, .int .i64 g_y, .int .i64 g_z] _ _ hr7_4
          have hsz := HU7.out.size
          have HUx := below_setRow (g := y3.heap.size) HU7.out (by first | omega | (simp at *; omega)) #[.int .i64 g_x, .int .i64 g_y, .int .i64 g_z]
          obtain ⟨y8, hy8⟩ : ∃ y, y7.setRow (y3.heap.size) #[.int .i64 g_x, .int .i64 g_y, .int .i64 g_z] = y := ⟨_, rfl⟩
          have hO : ∀ k, k ≠ y3.heap.size → y8.heap[k]? = y7.heap[k]? := fun k hk => by rw [← hy8]; exact setRow_other _ _ _ _ hk
          rw [hy8] at hN HUx ⊢
          clear hy8
          have HU8 := Lib.hid HUx
          clear HUx
          have hr8_0 := (hO _ (by omega)).trans hr7_0
          have hr8_1 := (hO _ (by omega)).trans hr7_1
          have hr8_2 := (hO _ (by omega)).trans hr7_2
          have hr8_3 := (hO _ (by omega)).trans hr7_3
          have hr8_4 := hN
          have hr8_5 := (hO _ (by omega)).trans hr7_5
          clear hN
          refine hK.out _ _ (⟨(hO _ (by omega)).trans hS7s.1, (hO _ (by omega)).trans hS7s.2.1, (hO _ (by omega)).trans hS7s.2.2⟩) (fun hS8s => ?_)
          clear hK K
          refine wpAnyH_done (by kernel_rfl) ?_ _
          go_wp2_with fail
          go_meet
          exact ⟨_, _, rfl, rfl, by omega, by omega, hr8_5, hr8_4, hr8_0, hr8_1, hr8_2, hr8_3, HU8⟩
        · skip
          go_simp
          have hb5 := below_n1 y4 (.cells #[.int .i64 0, .int .i64 0, .int .i64 0] 71)
          have hN := heap_alloc_last y4 (.cells #[.int .i64 0, .int .i64 0, .int .i64 0] 71)
          obtain ⟨y5, hy5⟩ : ∃ y, y4.alloc (.cells #[.int .i64 0, .int .i64 0, .int .i64 0] 71) = y := ⟨_, rfl⟩
          rw [hy5] at hb5 hN ⊢
          clear hy5
          have hl5_0 := lt_heap hr4_0
          have hr5_0 := (hb5.block _ (lt_heap hr4_0)).trans hr4_0
          have hl5_1 := lt_heap hr4_1
          have hr5_1 := (hb5.block _ (lt_heap hr4_1)).trans hr4_1
          have hl5_2 := lt_heap hr4_2
          have hr5_2 := (hb5.block _ (lt_heap hr4_2)).trans hr4_2
          have hl5_3 := lt_heap hr4_3
          have hr5_3 := (hb5.block _ (lt_heap hr4_3)).trans hr4_3
          have hl5_4 := lt_heap hr4_4
          have hr5_4 := (hb5.block _ (lt_heap hr4_4)).trans hr4_4
          have hr5_5 := hN
          clear hN
          have HU5 := Lib.hid (HU4.out.trans (hb5.mono HU4.out.size))
          refine hK.out _ _ (⟨(hb5.block _ (lt_heap hS4a.1)).trans hS4a.1, (hb5.block _ (lt_heap hS4a.2.1)).trans hS4a.2.1, (hb5.block _ (lt_heap hS4a.2.2)).trans hS4a.2.2⟩) (fun hS5a => ?_)
          clear hK K
          refine wpAnyH_ready (rs := [11]) (by kernel_rfl) (by simp) ?_
          refine AllReadyH.cons rfl (fun K hK => ?_) AllReadyH.nil
          go_simp
          go_wp2_with (go_at_call 86; refine (vsub_any _ _ _ _ _ _ _).mono ?_; rintro e y6 ⟨rfl, hb6⟩; try rw [hg_x, hg_y, hg_z])
          have hr6_0 := (hb6.block _ (lt_heap hr5_0)).trans hr5_0
          have hr6_1 := (hb6.block _ (lt_heap hr5_1)).trans hr5_1
          have hr6_2 := (hb6.block _ (lt_heap hr5_2)).trans hr5_2
          have hr6_3 := (hb6.block _ (lt_heap hr5_3)).trans hr5_3
          have hr6_4 := (hb6.block _ (lt_heap hr5_4)).trans hr5_4
          have hr6_5 := (hb6.block _ (lt_heap hr5_5)).trans hr5_5
          have HU6 := Lib.hid (HU5.out.trans (hb6.mono HU5.out.size))
          refine hK.out _ _ (⟨(hb6.block _ (lt_heap hS5a.1)).trans hS5a.1, (hb6.block _ (lt_heap hS5a.2.1)).trans hS5a.2.1, (hb6.block _ (lt_heap hS5a.2.2)).trans hS5a.2.2⟩) (fun hS6c => ?_)
          clear hK K
          refine wpAnyH_ready (rs := [14]) (by kernel_rfl) (by simp) ?_
          refine AllReadyH.cons rfl (fun K hK => ?_) AllReadyH.nil
          refine step_store_row rfl 71 (.tmp 7) (.tmp 25) rfl #[.int .i64 0, .int .i64 0, .int .i64 0] #[.int .i64 e_x, .int .i64 e_y, .int .i64 e_z] _ 71 hr6_5 rfl (by first | rfl | (go_simp; done) | (go_simp; rfl)) (by kernel_rfl) rfl (by simp [Value.oneCell']) ?_
          have hN := setRow_heap _ (y4.heap.size) _ #[.int .i64 e_x, .int .i64 e_y, .int .i64 e_z] _ _ hr6_5
          have hsz := HU6.out.size
          have HUx := below_setRow (g := y4.heap.size) HU6.out (by first | omega | (simp at *; omega)) #[.int .i64 e_x, .int .i64 e_y, .int .i64 e_z]
          obtain ⟨y7, hy7⟩ : ∃ y, y6.setRow (y4.heap.size) #[.int .i64 e_x, .int .i64 e_y, .int .i64 e_z] = y := ⟨_, rfl⟩
          have hO : ∀ k, k ≠ y4.heap.size → y7.heap[k]? = y6.heap[k]? := fun k hk => by rw [← hy7]; exact setRow_other _ _ _ _ hk
          rw [hy7] at hN HUx ⊢
          clear hy7
          have HU7 := Lib.hid HUx
          clear HUx
          have hr7_0 := (hO _ (by omega)).trans hr6_0
          have hr7_1 := (hO _ (by omega)).trans hr6_1
          have hr7_2 := (hO _ (by omega)).trans hr6_2
          have hr7_3 := (hO _ (by omega)).trans hr6_3
          have hr7_4 := (hO _ (by omega)).trans hr6_4
          have hr7_5 := hN
          clear hN
          refine hK.out _ _ (⟨(hO _ (by omega)).trans hS6c.1, (hO _ (by omega)).trans hS6c.2.1, (hO _ (by omega)).trans hS6c.2.2⟩) (fun hS7s => ?_)
          clear hK K
          refine wpAnyH_ready (rs := [15]) (by kernel_rfl) (by simp) ?_
          refine AllReadyH.cons rfl (fun K hK => ?_) AllReadyH.nil
          refine step_store_row rfl 71 (.tmp 8) (.tmp 31) rfl #[.int .i64 0, .int .i64 0, .int .i64 0] #[.int .i64 g_x, .int .i64 g_y, .int .i64 g_z] _ 71 hr7_4 rfl (by first | rfl | (go_simp; done) | (go_simp; rfl)) (by kernel_rfl) rfl (by simp [Value.oneCell']) ?_
          have hN := setRow_heap _ (y3.heap.size) _ #[.int .i64 g_x, .int .i64 g_y, .int .i64 g_z] _ _ hr7_4
          have hsz := HU7.out.size
          have HUx := below_setRow (g := y3.heap.size) HU7.out (by first | omega | (simp at *; omega)) #[.int .i64 g_x, .int .i64 g_y, .int .i64 g_z]
          obtain ⟨y8, hy8⟩ : ∃ y, y7.setRow (y3.heap.size) #[.int .i64 g_x, .int .i64 g_y, .int .i64 g_z] = y := ⟨_, rfl⟩
          have hO : ∀ k, k ≠ y3.heap.size → y8.heap[k]? = y7.heap[k]? := fun k hk => by rw [← hy8]; exact setRow_other _ _ _ _ hk
          rw [hy8] at hN HUx ⊢
          clear hy8
          have HU8 := Lib.hid HUx
          clear HUx
          have hr8_0 := (hO _ (by omega)).trans hr7_0
          have hr8_1 := (hO _ (by omega)).trans hr7_1
          have hr8_2 := (hO _ (by omega)).trans hr7_2
          have hr8_3 := (hO _ (by omega)).trans hr7_3
          have hr8_4 := hN
          have hr8_5 := (hO _ (by omega)).trans hr7_5
          clear hN
          refine hK.out _ _ (⟨(hO _ (by omega)).trans hS7s.1, (hO _ (by omega)).trans hS7s.2.1, (hO _ (by omega)).trans hS7s.2.2⟩) (fun hS8s => ?_)
          clear hK K
          refine wpAnyH_done (by kernel_rfl) ?_ _
          go_wp2_with fail
          go_meet
          exact ⟨_, _, rfl, rfl, by omega, by omega, hr8_5, hr8_4, hr8_0, hr8_1, hr8_2, hr8_3, HU8⟩
    · skip
      go_simp
      have hb3 := below_n1 y2 (.cells #[.int .i64 0, .int .i64 0, .int .i64 0] 71)
      have hN := heap_alloc_last y2 (.cells #[.int .i64 0, .int .i64 0, .int .i64 0] 71)
      obtain ⟨y3, hy3⟩ : ∃ y, y2.alloc (.cells #[.int .i64 0, .int .i64 0, .int .i64 0] 71) = y := ⟨_, rfl⟩
      rw [hy3] at hb3 hN ⊢
      clear hy3
      have hl3_0 := lt_heap hr2_0
      have hr3_0 := (hb3.block _ (lt_heap hr2_0)).trans hr2_0
      have hl3_1 := lt_heap hr2_1
      have hr3_1 := (hb3.block _ (lt_heap hr2_1)).trans hr2_1
      have hl3_2 := lt_heap hr2_2
      have hr3_2 := (hb3.block _ (lt_heap hr2_2)).trans hr2_2
      have hl3_3 := lt_heap hr2_3
      have hr3_3 := (hb3.block _ (lt_heap hr2_3)).trans hr2_3
      have hr3_4 := hN
      clear hN
      have HU3 := Lib.hid (HU2.out.trans (hb3.mono HU2.out.size))
      refine hK.out _ _ (⟨(hb3.block _ (lt_heap hS0.1)).trans hS0.1, (hb3.block _ (lt_heap hS0.2.1)).trans hS0.2.1, (hb3.block _ (lt_heap hS0.2.2)).trans hS0.2.2⟩) (fun hS3a => ?_)
      clear hK K
      refine wpAnyH_ready (rs := [5, 13]) (by kernel_rfl) (by simp) ?_
      refine AllReadyH.cons rfl (fun K hK => ?_) (AllReadyH.cons rfl (fun K hK => ?_) AllReadyH.nil)
      · skip
        go_simp
        go_wp2_with (go_at_call 86; refine (vsub_any _ _ _ _ _ _ _).mono ?_; rintro e y4 ⟨rfl, hb4⟩; try rw [he_x, he_y, he_z])
        have hr4_0 := (hb4.block _ (lt_heap hr3_0)).trans hr3_0
        have hr4_1 := (hb4.block _ (lt_heap hr3_1)).trans hr3_1
        have hr4_2 := (hb4.block _ (lt_heap hr3_2)).trans hr3_2
        have hr4_3 := (hb4.block _ (lt_heap hr3_3)).trans hr3_3
        have hr4_4 := (hb4.block _ (lt_heap hr3_4)).trans hr3_4
        have HU4 := Lib.hid (HU3.out.trans (hb4.mono HU3.out.size))
        refine hK.out _ _ (⟨(hb4.block _ (lt_heap hS3a.1)).trans hS3a.1, (hb4.block _ (lt_heap hS3a.2.1)).trans hS3a.2.1, (hb4.block _ (lt_heap hS3a.2.2)).trans hS3a.2.2⟩) (fun hS4c => ?_)
        clear hK K
        refine wpAnyH_ready (rs := [11, 13]) (by kernel_rfl) (by simp) ?_
        refine AllReadyH.cons rfl (fun K hK => ?_) (AllReadyH.cons rfl (fun K hK => ?_) AllReadyH.nil)
        · skip
          go_simp
          go_wp2_with (go_at_call 86; refine (vsub_any _ _ _ _ _ _ _).mono ?_; rintro e y5 ⟨rfl, hb5⟩; try rw [hg_x, hg_y, hg_z])
          have hr5_0 := (hb5.block _ (lt_heap hr4_0)).trans hr4_0
          have hr5_1 := (hb5.block _ (lt_heap hr4_1)).trans hr4_1
          have hr5_2 := (hb5.block _ (lt_heap hr4_2)).trans hr4_2
          have hr5_3 := (hb5.block _ (lt_heap hr4_3)).trans hr4_3
          have hr5_4 := (hb5.block _ (lt_heap hr4_4)).trans hr4_4
          have HU5 := Lib.hid (HU4.out.trans (hb5.mono HU4.out.size))
          refine hK.out _ _ (⟨(hb5.block _ (lt_heap hS4c.1)).trans hS4c.1, (hb5.block _ (lt_heap hS4c.2.1)).trans hS4c.2.1, (hb5.block _ (lt_heap hS4c.2.2)).trans hS4c.2.2⟩) (fun hS5c => ?_)
          clear hK K
          refine wpAnyH_ready (rs := [13]) (by kernel_rfl) (by simp) ?_
          refine AllReadyH.cons rfl (fun K hK => ?_) AllReadyH.nil
          go_simp
          have hb6 := below_n1 y5 (.cells #[.int .i64 0, .int .i64 0, .int .i64 0] 71)
          have hN := heap_alloc_last y5 (.cells #[.int .i64 0, .int .i64 0, .int .i64 0] 71)
          obtain ⟨y6, hy6⟩ : ∃ y, y5.alloc (.cells #[.int .i64 0, .int .i64 0, .int .i64 0] 71) = y := ⟨_, rfl⟩
          rw [hy6] at hb6 hN ⊢
          clear hy6
          have hl6_0 := lt_heap hr5_0
          have hr6_0 := (hb6.block _ (lt_heap hr5_0)).trans hr5_0
          have hl6_1 := lt_heap hr5_1
          have hr6_1 := (hb6.block _ (lt_heap hr5_1)).trans hr5_1
          have hl6_2 := lt_heap hr5_2
          have hr6_2 := (hb6.block _ (lt_heap hr5_2)).trans hr5_2
          have hl6_3 := lt_heap hr5_3
          have hr6_3 := (hb6.block _ (lt_heap hr5_3)).trans hr5_3
          have hl6_4 := lt_heap hr5_4
          have hr6_4 := (hb6.block _ (lt_heap hr5_4)).trans hr5_4
          have hr6_5 := hN
          clear hN
          have HU6 := Lib.hid (HU5.out.trans (hb6.mono HU5.out.size))
          refine hK.out _ _ (⟨(hb6.block _ (lt_heap hS5c.1)).trans hS5c.1, (hb6.block _ (lt_heap hS5c.2.1)).trans hS5c.2.1, (hb6.block _ (lt_heap hS5c.2.2)).trans hS5c.2.2⟩) (fun hS6a => ?_)
          clear hK K
          refine wpAnyH_ready (rs := [14]) (by kernel_rfl) (by simp) ?_
          refine AllReadyH.cons rfl (fun K hK => ?_) AllReadyH.nil
          refine step_store_row rfl 71 (.tmp 7) (.tmp 25) rfl #[.int .i64 0, .int .i64 0, .int .i64 0] #[.int .i64 e_x, .int .i64 e_y, .int .i64 e_z] _ 71 hr6_4 rfl (by first | rfl | (go_simp; done) | (go_simp; rfl)) (by kernel_rfl) rfl (by simp [Value.oneCell']) ?_
          have hN := setRow_heap _ (y2.heap.size) _ #[.int .i64 e_x, .int .i64 e_y, .int .i64 e_z] _ _ hr6_4
          have hsz := HU6.out.size
          have HUx := below_setRow (g := y2.heap.size) HU6.out (by first | omega | (simp at *; omega)) #[.int .i64 e_x, .int .i64 e_y, .int .i64 e_z]
          obtain ⟨y7, hy7⟩ : ∃ y, y6.setRow (y2.heap.size) #[.int .i64 e_x, .int .i64 e_y, .int .i64 e_z] = y := ⟨_, rfl⟩
          have hO : ∀ k, k ≠ y2.heap.size → y7.heap[k]? = y6.heap[k]? := fun k hk => by rw [← hy7]; exact setRow_other _ _ _ _ hk
          rw [hy7] at hN HUx ⊢
          clear hy7
          have HU7 := Lib.hid HUx
          clear HUx
          have hr7_0 := (hO _ (by omega)).trans hr6_0
          have hr7_1 := (hO _ (by omega)).trans hr6_1
          have hr7_2 := (hO _ (by omega)).trans hr6_2
          have hr7_3 := (hO _ (by omega)).trans hr6_3
          have hr7_4 := hN
          have hr7_5 := (hO _ (by omega)).trans hr6_5
          clear hN
          refine hK.out _ _ (⟨(hO _ (by omega)).trans hS6a.1, (hO _ (by omega)).trans hS6a.2.1, (hO _ (by omega)).trans hS6a.2.2⟩) (fun hS7s => ?_)
          clear hK K
          refine wpAnyH_ready (rs := [15]) (by kernel_rfl) (by simp) ?_
          refine AllReadyH.cons rfl (fun K hK => ?_) AllReadyH.nil
          refine step_store_row rfl 71 (.tmp 8) (.tmp 31) rfl #[.int .i64 0, .int .i64 0, .int .i64 0] #[.int .i64 g_x, .int .i64 g_y, .int .i64 g_z] _ 71 hr7_5 rfl (by first | rfl | (go_simp; done) | (go_simp; rfl)) (by kernel_rfl) rfl (by simp [Value.oneCell']) ?_
          have hN := setRow_heap _ (y5.heap.size) _ #[.int .i64 g_x, .int .i64 g_y, .int .i64 g_z] _ _ hr7_5
          have hsz := HU7.out.size
          have HUx := below_setRow (g := y5.heap.size) HU7.out (by first | omega | (simp at *; omega)) #[.int .i64 g_x, .int .i64 g_y, .int .i64 g_z]
          obtain ⟨y8, hy8⟩ : ∃ y, y7.setRow (y5.heap.size) #[.int .i64 g_x, .int .i64 g_y, .int .i64 g_z] = y := ⟨_, rfl⟩
          have hO : ∀ k, k ≠ y5.heap.size → y8.heap[k]? = y7.heap[k]? := fun k hk => by rw [← hy8]; exact setRow_other _ _ _ _ hk
          rw [hy8] at hN HUx ⊢
          clear hy8
          have HU8 := Lib.hid HUx
          clear HUx
          have hr8_0 := (hO _ (by omega)).trans hr7_0
          have hr8_1 := (hO _ (by omega)).trans hr7_1
          have hr8_2 := (hO _ (by omega)).trans hr7_2
          have hr8_3 := (hO _ (by omega)).trans hr7_3
          have hr8_4 := (hO _ (by omega)).trans hr7_4
          have hr8_5 := hN
          clear hN
          refine hK.out _ _ (⟨(hO _ (by omega)).trans hS7s.1, (hO _ (by omega)).trans hS7s.2.1, (hO _ (by omega)).trans hS7s.2.2⟩) (fun hS8s => ?_)
          clear hK K
          refine wpAnyH_done (by kernel_rfl) ?_ _
          go_wp2_with fail
          go_meet
          exact ⟨_, _, rfl, rfl, by omega, by omega, hr8_4, hr8_5, hr8_0, hr8_1, hr8_2, hr8_3, HU8⟩
        · skip
          go_simp
          have hb5 := below_n1 y4 (.cells #[.int .i64 0, .int .i64 0, .int .i64 0] 71)
          have hN := heap_alloc_last y4 (.cells #[.int .i64 0, .int .i64 0, .int .i64 0] 71)
          obtain ⟨y5, hy5⟩ : ∃ y, y4.alloc (.cells #[.int .i64 0, .int .i64 0, .int .i64 0] 71) = y := ⟨_, rfl⟩
          rw [hy5] at hb5 hN ⊢
          clear hy5
          have hl5_0 := lt_heap hr4_0
          have hr5_0 := (hb5.block _ (lt_heap hr4_0)).trans hr4_0
          have hl5_1 := lt_heap hr4_1
          have hr5_1 := (hb5.block _ (lt_heap hr4_1)).trans hr4_1
          have hl5_2 := lt_heap hr4_2
          have hr5_2 := (hb5.block _ (lt_heap hr4_2)).trans hr4_2
          have hl5_3 := lt_heap hr4_3
          have hr5_3 := (hb5.block _ (lt_heap hr4_3)).trans hr4_3
          have hl5_4 := lt_heap hr4_4
          have hr5_4 := (hb5.block _ (lt_heap hr4_4)).trans hr4_4
          have hr5_5 := hN
          clear hN
          have HU5 := Lib.hid (HU4.out.trans (hb5.mono HU4.out.size))
          refine hK.out _ _ (⟨(hb5.block _ (lt_heap hS4c.1)).trans hS4c.1, (hb5.block _ (lt_heap hS4c.2.1)).trans hS4c.2.1, (hb5.block _ (lt_heap hS4c.2.2)).trans hS4c.2.2⟩) (fun hS5a => ?_)
          clear hK K
          refine wpAnyH_ready (rs := [11]) (by kernel_rfl) (by simp) ?_
          refine AllReadyH.cons rfl (fun K hK => ?_) AllReadyH.nil
          go_simp
          go_wp2_with (go_at_call 86; refine (vsub_any _ _ _ _ _ _ _).mono ?_; rintro e y6 ⟨rfl, hb6⟩; try rw [hg_x, hg_y, hg_z])
          have hr6_0 := (hb6.block _ (lt_heap hr5_0)).trans hr5_0
          have hr6_1 := (hb6.block _ (lt_heap hr5_1)).trans hr5_1
          have hr6_2 := (hb6.block _ (lt_heap hr5_2)).trans hr5_2
          have hr6_3 := (hb6.block _ (lt_heap hr5_3)).trans hr5_3
          have hr6_4 := (hb6.block _ (lt_heap hr5_4)).trans hr5_4
          have hr6_5 := (hb6.block _ (lt_heap hr5_5)).trans hr5_5
          have HU6 := Lib.hid (HU5.out.trans (hb6.mono HU5.out.size))
          refine hK.out _ _ (⟨(hb6.block _ (lt_heap hS5a.1)).trans hS5a.1, (hb6.block _ (lt_heap hS5a.2.1)).trans hS5a.2.1, (hb6.block _ (lt_heap hS5a.2.2)).trans hS5a.2.2⟩) (fun hS6c => ?_)
          clear hK K
          refine wpAnyH_ready (rs := [14]) (by kernel_rfl) (by simp) ?_
          refine AllReadyH.cons rfl (fun K hK => ?_) AllReadyH.nil
          refine step_store_row rfl 71 (.tmp 7) (.tmp 25) rfl #[.int .i64 0, .int .i64 0, .int .i64 0] #[.int .i64 e_x, .int .i64 e_y, .int .i64 e_z] _ 71 hr6_4 rfl (by first | rfl | (go_simp; done) | (go_simp; rfl)) (by kernel_rfl) rfl (by simp [Value.oneCell']) ?_
          have hN := setRow_heap _ (y2.heap.size) _ #[.int .i64 e_x, .int .i64 e_y, .int .i64 e_z] _ _ hr6_4
          have hsz := HU6.out.size
          have HUx := below_setRow (g := y2.heap.size) HU6.out (by first | omega | (simp at *; omega)) #[.int .i64 e_x, .int .i64 e_y, .int .i64 e_z]
          obtain ⟨y7, hy7⟩ : ∃ y, y6.setRow (y2.heap.size) #[.int .i64 e_x, .int .i64 e_y, .int .i64 e_z] = y := ⟨_, rfl⟩
          have hO : ∀ k, k ≠ y2.heap.size → y7.heap[k]? = y6.heap[k]? := fun k hk => by rw [← hy7]; exact setRow_other _ _ _ _ hk
          rw [hy7] at hN HUx ⊢
          clear hy7
          have HU7 := Lib.hid HUx
          clear HUx
          have hr7_0 := (hO _ (by omega)).trans hr6_0
          have hr7_1 := (hO _ (by omega)).trans hr6_1
          have hr7_2 := (hO _ (by omega)).trans hr6_2
          have hr7_3 := (hO _ (by omega)).trans hr6_3
          have hr7_4 := hN
          have hr7_5 := (hO _ (by omega)).trans hr6_5
          clear hN
          refine hK.out _ _ (⟨(hO _ (by omega)).trans hS6c.1, (hO _ (by omega)).trans hS6c.2.1, (hO _ (by omega)).trans hS6c.2.2⟩) (fun hS7s => ?_)
          clear hK K
          refine wpAnyH_ready (rs := [15]) (by kernel_rfl) (by simp) ?_
          refine AllReadyH.cons rfl (fun K hK => ?_) AllReadyH.nil
          refine step_store_row rfl 71 (.tmp 8) (.tmp 31) rfl #[.int .i64 0, .int .i64 0, .int .i64 0] #[.int .i64 g_x, .int .i64 g_y, .int .i64 g_z] _ 71 hr7_5 rfl (by first | rfl | (go_simp; done) | (go_simp; rfl)) (by kernel_rfl) rfl (by simp [Value.oneCell']) ?_
          have hN := setRow_heap _ (y4.heap.size) _ #[.int .i64 g_x, .int .i64 g_y, .int .i64 g_z] _ _ hr7_5
          have hsz := HU7.out.size
          have HUx := below_setRow (g := y4.heap.size) HU7.out (by first | omega | (simp at *; omega)) #[.int .i64 g_x, .int .i64 g_y, .int .i64 g_z]
          obtain ⟨y8, hy8⟩ : ∃ y, y7.setRow (y4.heap.size) #[.int .i64 g_x, .int .i64 g_y, .int .i64 g_z] = y := ⟨_, rfl⟩
          have hO : ∀ k, k ≠ y4.heap.size → y8.heap[k]? = y7.heap[k]? := fun k hk => by rw [← hy8]; exact setRow_other _ _ _ _ hk
          rw [hy8] at hN HUx ⊢
          clear hy8
          have HU8 := Lib.hid HUx
          clear HUx
          have hr8_0 := (hO _ (by omega)).trans hr7_0
          have hr8_1 := (hO _ (by omega)).trans hr7_1
          have hr8_2 := (hO _ (by omega)).trans hr7_2
          have hr8_3 := (hO _ (by omega)).trans hr7_3
          have hr8_4 := (hO _ (by omega)).trans hr7_4
          have hr8_5 := hN
          clear hN
          refine hK.out _ _ (⟨(hO _ (by omega)).trans hS7s.1, (hO _ (by omega)).trans hS7s.2.1, (hO _ (by omega)).trans hS7s.2.2⟩) (fun hS8s => ?_)
          clear hK K
          refine wpAnyH_done (by kernel_rfl) ?_ _
          go_wp2_with fail
          go_meet
          exact ⟨_, _, rfl, rfl, by omega, by omega, hr8_4, hr8_5, hr8_0, hr8_1, hr8_2, hr8_3, HU8⟩
      · skip
        go_simp
        have hb4 := below_n1 y3 (.cells #[.int .i64 0, .int .i64 0, .int .i64 0] 71)
        have hN := heap_alloc_last y3 (.cells #[.int .i64 0, .int .i64 0, .int .i64 0] 71)
        obtain ⟨y4, hy4⟩ : ∃ y, y3.alloc (.cells #[.int .i64 0, .int .i64 0, .int .i64 0] 71) = y := ⟨_, rfl⟩
        rw [hy4] at hb4 hN ⊢
        clear hy4
        have hl4_0 := lt_heap hr3_0
        have hr4_0 := (hb4.block _ (lt_heap hr3_0)).trans hr3_0
        have hl4_1 := lt_heap hr3_1
        have hr4_1 := (hb4.block _ (lt_heap hr3_1)).trans hr3_1
        have hl4_2 := lt_heap hr3_2
        have hr4_2 := (hb4.block _ (lt_heap hr3_2)).trans hr3_2
        have hl4_3 := lt_heap hr3_3
        have hr4_3 := (hb4.block _ (lt_heap hr3_3)).trans hr3_3
        have hl4_4 := lt_heap hr3_4
        have hr4_4 := (hb4.block _ (lt_heap hr3_4)).trans hr3_4
        have hr4_5 := hN
        clear hN
        have HU4 := Lib.hid (HU3.out.trans (hb4.mono HU3.out.size))
        refine hK.out _ _ (⟨(hb4.block _ (lt_heap hS3a.1)).trans hS3a.1, (hb4.block _ (lt_heap hS3a.2.1)).trans hS3a.2.1, (hb4.block _ (lt_heap hS3a.2.2)).trans hS3a.2.2⟩) (fun hS4a => ?_)
        clear hK K
        refine wpAnyH_ready (rs := [5]) (by kernel_rfl) (by simp) ?_
        refine AllReadyH.cons rfl (fun K hK => ?_) AllReadyH.nil
        go_simp
        go_wp2_with (go_at_call 86; refine (vsub_any _ _ _ _ _ _ _).mono ?_; rintro e y5 ⟨rfl, hb5⟩; try rw [he_x, he_y, he_z])
        have hr5_0 := (hb5.block _ (lt_heap hr4_0)).trans hr4_0
        have hr5_1 := (hb5.block _ (lt_heap hr4_1)).trans hr4_1
        have hr5_2 := (hb5.block _ (lt_heap hr4_2)).trans hr4_2
        have hr5_3 := (hb5.block _ (lt_heap hr4_3)).trans hr4_3
        have hr5_4 := (hb5.block _ (lt_heap hr4_4)).trans hr4_4
        have hr5_5 := (hb5.block _ (lt_heap hr4_5)).trans hr4_5
        have HU5 := Lib.hid (HU4.out.trans (hb5.mono HU4.out.size))
        refine hK.out _ _ (⟨(hb5.block _ (lt_heap hS4a.1)).trans hS4a.1, (hb5.block _ (lt_heap hS4a.2.1)).trans hS4a.2.1, (hb5.block _ (lt_heap hS4a.2.2)).trans hS4a.2.2⟩) (fun hS5c => ?_)
        clear hK K
        refine wpAnyH_ready (rs := [11]) (by kernel_rfl) (by simp) ?_
        refine AllReadyH.cons rfl (fun K hK => ?_) AllReadyH.nil
        go_simp
        go_wp2_with (go_at_call 86; refine (vsub_any _ _ _ _ _ _ _).mono ?_; rintro e y6 ⟨rfl, hb6⟩; try rw [hg_x, hg_y, hg_z])
        have hr6_0 := (hb6.block _ (lt_heap hr5_0)).trans hr5_0
        have hr6_1 := (hb6.block _ (lt_heap hr5_1)).trans hr5_1
        have hr6_2 := (hb6.block _ (lt_heap hr5_2)).trans hr5_2
        have hr6_3 := (hb6.block _ (lt_heap hr5_3)).trans hr5_3
        have hr6_4 := (hb6.block _ (lt_heap hr5_4)).trans hr5_4
        have hr6_5 := (hb6.block _ (lt_heap hr5_5)).trans hr5_5
        have HU6 := Lib.hid (HU5.out.trans (hb6.mono HU5.out.size))
        refine hK.out _ _ (⟨(hb6.block _ (lt_heap hS5c.1)).trans hS5c.1, (hb6.block _ (lt_heap hS5c.2.1)).trans hS5c.2.1, (hb6.block _ (lt_heap hS5c.2.2)).trans hS5c.2.2⟩) (fun hS6c => ?_)
        clear hK K
        refine wpAnyH_ready (rs := [14]) (by kernel_rfl) (by simp) ?_
        refine AllReadyH.cons rfl (fun K hK => ?_) AllReadyH.nil
        refine step_store_row rfl 71 (.tmp 7) (.tmp 25) rfl #[.int .i64 0, .int .i64 0, .int .i64 0] #[.int .i64 e_x, .int .i64 e_y, .int .i64 e_z] _ 71 hr6_4 rfl (by first | rfl | (go_simp; done) | (go_simp; rfl)) (by kernel_rfl) rfl (by simp [Value.oneCell']) ?_
        have hN := setRow_heap _ (y2.heap.size) _ #[.int .i64 e_x, .int .i64 e_y, .int .i64 e_z] _ _ hr6_4
        have hsz := HU6.out.size
        have HUx := below_setRow (g := y2.heap.size) HU6.out (by first | omega | (simp at *; omega)) #[.int .i64 e_x, .int .i64 e_y, .int .i64 e_z]
        obtain ⟨y7, hy7⟩ : ∃ y, y6.setRow (y2.heap.size) #[.int .i64 e_x, .int .i64 e_y, .int .i64 e_z] = y := ⟨_, rfl⟩
        have hO : ∀ k, k ≠ y2.heap.size → y7.heap[k]? = y6.heap[k]? := fun k hk => by rw [← hy7]; exact setRow_other _ _ _ _ hk
        rw [hy7] at hN HUx ⊢
        clear hy7
        have HU7 := Lib.hid HUx
        clear HUx
        have hr7_0 := (hO _ (by omega)).trans hr6_0
        have hr7_1 := (hO _ (by omega)).trans hr6_1
        have hr7_2 := (hO _ (by omega)).trans hr6_2
        have hr7_3 := (hO _ (by omega)).trans hr6_3
        have hr7_4 := hN
        have hr7_5 := (hO _ (by omega)).trans hr6_5
        clear hN
        refine hK.out _ _ (⟨(hO _ (by omega)).trans hS6c.1, (hO _ (by omega)).trans hS6c.2.1, (hO _ (by omega)).trans hS6c.2.2⟩) (fun hS7s => ?_)
        clear hK K
        refine wpAnyH_ready (rs := [15]) (by kernel_rfl) (by simp) ?_
        refine AllReadyH.cons rfl (fun K hK => ?_) AllReadyH.nil
        refine step_store_row rfl 71 (.tmp 8) (.tmp 31) rfl #[.int .i64 0, .int .i64 0, .int .i64 0] #[.int .i64 g_x, .int .i64 g_y, .int .i64 g_z] _ 71 hr7_5 rfl (by first | rfl | (go_simp; done) | (go_simp; rfl)) (by kernel_rfl) rfl (by simp [Value.oneCell']) ?_
        have hN := setRow_heap _ (y3.heap.size) _ #[.int .i64 g_x, .int .i64 g_y, .int .i64 g_z] _ _ hr7_5
        have hsz := HU7.out.size
        have HUx := below_setRow (g := y3.heap.size) HU7.out (by first | omega | (simp at *; omega)) #[.int .i64 g_x, .int .i64 g_y, .int .i64 g_z]
        obtain ⟨y8, hy8⟩ : ∃ y, y7.setRow (y3.heap.size) #[.int .i64 g_x, .int .i64 g_y, .int .i64 g_z] = y := ⟨_, rfl⟩
        have hO : ∀ k, k ≠ y3.heap.size → y8.heap[k]? = y7.heap[k]? := fun k hk => by rw [← hy8]; exact setRow_other _ _ _ _ hk
        rw [hy8] at hN HUx ⊢
        clear hy8
        have HU8 := Lib.hid HUx
        clear HUx
        have hr8_0 := (hO _ (by omega)).trans hr7_0
        have hr8_1 := (hO _ (by omega)).trans hr7_1
        have hr8_2 := (hO _ (by omega)).trans hr7_2
        have hr8_3 := (hO _ (by omega)).trans hr7_3
        have hr8_4 := (hO _ (by omega)).trans hr7_4
        have hr8_5 := hN
        clear hN
        refine hK.out _ _ (⟨(hO _ (by omega)).trans hS7s.1, (hO _ (by omega)).trans hS7s.2.1, (hO _ (by omega)).trans hS7s.2.2⟩) (fun hS8s => ?_)
        clear hK K
        refine wpAnyH_done (by kernel_rfl) ?_ _
        go_wp2_with fail
        go_meet
        exact ⟨_, _, rfl, rfl, by omega, by omega, hr8_4, hr8_5, hr8_0, hr8_1, hr8_2, hr8_3, HU8⟩
    · skip
      go_simp
      have hb3 := below_n1 y2 (.cells #[.int .i64 0, .int .i64 0, .int .i64 0] 71)
      have hN := heap_alloc_last y2 (.cells #[.int .i64 0, .int .i64 0, .int .i64 0] 71)
      obtain ⟨y3, hy3⟩ : ∃ y, y2.alloc (.cells #[.int .i64 0, .int .i64 0, .int .i64 0] 71) = y := ⟨_, rfl⟩
      rw [hy3] at hb3 hN ⊢
      clear hy3
      have hl3_0 := lt_heap hr2_0
      have hr3_0 := (hb3.block _ (lt_heap hr2_0)).trans hr2_0
      have hl3_1 := lt_heap hr2_1
      have hr3_1 := (hb3.block _ (lt_heap hr2_1)).trans hr2_1
      have hl3_2 := lt_heap hr2_2
      have hr3_2 := (hb3.block _ (lt_heap hr2_2)).trans hr2_2
      have hl3_3 := lt_heap hr2_3
      have hr3_3 := (hb3.block _ (lt_heap hr2_3)).trans hr2_3
      have hr3_4 := hN
      clear hN
      have HU3 := Lib.hid (HU2.out.trans (hb3.mono HU2.out.size))
      refine hK.out _ _ (⟨(hb3.block _ (lt_heap hS0.1)).trans hS0.1, (hb3.block _ (lt_heap hS0.2.1)).trans hS0.2.1, (hb3.block _ (lt_heap hS0.2.2)).trans hS0.2.2⟩) (fun hS3a => ?_)
      clear hK K
      refine wpAnyH_ready (rs := [5, 12]) (by kernel_rfl) (by simp) ?_
      refine AllReadyH.cons rfl (fun K hK => ?_) (AllReadyH.cons rfl (fun K hK => ?_) AllReadyH.nil)
      · skip
        go_simp
        go_wp2_with (go_at_call 86; refine (vsub_any _ _ _ _ _ _ _).mono ?_; rintro e y4 ⟨rfl, hb4⟩; try rw [he_x, he_y, he_z])
        have hr4_0 := (hb4.block _ (lt_heap hr3_0)).trans hr3_0
        have hr4_1 := (hb4.block _ (lt_heap hr3_1)).trans hr3_1
        have hr4_2 := (hb4.block _ (lt_heap hr3_2)).trans hr3_2
        have hr4_3 := (hb4.block _ (lt_heap hr3_3)).trans hr3_3
        have hr4_4 := (hb4.block _ (lt_heap hr3_4)).trans hr3_4
        have HU4 := Lib.hid (HU3.out.trans (hb4.mono HU3.out.size))
        refine hK.out _ _ (⟨(hb4.block _ (lt_heap hS3a.1)).trans hS3a.1, (hb4.block _ (lt_heap hS3a.2.1)).trans hS3a.2.1, (hb4.block _ (lt_heap hS3a.2.2)).trans hS3a.2.2⟩) (fun hS4c => ?_)
        clear hK K
        refine wpAnyH_ready (rs := [11, 12]) (by kernel_rfl) (by simp) ?_
        refine AllReadyH.cons rfl (fun K hK => ?_) (AllReadyH.cons rfl (fun K hK => ?_) AllReadyH.nil)
        · skip
          go_simp
          go_wp2_with (go_at_call 86; refine (vsub_any _ _ _ _ _ _ _).mono ?_; rintro e y5 ⟨rfl, hb5⟩; try rw [hg_x, hg_y, hg_z])
          have hr5_0 := (hb5.block _ (lt_heap hr4_0)).trans hr4_0
          have hr5_1 := (hb5.block _ (lt_heap hr4_1)).trans hr4_1
          have hr5_2 := (hb5.block _ (lt_heap hr4_2)).trans hr4_2
          have hr5_3 := (hb5.block _ (lt_heap hr4_3)).trans hr4_3
          have hr5_4 := (hb5.block _ (lt_heap hr4_4)).trans hr4_4
          have HU5 := Lib.hid (HU4.out.trans (hb5.mono HU4.out.size))
          refine hK.out _ _ (⟨(hb5.block _ (lt_heap hS4c.1)).trans hS4c.1, (hb5.block _ (lt_heap hS4c.2.1)).trans hS4c.2.1, (hb5.block _ (lt_heap hS4c.2.2)).trans hS4c.2.2⟩) (fun hS5c => ?_)
          clear hK K
          refine wpAnyH_ready (rs := [12]) (by kernel_rfl) (by simp) ?_
          refine AllReadyH.cons rfl (fun K hK => ?_) AllReadyH.nil
          go_simp
          have hb6 := below_n1 y5 (.cells #[.int .i64 0, .int .i64 0, .int .i64 0] 71)
          have hN := heap_alloc_last y5 (.cells #[.int .i64 0, .int .i64 0, .int .i64 0] 71)
          obtain ⟨y6, hy6⟩ : ∃ y, y5.alloc (.cells #[.int .i64 0, .int .i64 0, .int .i64 0] 71) = y := ⟨_, rfl⟩
          rw [hy6] at hb6 hN ⊢
          clear hy6
          have hl6_0 := lt_heap hr5_0
          have hr6_0 := (hb6.block _ (lt_heap hr5_0)).trans hr5_0
          have hl6_1 := lt_heap hr5_1
          have hr6_1 := (hb6.block _ (lt_heap hr5_1)).trans hr5_1
          have hl6_2 := lt_heap hr5_2
          have hr6_2 := (hb6.block _ (lt_heap hr5_2)).trans hr5_2
          have hl6_3 := lt_heap hr5_3
          have hr6_3 := (hb6.block _ (lt_heap hr5_3)).trans hr5_3
          have hl6_4 := lt_heap hr5_4
          have hr6_4 := (hb6.block _ (lt_heap hr5_4)).trans hr5_4
          have hr6_5 := hN
          clear hN
          have HU6 := Lib.hid (HU5.out.trans (hb6.mono HU5.out.size))
          refine hK.out _ _ (⟨(hb6.block _ (lt_heap hS5c.1)).trans hS5c.1, (hb6.block _ (lt_heap hS5c.2.1)).trans hS5c.2.1, (hb6.block _ (lt_heap hS5c.2.2)).trans hS5c.2.2⟩) (fun hS6a => ?_)
          clear hK K
          refine wpAnyH_ready (rs := [14]) (by kernel_rfl) (by simp) ?_
          refine AllReadyH.cons rfl (fun K hK => ?_) AllReadyH.nil
          refine step_store_row rfl 71 (.tmp 7) (.tmp 25) rfl #[.int .i64 0, .int .i64 0, .int .i64 0] #[.int .i64 e_x, .int .i64 e_y, .int .i64 e_z] _ 71 hr6_5 rfl (by first | rfl | (go_simp; done) | (go_simp; rfl)) (by kernel_rfl) rfl (by simp [Value.oneCell']) ?_
          have hN := setRow_heap _ (y5.heap.size) _ #[.int .i64 e_x, .int .i64 e_y, .int .i64 e_z] _ _ hr6_5
          have hsz := HU6.out.size
          have HUx := below_setRow (g := y5.heap.size) HU6.out (by first | omega | (simp at *; omega)) #[.int .i64 e_x, .int .i64 e_y, .int .i64 e_z]
          obtain ⟨y7, hy7⟩ : ∃ y, y6.setRow (y5.heap.size) #[.int .i64 e_x, .int .i64 e_y, .int .i64 e_z] = y := ⟨_, rfl⟩
          have hO : ∀ k, k ≠ y5.heap.size → y7.heap[k]? = y6.heap[k]? := fun k hk => by rw [← hy7]; exact setRow_other _ _ _ _ hk
          rw [hy7] at hN HUx ⊢
          clear hy7
          have HU7 := Lib.hid HUx
          clear HUx
          have hr7_0 := (hO _ (by omega)).trans hr6_0
          have hr7_1 := (hO _ (by omega)).trans hr6_1
          have hr7_2 := (hO _ (by omega)).trans hr6_2
          have hr7_3 := (hO _ (by omega)).trans hr6_3
          have hr7_4 := (hO _ (by omega)).trans hr6_4
          have hr7_5 := hN
          clear hN
          refine hK.out _ _ (⟨(hO _ (by omega)).trans hS6a.1, (hO _ (by omega)).trans hS6a.2.1, (hO _ (by omega)).trans hS6a.2.2⟩) (fun hS7s => ?_)
          clear hK K
          refine wpAnyH_ready (rs := [15]) (by kernel_rfl) (by simp) ?_
          refine AllReadyH.cons rfl (fun K hK => ?_) AllReadyH.nil
          refine step_store_row rfl 71 (.tmp 8) (.tmp 31) rfl #[.int .i64 0, .int .i64 0, .int .i64 0] #[.int .i64 g_x, .int .i64 g_y, .int .i64 g_z] _ 71 hr7_4 rfl (by first | rfl | (go_simp; done) | (go_simp; rfl)) (by kernel_rfl) rfl (by simp [Value.oneCell']) ?_
          have hN := setRow_heap _ (y2.heap.size) _ #[.int .i64 g_x, .int .i64 g_y, .int .i64 g_z] _ _ hr7_4
          have hsz := HU7.out.size
          have HUx := below_setRow (g := y2.heap.size) HU7.out (by first | omega | (simp at *; omega)) #[.int .i64 g_x, .int .i64 g_y, .int .i64 g_z]
          obtain ⟨y8, hy8⟩ : ∃ y, y7.setRow (y2.heap.size) #[.int .i64 g_x, .int .i64 g_y, .int .i64 g_z] = y := ⟨_, rfl⟩
          have hO : ∀ k, k ≠ y2.heap.size → y8.heap[k]? = y7.heap[k]? := fun k hk => by rw [← hy8]; exact setRow_other _ _ _ _ hk
          rw [hy8] at hN HUx ⊢
          clear hy8
          have HU8 := Lib.hid HUx
          clear HUx
          have hr8_0 := (hO _ (by omega)).trans hr7_0
          have hr8_1 := (hO _ (by omega)).trans hr7_1
          have hr8_2 := (hO _ (by omega)).trans hr7_2
          have hr8_3 := (hO _ (by omega)).trans hr7_3
          have hr8_4 := hN
          have hr8_5 := (hO _ (by omega)).trans hr7_5
          clear hN
          refine hK.out _ _ (⟨(hO _ (by omega)).trans hS7s.1, (hO _ (by omega)).trans hS7s.2.1, (hO _ (by omega)).trans hS7s.2.2⟩) (fun hS8s => ?_)
          clear hK K
          refine wpAnyH_done (by kernel_rfl) ?_ _
          go_wp2_with fail
          go_meet
          exact ⟨_, _, rfl, rfl, by omega, by omega, hr8_5, hr8_4, hr8_0, hr8_1, hr8_2, hr8_3, HU8⟩
        · skip
          go_simp
          have hb5 := below_n1 y4 (.cells #[.int .i64 0, .int .i64 0, .int .i64 0] 71)
          have hN := heap_alloc_last y4 (.cells #[.int .i64 0, .int .i64 0, .int .i64 0] 71)
          obtain ⟨y5, hy5⟩ : ∃ y, y4.alloc (.cells #[.int .i64 0, .int .i64 0, .int .i64 0] 71) = y := ⟨_, rfl⟩
          rw [hy5] at hb5 hN ⊢
          clear hy5
          have hl5_0 := lt_heap hr4_0
          have hr5_0 := (hb5.block _ (lt_heap hr4_0)).trans hr4_0
          have hl5_1 := lt_heap hr4_1
          have hr5_1 := (hb5.block _ (lt_heap hr4_1)).trans hr4_1
          have hl5_2 := lt_heap hr4_2
          have hr5_2 := (hb5.block _ (lt_heap hr4_2)).trans hr4_2
          have hl5_3 := lt_heap hr4_3
          have hr5_3 := (hb5.block _ (lt_heap hr4_3)).trans hr4_3
          have hl5_4 := lt_heap hr4_4
          have hr5_4 := (hb5.block _ (lt_heap hr4_4)).trans hr4_4
          have hr5_5 := hN
          clear hN
          have HU5 := Lib.hid (HU4.out.trans (hb5.mono HU4.out.size))
          refine hK.out _ _ (⟨(hb5.block _ (lt_heap hS4c.1)).trans hS4c.1, (hb5.block _ (lt_heap hS4c.2.1)).trans hS4c.2.1, (hb5.block _ (lt_heap hS4c.2.2)).trans hS4c.2.2⟩) (fun hS5a => ?_)
          clear hK K
          refine wpAnyH_ready (rs := [11]) (by kernel_rfl) (by simp) ?_
          refine AllReadyH.cons rfl (fun K hK => ?_) AllReadyH.nil
          go_simp
          go_wp2_with (go_at_call 86; refine (vsub_any _ _ _ _ _ _ _).mono ?_; rintro e y6 ⟨rfl, hb6⟩; try rw [hg_x, hg_y, hg_z])
          have hr6_0 := (hb6.block _ (lt_heap hr5_0)).trans hr5_0
          have hr6_1 := (hb6.block _ (lt_heap hr5_1)).trans hr5_1
          have hr6_2 := (hb6.block _ (lt_heap hr5_2)).trans hr5_2
          have hr6_3 := (hb6.block _ (lt_heap hr5_3)).trans hr5_3
          have hr6_4 := (hb6.block _ (lt_heap hr5_4)).trans hr5_4
          have hr6_5 := (hb6.block _ (lt_heap hr5_5)).trans hr5_5
          have HU6 := Lib.hid (HU5.out.trans (hb6.mono HU5.out.size))
          refine hK.out _ _ (⟨(hb6.block _ (lt_heap hS5a.1)).trans hS5a.1, (hb6.block _ (lt_heap hS5a.2.1)).trans hS5a.2.1, (hb6.block _ (lt_heap hS5a.2.2)).trans hS5a.2.2⟩) (fun hS6c => ?_)
          clear hK K
          refine wpAnyH_ready (rs := [14]) (by kernel_rfl) (by simp) ?_
          refine AllReadyH.cons rfl (fun K hK => ?_) AllReadyH.nil
          refine step_store_row rfl 71 (.tmp 7) (.tmp 25) rfl #[.int .i64 0, .int .i64 0, .int .i64 0] #[.int .i64 e_x, .int .i64 e_y, .int .i64 e_z] _ 71 hr6_5 rfl (by first | rfl | (go_simp; done) | (go_simp; rfl)) (by kernel_rfl) rfl (by simp [Value.oneCell']) ?_
          have hN := setRow_heap _ (y4.heap.size) _ #[.int .i64 e_x, .int .i64 e_y, .int .i64 e_z] _ _ hr6_5
          have hsz := HU6.out.size
          have HUx := below_setRow (g := y4.heap.size) HU6.out (by first | omega | (simp at *; omega)) #[.int .i64 e_x, .int .i64 e_y, .int .i64 e_z]
          obtain ⟨y7, hy7⟩ : ∃ y, y6.setRow (y4.heap.size) #[.int .i64 e_x, .int .i64 e_y, .int .i64 e_z] = y := ⟨_, rfl⟩
          have hO : ∀ k, k ≠ y4.heap.size → y7.heap[k]? = y6.heap[k]? := fun k hk => by rw [← hy7]; exact setRow_other _ _ _ _ hk
          rw [hy7] at hN HUx ⊢
          clear hy7
          have HU7 := Lib.hid HUx
          clear HUx
          have hr7_0 := (hO _ (by omega)).trans hr6_0
          have hr7_1 := (hO _ (by omega)).trans hr6_1
          have hr7_2 := (hO _ (by omega)).trans hr6_2
          have hr7_3 := (hO _ (by omega)).trans hr6_3
          have hr7_4 := (hO _ (by omega)).trans hr6_4
          have hr7_5 := hN
          clear hN
          refine hK.out _ _ (⟨(hO _ (by omega)).trans hS6c.1, (hO _ (by omega)).trans hS6c.2.1, (hO _ (by omega)).trans hS6c.2.2⟩) (fun hS7s => ?_)
          clear hK K
          refine wpAnyH_ready (rs := [15]) (by kernel_rfl) (by simp) ?_
          refine AllReadyH.cons rfl (fun K hK => ?_) AllReadyH.nil
          refine step_store_row rfl 71 (.tmp 8) (.tmp 31) rfl #[.int .i64 0, .int .i64 0, .int .i64 0] #[.int .i64 g_x, .int .i64 g_y, .int .i64 g_z] _ 71 hr7_4 rfl (by first | rfl | (go_simp; done) | (go_simp; rfl)) (by kernel_rfl) rfl (by simp [Value.oneCell']) ?_
          have hN := setRow_heap _ (y2.heap.size) _ #[.int .i64 g_x, .int .i64 g_y, .int .i64 g_z] _ _ hr7_4
          have hsz := HU7.out.size
          have HUx := below_setRow (g := y2.heap.size) HU7.out (by first | omega | (simp at *; omega)) #[.int .i64 g_x, .int .i64 g_y, .int .i64 g_z]
          obtain ⟨y8, hy8⟩ : ∃ y, y7.setRow (y2.heap.size) #[.int .i64 g_x, .int .i64 g_y, .int .i64 g_z] = y := ⟨_, rfl⟩
          have hO : ∀ k, k ≠ y2.heap.size → y8.heap[k]? = y7.heap[k]? := fun k hk => by rw [← hy8]; exact setRow_other _ _ _ _ hk
          rw [hy8] at hN HUx ⊢
          clear hy8
          have HU8 := Lib.hid HUx
          clear HUx
          have hr8_0 := (hO _ (by omega)).trans hr7_0
          have hr8_1 := (hO _ (by omega)).trans hr7_1
          have hr8_2 := (hO _ (by omega)).trans hr7_2
          have hr8_3 := (hO _ (by omega)).trans hr7_3
          have hr8_4 := hN
          have hr8_5 := (hO _ (by omega)).trans hr7_5
          clear hN
          refine hK.out _ _ (⟨(hO _ (by omega)).trans hS7s.1, (hO _ (by omega)).trans hS7s.2.1, (hO _ (by omega)).trans hS7s.2.2⟩) (fun hS8s => ?_)
          clear hK K
          refine wpAnyH_done (by kernel_rfl) ?_ _
          go_wp2_with fail
          go_meet
          exact ⟨_, _, rfl, rfl, by omega, by omega, hr8_5, hr8_4, hr8_0, hr8_1, hr8_2, hr8_3, HU8⟩
      · skip
        go_simp
        have hb4 := below_n1 y3 (.cells #[.int .i64 0, .int .i64 0, .int .i64 0] 71)
        have hN := heap_alloc_last y3 (.cells #[.int .i64 0, .int .i64 0, .int .i64 0] 71)
        obtain ⟨y4, hy4⟩ : ∃ y, y3.alloc (.cells #[.int .i64 0, .int .i64 0, .int .i64 0] 71) = y := ⟨_, rfl⟩
        rw [hy4] at hb4 hN ⊢
        clear hy4
        have hl4_0 := lt_heap hr3_0
        have hr4_0 := (hb4.block _ (lt_heap hr3_0)).trans hr3_0
        have hl4_1 := lt_heap hr3_1
        have hr4_1 := (hb4.block _ (lt_heap hr3_1)).trans hr3_1
        have hl4_2 := lt_heap hr3_2
        have hr4_2 := (hb4.block _ (lt_heap hr3_2)).trans hr3_2
        have hl4_3 := lt_heap hr3_3
        have hr4_3 := (hb4.block _ (lt_heap hr3_3)).trans hr3_3
        have hl4_4 := lt_heap hr3_4
        have hr4_4 := (hb4.block _ (lt_heap hr3_4)).trans hr3_4
        have hr4_5 := hN
        clear hN
        have HU4 := Lib.hid (HU3.out.trans (hb4.mono HU3.out.size))
        refine hK.out _ _ (⟨(hb4.block _ (lt_heap hS3a.1)).trans hS3a.1, (hb4.block _ (lt_heap hS3a.2.1)).trans hS3a.2.1, (hb4.block _ (lt_heap hS3a.2.2)).trans hS3a.2.2⟩) (fun hS4a => ?_)
        clear hK K
        refine wpAnyH_ready (rs := [5]) (by kernel_rfl) (by simp) ?_
        refine AllReadyH.cons rfl (fun K hK => ?_) AllReadyH.nil
        go_simp
        go_wp2_with (go_at_call 86; refine (vsub_any _ _ _ _ _ _ _).mono ?_; rintro e y5 ⟨rfl, hb5⟩; try rw [he_x, he_y, he_z])
        have hr5_0 := (hb5.block _ (lt_heap hr4_0)).trans hr4_0
        have hr5_1 := (hb5.block _ (lt_heap hr4_1)).trans hr4_1
        have hr5_2 := (hb5.block _ (lt_heap hr4_2)).trans hr4_2
        have hr5_3 := (hb5.block _ (lt_heap hr4_3)).trans hr4_3
        have hr5_4 := (hb5.block _ (lt_heap hr4_4)).trans hr4_4
        have hr5_5 := (hb5.block _ (lt_heap hr4_5)).trans hr4_5
        have HU5 := Lib.hid (HU4.out.trans (hb5.mono HU4.out.size))
        refine hK.out _ _ (⟨(hb5.block _ (lt_heap hS4a.1)).trans hS4a.1, (hb5.block _ (lt_heap hS4a.2.1)).trans hS4a.2.1, (hb5.block _ (lt_heap hS4a.2.2)).trans hS4a.2.2⟩) (fun hS5c => ?_)
        clear hK K
        refine wpAnyH_ready (rs := [11]) (by kernel_rfl) (by simp) ?_
        refine AllReadyH.cons rfl (fun K hK => ?_) AllReadyH.nil
        go_simp
        go_wp2_with (go_at_call 86; refine (vsub_any _ _ _ _ _ _ _).mono ?_; rintro e y6 ⟨rfl, hb6⟩; try rw [hg_x, hg_y, hg_z])
        have hr6_0 := (hb6.block _ (lt_heap hr5_0)).trans hr5_0
        have hr6_1 := (hb6.block _ (lt_heap hr5_1)).trans hr5_1
        have hr6_2 := (hb6.block _ (lt_heap hr5_2)).trans hr5_2
        have hr6_3 := (hb6.block _ (lt_heap hr5_3)).trans hr5_3
        have hr6_4 := (hb6.block _ (lt_heap hr5_4)).trans hr5_4
        have hr6_5 := (hb6.block _ (lt_heap hr5_5)).trans hr5_5
        have HU6 := Lib.hid (HU5.out.trans (hb6.mono HU5.out.size))
        refine hK.out _ _ (⟨(hb6.block _ (lt_heap hS5c.1)).trans hS5c.1, (hb6.block _ (lt_heap hS5c.2.1)).trans hS5c.2.1, (hb6.block _ (lt_heap hS5c.2.2)).trans hS5c.2.2⟩) (fun hS6c => ?_)
        clear hK K
        refine wpAnyH_ready (rs := [14]) (by kernel_rfl) (by simp) ?_
        refine AllReadyH.cons rfl (fun K hK => ?_) AllReadyH.nil
        refine step_store_row rfl 71 (.tmp 7) (.tmp 25) rfl #[.int .i64 0, .int .i64 0, .int .i64 0] #[.int .i64 e_x, .int .i64 e_y, .int .i64 e_z] _ 71 hr6_5 rfl (by first | rfl | (go_simp; done) | (go_simp; rfl)) (by kernel_rfl) rfl (by simp [Value.oneCell']) ?_
        have hN := setRow_heap _ (y3.heap.size) _ #[.int .i64 e_x, .int .i64 e_y, .int .i64 e_z] _ _ hr6_5
        have hsz := HU6.out.size
        have HUx := below_setRow (g := y3.heap.size) HU6.out (by first | omega | (simp at *; omega)) #[.int .i64 e_x, .int .i64 e_y, .int .i64 e_z]
        obtain ⟨y7, hy7⟩ : ∃ y, y6.setRow (y3.heap.size) #[.int .i64 e_x, .int .i64 e_y, .int .i64 e_z] = y := ⟨_, rfl⟩
        have hO : ∀ k, k ≠ y3.heap.size → y7.heap[k]? = y6.heap[k]? := fun k hk => by rw [← hy7]; exact setRow_other _ _ _ _ hk
        rw [hy7] at hN HUx ⊢
        clear hy7
        have HU7 := Lib.hid HUx
        clear HUx
        have hr7_0 := (hO _ (by omega)).trans hr6_0
        have hr7_1 := (hO _ (by omega)).trans hr6_1
        have hr7_2 := (hO _ (by omega)).trans hr6_2
        have hr7_3 := (hO _ (by omega)).trans hr6_3
        have hr7_4 := (hO _ (by omega)).trans hr6_4
        have hr7_5 := hN
        clear hN
        refine hK.out _ _ (⟨(hO _ (by omega)).trans hS6c.1, (hO _ (by omega)).trans hS6c.2.1, (hO _ (by omega)).trans hS6c.2.2⟩) (fun hS7s => ?_)
        clear hK K
        refine wpAnyH_ready (rs := [15]) (by kernel_rfl) (by simp) ?_
        refine AllReadyH.cons rfl (fun K hK => ?_) AllReadyH.nil
        refine step_store_row rfl 71 (.tmp 8) (.tmp 31) rfl #[.int .i64 0, .int .i64 0, .int .i64 0] #[.int .i64 g_x, .int .i64 g_y, .int .i64 g_z] _ 71 hr7_4 rfl (by first | rfl | (go_simp; done) | (go_simp; rfl)) (by kernel_rfl) rfl (by simp [Value.oneCell']) ?_
        have hN := setRow_heap _ (y2.heap.size) _ #[.int .i64 g_x, .int .i64 g_y, .int .i64 g_z] _ _ hr7_4
        have hsz := HU7.out.size
        have HUx := below_setRow (g := y2.heap.size) HU7.out (by first | omega | (simp at *; omega)) #[.int .i64 g_x, .int .i64 g_y, .int .i64 g_z]
        obtain ⟨y8, hy8⟩ : ∃ y, y7.setRow (y2.heap.size) #[.int .i64 g_x, .int .i64 g_y, .int .i64 g_z] = y := ⟨_, rfl⟩
        have hO : ∀ k, k ≠ y2.heap.size → y8.heap[k]? = y7.heap[k]? := fun k hk => by rw [← hy8]; exact setRow_other _ _ _ _ hk
        rw [hy8] at hN HUx ⊢
        clear hy8
        have HU8 := Lib.hid HUx
        clear HUx
        have hr8_0 := (hO _ (by omega)).trans hr7_0
        have hr8_1 := (hO _ (by omega)).trans hr7_1
        have hr8_2 := (hO _ (by omega)).trans hr7_2
        have hr8_3 := (hO _ (by omega)).trans hr7_3
        have hr8_4 := hN
        have hr8_5 := (hO _ (by omega)).trans hr7_5
        clear hN
        refine hK.out _ _ (⟨(hO _ (by omega)).trans hS7s.1, (hO _ (by omega)).trans hS7s.2.1, (hO _ (by omega)).trans hS7s.2.2⟩) (fun hS8s => ?_)
        clear hK K
        refine wpAnyH_done (by kernel_rfl) ?_ _
        go_wp2_with fail
        go_meet
        exact ⟨_, _, rfl, rfl, by omega, by omega, hr8_5, hr8_4, hr8_0, hr8_1, hr8_2, hr8_3, HU8⟩
  case rest =>
    obtain ⟨ge, gg, rfl, rfl, hge, hgg, hr9_4, hr9_5, hr9_0, hr9_1, hr9_2, hr9_3, HU9⟩ := hcut
    rename World => y9
    have c0_0 := cell_of_row _ _ 0 _ _ _ hr9_0
    have c0_1 := cell_of_row _ _ 1 _ _ _ hr9_0
    have c0_2 := cell_of_row _ _ 2 _ _ _ hr9_0
    have c0_3 := cell_of_row _ _ 3 _ _ _ hr9_0
    have c0_4 := cell_of_row _ _ 4 _ _ _ hr9_0
    have c0_5 := cell_of_row _ _ 5 _ _ _ hr9_0
    have c0_6 := cell_of_row _ _ 6 _ _ _ hr9_0
    have c5_0 := cell_of_row _ _ 0 _ _ _ hr9_5
    have c5_1 := cell_of_row _ _ 1 _ _ _ hr9_5
    have c5_2 := cell_of_row _ _ 2 _ _ _ hr9_5
    simp at c0_0 c0_1 c0_2 c0_3 c0_4 c0_5 c0_6 c5_0 c5_1 c5_2
    go_wp2_with fail
    refine (cross_any _ _ _ _ _ _ _).mono ?_
    rintro e y10 ⟨rfl, hb10⟩
    clear c0_0 c0_1 c0_2 c0_3 c0_4 c0_5 c0_6 c5_0 c5_1 c5_2
    have hr10_0 := (hb10.block _ (lt_heap hr9_0)).trans hr9_0
    have hr10_1 := (hb10.block _ (lt_heap hr9_1)).trans hr9_1
    have hr10_2 := (hb10.block _ (lt_heap hr9_2)).trans hr9_2
    have hr10_3 := (hb10.block _ (lt_heap hr9_3)).trans hr9_3
    have hr10_4 := (hb10.block _ (lt_heap hr9_4)).trans hr9_4
    have hr10_5 := (hb10.block _ (lt_heap hr9_5)).trans hr9_5
    have HU10 := Lib.hid (HU9.out.trans (hb10.mono HU9.out.size))
    clear hr9_0 hr9_1 hr9_2 hr9_3 hr9_4 hr9_5 HU9
    try rw [hx_x, hx_y, hx_z]
    go_upto_region 4 with fail
    have hb11 := below_n1 y10 (.cells #[.int .i64 x_x, .int .i64 x_y, .int .i64 x_z] 71)
    have hN := heap_alloc_last y10 (.cells #[.int .i64 x_x, .int .i64 x_y, .int .i64 x_z] 71)
    obtain ⟨y11, hy11⟩ : ∃ y, y10.alloc (.cells #[.int .i64 x_x, .int .i64 x_y, .int .i64 x_z] 71) = y := ⟨_, rfl⟩
    have hs11 : y11.heap.size = y10.heap.size + 1 := by rw [← hy11]; simp
    rw [hy11] at hb11 hN ⊢
    clear hy11
    have hl11_0 := lt_heap hr10_0
    have hl11_1 := lt_heap hr10_1
    have hl11_2 := lt_heap hr10_2
    have hl11_3 := lt_heap hr10_3
    have hl11_4 := lt_heap hr10_4
    have hl11_5 := lt_heap hr10_5
    have hr11_0 := (hb11.block _ (lt_heap hr10_0)).trans hr10_0
    have hr11_1 := (hb11.block _ (lt_heap hr10_1)).trans hr10_1
    have hr11_2 := (hb11.block _ (lt_heap hr10_2)).trans hr10_2
    have hr11_3 := (hb11.block _ (lt_heap hr10_3)).trans hr10_3
    have hr11_4 := (hb11.block _ (lt_heap hr10_4)).trans hr10_4
    have hr11_5 := (hb11.block _ (lt_heap hr10_5)).trans hr10_5
    have HU11 := Lib.hid (HU10.out.trans (hb11.mono HU10.out.size))
    clear hr10_0 hr10_1 hr10_2 hr10_3 hr10_4 hr10_5 HU10
    have hr11_6 := hN
    clear hN
    have c4_0 := cell_of_row _ _ 0 _ _ _ hr11_4
    have c4_1 := cell_of_row _ _ 1 _ _ _ hr11_4
    have c4_2 := cell_of_row _ _ 2 _ _ _ hr11_4
    have c6_0 := cell_of_row _ _ 0 _ _ _ hr11_6
    have c6_1 := cell_of_row _ _ 1 _ _ _ hr11_6
    have c6_2 := cell_of_row _ _ 2 _ _ _ hr11_6
    simp at c4_0 c4_1 c4_2 c6_0 c6_1 c6_2
    go_wp2_with fail
    refine (dot_any _ _ _ _ _ _ _).mono ?_
    rintro e y12 ⟨rfl, hb12⟩
    clear c4_0 c4_1 c4_2 c6_0 c6_1 c6_2
    have hr12_0 := (hb12.block _ (lt_heap hr11_0)).trans hr11_0
    have hr12_1 := (hb12.block _ (lt_heap hr11_1)).trans hr11_1
    have hr12_2 := (hb12.block _ (lt_heap hr11_2)).trans hr11_2
    have hr12_3 := (hb12.block _ (lt_heap hr11_3)).trans hr11_3
    have hr12_4 := (hb12.block _ (lt_heap hr11_4)).trans hr11_4
    have hr12_5 := (hb12.block _ (lt_heap hr11_5)).trans hr11_5
    have hr12_6 := (hb12.block _ (lt_heap hr11_6)).trans hr11_6
    have HU12 := Lib.hid (HU11.out.trans (hb12.mono HU11.out.size))
    clear hr11_0 hr11_1 hr11_2 hr11_3 hr11_4 hr11_5 hr11_6 HU11
    rw [hY]
    by_cases h0 : Y = 0
    · skip
      have d0 : (Y == 0) = true := by simpa using h0
      have d0' := decide_eq_true h0
      go_upto_region 6 with fail
      have hHr := Lib.hid hr12_2
      have hHi := Lib.hid (show (Try.prog.info? 104).map (·.size) = some (#[.int .i64 0, .int .i64 0, .int .i64 0, .int .i64 0, .int .i64 0, .int .i64 0, .int .i64 0, .int .i64 0] : Array Value).size by kernel_rfl)
      have hHz := Lib.hid (show (#[.int .i64 0, .int .i64 0, .int .i64 0, .int .i64 0, .int .i64 0, .int .i64 0, .int .i64 0, .int .i64 0] : Array Value).size = (#[.int .i64 0, .int .i64 0, .int .i64 0, .int .i64 0, .int .i64 0, .int .i64 0, .int .i64 0, .int .i64 0] : Array Value).size from rfl)
      have hHo := Lib.hid (show (#[.int .i64 0, .int .i64 0, .int .i64 0, .int .i64 0, .int .i64 0, .int .i64 0, .int .i64 0, .int .i64 0] : Array Value).all (·.oneCell') = true by simp [Value.oneCell'])
      go_wp2_with (first | (refine Au.wpList_store_row rfl 104 (.tmp 4) (.tmp 41) rfl y12 #[.int .i64 0, .int .i64 0, .int .i64 0, .int .i64 0, .int .i64 0, .int .i64 0, .int .i64 0, .int .i64 0] #[.int .i64 0, .int .i64 0, .int .i64 0, .int .i64 0, .int .i64 0, .int .i64 0, .int .i64 0, .int .i64 0] (w.heap.size + 1 + 1) 104 hHr.out rfl rfl hHi.out hHz.out hHo.out ?_))
      clear hHr hHi hHz hHo
      have hN := setRow_heap _ (w.heap.size + 1 + 1) _ #[.int .i64 0, .int .i64 0, .int .i64 0, .int .i64 0, .int .i64 0, .int .i64 0, .int .i64 0, .int .i64 0] _ _ hr12_2
      have hsz := HU12.out.size
      have HUx := below_setRow (g := w.heap.size + 1 + 1) HU12.out (by first | omega | (simp at *; omega)) #[.int .i64 0, .int .i64 0, .int .i64 0, .int .i64 0, .int .i64 0, .int .i64 0, .int .i64 0, .int .i64 0]
      have hO : ∀ kk, kk ≠ w.heap.size + 1 + 1 → (y12.setRow (w.heap.size + 1 + 1) #[.int .i64 0, .int .i64 0, .int .i64 0, .int .i64 0, .int .i64 0, .int .i64 0, .int .i64 0, .int .i64 0]).heap[kk]? = y12.heap[kk]? := fun kk hk => setRow_other _ _ _ _ hk
      obtain ⟨y13, hy13⟩ : ∃ y, y12.setRow (w.heap.size + 1 + 1) #[.int .i64 0, .int .i64 0, .int .i64 0, .int .i64 0, .int .i64 0, .int .i64 0, .int .i64 0, .int .i64 0] = y := ⟨_, rfl⟩
      rw [hy13] at hN HUx hO ⊢
      clear hy13 hsz
      have HU13 := Lib.hid HUx
      clear HUx
      have hr13_0 := (hO _ (by omega)).trans hr12_0
      have hr13_1 := (hO _ (by omega)).trans hr12_1
      have hr13_2 := hN
      have hr13_3 := (hO _ (by omega)).trans hr12_3
      have hr13_4 := (hO _ (by omega)).trans hr12_4
      have hr13_5 := (hO _ (by omega)).trans hr12_5
      have hr13_6 := (hO _ (by omega)).trans hr12_6
      clear hN hO
      clear hr12_0 hr12_1 hr12_2 hr12_3 hr12_4 hr12_5 hr12_6 HU12
      have c2_0 := cell_of_row _ _ 0 _ _ _ hr13_2
      have c2_1 := cell_of_row _ _ 1 _ _ _ hr13_2
      have c2_2 := cell_of_row _ _ 2 _ _ _ hr13_2
      have c2_3 := cell_of_row _ _ 3 _ _ _ hr13_2
      have c2_4 := cell_of_row _ _ 4 _ _ _ hr13_2
      have c2_5 := cell_of_row _ _ 5 _ _ _ hr13_2
      have c2_6 := cell_of_row _ _ 6 _ _ _ hr13_2
      have c2_7 := cell_of_row _ _ 7 _ _ _ hr13_2
      simp at c2_0 c2_1 c2_2 c2_3 c2_4 c2_5 c2_6 c2_7
      go_wp2
      exact bodyPost_ret (v := .tuple #[.agg #[.int .i64 0, .int .i64 0, .int .i64 0, .int .i64 0, .int .i64 0, .int .i64 0, .int .i64 0, .int .i64 0], .bool false]) (by simp [results, Try.results93, go_sem, c2_0, c2_1, c2_2, c2_3, c2_4, c2_5, c2_6, c2_7]) rfl ⟨by first | rfl | (unfold pick2; rw [if_pos (.inl h0)]) | simp [pick2, *], HU13.out⟩
    have d0 : (Y == 0) = false := by simpa using h0
    have d0' := decide_eq_false h0
    have c0_0 := cell_of_row _ _ 0 _ _ _ hr12_0
    have c0_1 := cell_of_row _ _ 1 _ _ _ hr12_0
    have c0_2 := cell_of_row _ _ 2 _ _ _ hr12_0
    have c0_3 := cell_of_row _ _ 3 _ _ _ hr12_0
    have c0_4 := cell_of_row _ _ 4 _ _ _ hr12_0
    have c0_5 := cell_of_row _ _ 5 _ _ _ hr12_0
    have c0_6 := cell_of_row _ _ 6 _ _ _ hr12_0
    have c3_0 := cell_of_row _ _ 0 _ _ _ hr12_3
    have c3_1 := cell_of_row _ _ 1 _ _ _ hr12_3
    have c3_2 := cell_of_row _ _ 2 _ _ _ hr12_3
    simp at c0_0 c0_1 c0_2 c0_3 c0_4 c0_5 c0_6 c3_0 c3_1 c3_2
    go_wp2_with fail
    refine (vsub_any _ _ _ _ _ _ _).mono ?_
    rintro e y13 ⟨rfl, hb13⟩
    clear c0_0 c0_1 c0_2 c0_3 c0_4 c0_5 c0_6 c3_0 c3_1 c3_2
    have hr13_0 := (hb13.block _ (lt_heap hr12_0)).trans hr12_0
    have hr13_1 := (hb13.block _ (lt_heap hr12_1)).trans hr12_1
    have hr13_2 := (hb13.block _ (lt_heap hr12_2)).trans hr12_2
    have hr13_3 := (hb13.block _ (lt_heap hr12_3)).trans hr12_3
    have hr13_4 := (hb13.block _ (lt_heap hr12_4)).trans hr12_4
    have hr13_5 := (hb13.block _ (lt_heap hr12_5)).trans hr12_5
    have hr13_6 := (hb13.block _ (lt_heap hr12_6)).trans hr12_6
    have HU13 := Lib.hid (HU12.out.trans (hb13.mono HU12.out.size))
    clear hr12_0 hr12_1 hr12_2 hr12_3 hr12_4 hr12_5 hr12_6 HU12
    try rw [hq_x, hq_y, hq_z]
    go_upto_region 8 with fail
    have hb14 := below_n1 y13 (.cells #[.int .i64 q_x, .int .i64 q_y, .int .i64 q_z] 71)
    have hN := heap_alloc_last y13 (.cells #[.int .i64 q_x, .int .i64 q_y, .int .i64 q_z] 71)
    obtain ⟨y14, hy14⟩ : ∃ y, y13.alloc (.cells #[.int .i64 q_x, .int .i64 q_y, .int .i64 q_z] 71) = y := ⟨_, rfl⟩
    have hs14 : y14.heap.size = y13.heap.size + 1 := by rw [← hy14]; simp
    rw [hy14] at hb14 hN ⊢
    clear hy14
    have hl14_0 := lt_heap hr13_0
    have hl14_1 := lt_heap hr13_1
    have hl14_2 := lt_heap hr13_2
    have hl14_3 := lt_heap hr13_3
    have hl14_4 := lt_heap hr13_4
    have hl14_5 := lt_heap hr13_5
    have hl14_6 := lt_heap hr13_6
    have hr14_0 := (hb14.block _ (lt_heap hr13_0)).trans hr13_0
    have hr14_1 := (hb14.block _ (lt_heap hr13_1)).trans hr13_1
    have hr14_2 := (hb14.block _ (lt_heap hr13_2)).trans hr13_2
    have hr14_3 := (hb14.block _ (lt_heap hr13_3)).trans hr13_3
    have hr14_4 := (hb14.block _ (lt_heap hr13_4)).trans hr13_4
    have hr14_5 := (hb14.block _ (lt_heap hr13_5)).trans hr13_5
    have hr14_6 := (hb14.block _ (lt_heap hr13_6)).trans hr13_6
    have HU14 := Lib.hid (HU13.out.trans (hb14.mono HU13.out.size))
    clear hr13_0 hr13_1 hr13_2 hr13_3 hr13_4 hr13_5 hr13_6 HU13
    have hr14_7 := hN
    clear hN
    have c4_0 := cell_of_row _ _ 0 _ _ _ hr14_4
    have c4_1 := cell_of_row _ _ 1 _ _ _ hr14_4
    have c4_2 := cell_of_row _ _ 2 _ _ _ hr14_4
    have c7_0 := cell_of_row _ _ 0 _ _ _ hr14_7
    have c7_1 := cell_of_row _ _ 1 _ _ _ hr14_7
    have c7_2 := cell_of_row _ _ 2 _ _ _ hr14_7
    simp at c4_0 c4_1 c4_2 c7_0 c7_1 c7_2
    go_wp2_with fail
    refine (cross_any _ _ _ _ _ _ _).mono ?_
    rintro e y15 ⟨rfl, hb15⟩
    clear c4_0 c4_1 c4_2 c7_0 c7_1 c7_2
    have hr15_0 := (hb15.block _ (lt_heap hr14_0)).trans hr14_0
    have hr15_1 := (hb15.block _ (lt_heap hr14_1)).trans hr14_1
    have hr15_2 := (hb15.block _ (lt_heap hr14_2)).trans hr14_2
    have hr15_3 := (hb15.block _ (lt_heap hr14_3)).trans hr14_3
    have hr15_4 := (hb15.block _ (lt_heap hr14_4)).trans hr14_4
    have hr15_5 := (hb15.block _ (lt_heap hr14_5)).trans hr14_5
    have hr15_6 := (hb15.block _ (lt_heap hr14_6)).trans hr14_6
    have hr15_7 := (hb15.block _ (lt_heap hr14_7)).trans hr14_7
    have HU15 := Lib.hid (HU14.out.trans (hb15.mono HU14.out.size))
    clear hr14_0 hr14_1 hr14_2 hr14_3 hr14_4 hr14_5 hr14_6 hr14_7 HU14
    try rw [hz_x, hz_y, hz_z]
    go_upto_region 9 with fail
    have hb16 := below_n1 y15 (.cells #[.int .i64 z_x, .int .i64 z_y, .int .i64 z_z] 71)
    have hN := heap_alloc_last y15 (.cells #[.int .i64 z_x, .int .i64 z_y, .int .i64 z_z] 71)
    obtain ⟨y16, hy16⟩ : ∃ y, y15.alloc (.cells #[.int .i64 z_x, .int .i64 z_y, .int .i64 z_z] 71) = y := ⟨_, rfl⟩
    have hs16 : y16.heap.size = y15.heap.size + 1 := by rw [← hy16]; simp
    rw [hy16] at hb16 hN ⊢
    clear hy16
    have hl16_0 := lt_heap hr15_0
    have hl16_1 := lt_heap hr15_1
    have hl16_2 := lt_heap hr15_2
    have hl16_3 := lt_heap hr15_3
    have hl16_4 := lt_heap hr15_4
    have hl16_5 := lt_heap hr15_5
    have hl16_6 := lt_heap hr15_6
    have hl16_7 := lt_heap hr15_7
    have hr16_0 := (hb16.block _ (lt_heap hr15_0)).trans hr15_0
    have hr16_1 := (hb16.block _ (lt_heap hr15_1)).trans hr15_1
    have hr16_2 := (hb16.block _ (lt_heap hr15_2)).trans hr15_2
    have hr16_3 := (hb16.block _ (lt_heap hr15_3)).trans hr15_3
    have hr16_4 := (hb16.block _ (lt_heap hr15_4)).trans hr15_4
    have hr16_5 := (hb16.block _ (lt_heap hr15_5)).trans hr15_5
    have hr16_6 := (hb16.block _ (lt_heap hr15_6)).trans hr15_6
    have hr16_7 := (hb16.block _ (lt_heap hr15_7)).trans hr15_7
    have HU16 := Lib.hid (HU15.out.trans (hb16.mono HU15.out.size))
    clear hr15_0 hr15_1 hr15_2 hr15_3 hr15_4 hr15_5 hr15_6 hr15_7 HU15
    have hr16_8 := hN
    clear hN
    refine wp_region_held_drew (S := fun y => y.heap[w.heap.size]? = some (.cells #[.int .i64 fx, .int .i64 fy, .int .i64 fz, .int .i64 dx, .int .i64 dy, .int .i64 dz, .int .i64 pt] 101 (0, 0)) ∧ y.heap[y10.heap.size]? = some (.cells #[.int .i64 x_x, .int .i64 x_y, .int .i64 x_z] 71 (0, 0)) ∧ y.heap[y13.heap.size]? = some (.cells #[.int .i64 q_x, .int .i64 q_y, .int .i64 q_z] 71 (0, 0)) ∧ y.heap[y15.heap.size]? = some (.cells #[.int .i64 z_x, .int .i64 z_y, .int .i64 z_z] 71 (0, 0))) (by kernel_rfl) (⟨hr16_0, hr16_6, hr16_7, hr16_8⟩) (fun hS0 => ?_)
    obtain ⟨y17, hy17⟩ : ∃ y, y16.drew = y := ⟨_, rfl⟩
    have HU17 := Lib.hid (show Below w.heap.size w y17 by rw [← hy17]; exact HU16.out.drew)
    have hr17_0 : y17.heap[w.heap.size]? = some (.cells #[.int .i64 fx, .int .i64 fy, .int .i64 fz, .int .i64 dx, .int .i64 dy, .int .i64 dz, .int .i64 pt] 101 (0, 0)) := by rw [← hy17]; exact hr16_0
    have hr17_1 : y17.heap[w.heap.size + 1]? = some (.cells #[.int .i64 near, .int .i64 far, .int .i64 k0, .int .i64 k1, .int .i64 p0, .int .i64 p1, .int .i64 p2, .int .i64 p3, .int .i64 p4, .int .i64 p5, .int .i64 p6, .int .i64 p7, .int .i64 p8, .int .i64 rad] 191 (0, 0)) := by rw [← hy17]; exact hr16_1
    have hr17_2 : y17.heap[w.heap.size + 1 + 1]? = some (.cells #[.int .i64 0, .int .i64 0, .int .i64 0, .int .i64 0, .int .i64 0, .int .i64 0, .int .i64 0, .int .i64 0] 104 (0, 0)) := by rw [← hy17]; exact hr16_2
    have hr17_3 : y17.heap[y0.heap.size]? = some (.cells #[.int .i64 p0, .int .i64 p1, .int .i64 p2] 71 (0, 0)) := by rw [← hy17]; exact hr16_3
    have hr17_4 : y17.heap[ge]? = some (.cells #[.int .i64 e_x, .int .i64 e_y, .int .i64 e_z] 71 (0, 0)) := by rw [← hy17]; exact hr16_4
    have hr17_5 : y17.heap[gg]? = some (.cells #[.int .i64 g_x, .int .i64 g_y, .int .i64 g_z] 71 (0, 0)) := by rw [← hy17]; exact hr16_5
    have hr17_6 : y17.heap[y10.heap.size]? = some (.cells #[.int .i64 x_x, .int .i64 x_y, .int .i64 x_z] 71 (0, 0)) := by rw [← hy17]; exact hr16_6
    have hr17_7 : y17.heap[y13.heap.size]? = some (.cells #[.int .i64 q_x, .int .i64 q_y, .int .i64 q_z] 71 (0, 0)) := by rw [← hy17]; exact hr16_7
    have hr17_8 : y17.heap[y15.heap.size]? = some (.cells #[.int .i64 z_x, .int .i64 z_y, .int .i64 z_z] 71 (0, 0)) := by rw [← hy17]; exact hr16_8
    rw [hy17] at hS0 ⊢
    clear hy17
    refine wpAnyH_take (i := 0) (v := ?_) rfl (by kernel_rfl) (by kernel_rfl) (by kernel_rfl) (fun _ _ _ h => h) (Or.inl ⟨by kernel_rfl, by (intro wz hSz; have c0_0 := cell_of_row _ _ 0 _ _ _ hSz.1; have c0_1 := cell_of_row _ _ 1 _ _ _ hSz.1; have c0_2 := cell_of_row _ _ 2 _ _ _ hSz.1; have c0_3 := cell_of_row _ _ 3 _ _ _ hSz.1; have c0_4 := cell_of_row _ _ 4 _ _ _ hSz.1; have c0_5 := cell_of_row _ _ 5 _ _ _ hSz.1; have c0_6 := cell_of_row _ _ 6 _ _ _ hSz.1; have c6_0 := cell_of_row _ _ 0 _ _ _ hSz.2.1; have c6_1 := cell_of_row _ _ 1 _ _ _ hSz.2.1; have c6_2 := cell_of_row _ _ 2 _ _ _ hSz.2.1; have c7_0 := cell_of_row _ _ 0 _ _ _ hSz.2.2.1; have c7_1 := cell_of_row _ _ 1 _ _ _ hSz.2.2.1; have c7_2 := cell_of_row _ _ 2 _ _ _ hSz.2.2.1; have c8_0 := cell_of_row _ _ 0 _ _ _ hSz.2.2.2; have c8_1 := cell_of_row _ _ 1 _ _ _ hSz.2.2.2; have c8_2 := cell_of_row _ _ 2 _ _ _ hSz.2.2.2; simp at c0_0 c0_1 c0_2 c0_3 c0_4 c0_5 c0_6 c6_0 c6_1 c6_2 c7_0 c7_1 c7_2 c8_0 c8_1 c8_2; go_simp; try with_reducible rfl)⟩) hS0 ?_
    go_simp
    refine wpAnyH_take (i := 1) (v := ?_) rfl (by kernel_rfl) (by kernel_rfl) (by kernel_rfl) (fun _ _ _ h => h) (Or.inl ⟨by kernel_rfl, by (intro wz hSz; have c0_0 := cell_of_row _ _ 0 _ _ _ hSz.1; have c0_1 := cell_of_row _ _ 1 _ _ _ hSz.1; have c0_2 := cell_of_row _ _ 2 _ _ _ hSz.1; have c0_3 := cell_of_row _ _ 3 _ _ _ hSz.1; have c0_4 := cell_of_row _ _ 4 _ _ _ hSz.1; have c0_5 := cell_of_row _ _ 5 _ _ _ hSz.1; have c0_6 := cell_of_row _ _ 6 _ _ _ hSz.1; have c6_0 := cell_of_row _ _ 0 _ _ _ hSz.2.1; have c6_1 := cell_of_row _ _ 1 _ _ _ hSz.2.1; have c6_2 := cell_of_row _ _ 2 _ _ _ hSz.2.1; have c7_0 := cell_of_row _ _ 0 _ _ _ hSz.2.2.1; have c7_1 := cell_of_row _ _ 1 _ _ _ hSz.2.2.1; have c7_2 := cell_of_row _ _ 2 _ _ _ hSz.2.2.1; have c8_0 := cell_of_row _ _ 0 _ _ _ hSz.2.2.2; have c8_1 := cell_of_row _ _ 1 _ _ _ hSz.2.2.2; have c8_2 := cell_of_row _ _ 2 _ _ _ hSz.2.2.2; simp at c0_0 c0_1 c0_2 c0_3 c0_4 c0_5 c0_6 c6_0 c6_1 c6_2 c7_0 c7_1 c7_2 c8_0 c8_1 c8_2; go_simp; try with_reducible rfl)⟩) hS0 ?_
    go_simp
    refine wpAnyH_take (i := 3) (v := ?_) rfl (by kernel_rfl) (by kernel_rfl) (by kernel_rfl) (fun _ _ _ h => h) (Or.inl ⟨by kernel_rfl, by (intro wz hSz; go_simp; try with_reducible rfl)⟩) hS0 ?_
    go_simp
    refine wpAnyH_take (i := 5) (v := ?_) rfl (by kernel_rfl) (by kernel_rfl) (by kernel_rfl) (fun _ _ _ h => h) (Or.inl ⟨by kernel_rfl, by (intro wz hSz; go_simp; try with_reducible rfl)⟩) hS0 ?_
    go_simp
    refine wpAnyH_take (i := 6) (v := ?_) rfl (by kernel_rfl) (by kernel_rfl) (by kernel_rfl) (fun _ _ _ h => h) (Or.inl ⟨by kernel_rfl, by (intro wz hSz; have c0_0 := cell_of_row _ _ 0 _ _ _ hSz.1; have c0_1 := cell_of_row _ _ 1 _ _ _ hSz.1; have c0_2 := cell_of_row _ _ 2 _ _ _ hSz.1; have c0_3 := cell_of_row _ _ 3 _ _ _ hSz.1; have c0_4 := cell_of_row _ _ 4 _ _ _ hSz.1; have c0_5 := cell_of_row _ _ 5 _ _ _ hSz.1; have c0_6 := cell_of_row _ _ 6 _ _ _ hSz.1; have c6_0 := cell_of_row _ _ 0 _ _ _ hSz.2.1; have c6_1 := cell_of_row _ _ 1 _ _ _ hSz.2.1; have c6_2 := cell_of_row _ _ 2 _ _ _ hSz.2.1; have c7_0 := cell_of_row _ _ 0 _ _ _ hSz.2.2.1; have c7_1 := cell_of_row _ _ 1 _ _ _ hSz.2.2.1; have c7_2 := cell_of_row _ _ 2 _ _ _ hSz.2.2.1; have c8_0 := cell_of_row _ _ 0 _ _ _ hSz.2.2.2; have c8_1 := cell_of_row _ _ 1 _ _ _ hSz.2.2.2; have c8_2 := cell_of_row _ _ 2 _ _ _ hSz.2.2.2; simp at c0_0 c0_1 c0_2 c0_3 c0_4 c0_5 c0_6 c6_0 c6_1 c6_2 c7_0 c7_1 c7_2 c8_0 c8_1 c8_2; go_simp; try with_reducible rfl)⟩) hS0 ?_
    go_simp
    refine wpAnyH_take (i := 7) (v := ?_) rfl (by kernel_rfl) (by kernel_rfl) (by kernel_rfl) (fun _ _ _ h => h) (Or.inl ⟨by kernel_rfl, by (intro wz hSz; have c0_0 := cell_of_row _ _ 0 _ _ _ hSz.1; have c0_1 := cell_of_row _ _ 1 _ _ _ hSz.1; have c0_2 := cell_of_row _ _ 2 _ _ _ hSz.1; have c0_3 := cell_of_row _ _ 3 _ _ _ hSz.1; have c0_4 := cell_of_row _ _ 4 _ _ _ hSz.1; have c0_5 := cell_of_row _ _ 5 _ _ _ hSz.1; have c0_6 := cell_of_row _ _ 6 _ _ _ hSz.1; have c6_0 := cell_of_row _ _ 0 _ _ _ hSz.2.1; have c6_1 := cell_of_row _ _ 1 _ _ _ hSz.2.1; have c6_2 := cell_of_row _ _ 2 _ _ _ hSz.2.1; have c7_0 := cell_of_row _ _ 0 _ _ _ hSz.2.2.1; have c7_1 := cell_of_row _ _ 1 _ _ _ hSz.2.2.1; have c7_2 := cell_of_row _ _ 2 _ _ _ hSz.2.2.1; have c8_0 := cell_of_row _ _ 0 _ _ _ hSz.2.2.2; have c8_1 := cell_of_row _ _ 1 _ _ _ hSz.2.2.2; have c8_2 := cell_of_row _ _ 2 _ _ _ hSz.2.2.2; simp at c0_0 c0_1 c0_2 c0_3 c0_4 c0_5 c0_6 c6_0 c6_1 c6_2 c7_0 c7_1 c7_2 c8_0 c8_1 c8_2; go_simp; try with_reducible rfl)⟩) hS0 ?_
    go_simp
    refine wpAnyH_take (i := 9) (v := ?_) rfl (by kernel_rfl) (by kernel_rfl) (by kernel_rfl) (fun _ _ _ h => h) (Or.inl ⟨by kernel_rfl, by (intro wz hSz; go_simp; try with_reducible rfl)⟩) hS0 ?_
    go_simp
    refine wpAnyH_ready (rs := [2]) (by kernel_rfl) (by simp) ?_
    refine AllReadyH.cons rfl (fun K hK => ?_) AllReadyH.nil
    go_simp
    go_wp2_with (go_at_call 87; refine (dot_any _ _ _ _ _ _ _).mono ?_; rintro e y18 ⟨rfl, hb18⟩)
    have hr18_0 := (hb18.block _ (lt_heap hr17_0)).trans hr17_0
    have hr18_1 := (hb18.block _ (lt_heap hr17_1)).trans hr17_1
    have hr18_2 := (hb18.block _ (lt_heap hr17_2)).trans hr17_2
    have hr18_3 := (hb18.block _ (lt_heap hr17_3)).trans hr17_3
    have hr18_4 := (hb18.block _ (lt_heap hr17_4)).trans hr17_4
    have hr18_5 := (hb18.block _ (lt_heap hr17_5)).trans hr17_5
    have hr18_6 := (hb18.block _ (lt_heap hr17_6)).trans hr17_6
    have hr18_7 := (hb18.block _ (lt_heap hr17_7)).trans hr17_7
    have hr18_8 := (hb18.block _ (lt_heap hr17_8)).trans hr17_8
    have HU18 := Lib.hid (HU17.out.trans (hb18.mono HU17.out.size))
    refine hK.out _ _ (⟨(hb18.block _ (lt_heap hS0.1)).trans hS0.1, (hb18.block _ (lt_heap hS0.2.1)).trans hS0.2.1, (hb18.block _ (lt_heap hS0.2.2.1)).trans hS0.2.2.1, (hb18.block _ (lt_heap hS0.2.2.2)).trans hS0.2.2.2⟩) (fun hS18c => ?_)
    clear hK K
    refine wpAnyH_ready (rs := [4]) (by kernel_rfl) (by simp) ?_
    refine AllReadyH.cons rfl (fun K hK => ?_) AllReadyH.nil
    go_simp
    go_wp2_with (go_at_call 150; refine (div_any _ _ _).mono ?_; rintro e ww ⟨rfl, rfl⟩; rw [hU])
    refine hK.out _ _ (hS18c) (fun hS18q4 => ?_)
    clear hK K
    refine wpAnyH_ready (rs := [8]) (by kernel_rfl) (by simp) ?_
    refine AllReadyH.cons rfl (fun K hK => ?_) AllReadyH.nil
    go_simp
    go_wp2_with (go_at_call 87; refine (dot_any _ _ _ _ _ _ _).mono ?_; rintro e y19 ⟨rfl, hb19⟩)
    have hr19_0 := (hb19.block _ (lt_heap hr18_0)).trans hr18_0
    have hr19_1 := (hb19.block _ (lt_heap hr18_1)).trans hr18_1
    have hr19_2 := (hb19.block _ (lt_heap hr18_2)).trans hr18_2
    have hr19_3 := (hb19.block _ (lt_heap hr18_3)).trans hr18_3
    have hr19_4 := (hb19.block _ (lt_heap hr18_4)).trans hr18_4
    have hr19_5 := (hb19.block _ (lt_heap hr18_5)).trans hr18_5
    have hr19_6 := (hb19.block _ (lt_heap hr18_6)).trans hr18_6
    have hr19_7 := (hb19.block _ (lt_heap hr18_7)).trans hr18_7
    have hr19_8 := (hb19.block _ (lt_heap hr18_8)).trans hr18_8
    have HU19 := Lib.hid (HU18.out.trans (hb19.mono HU18.out.size))
    refine hK.out _ _ (⟨(hb19.block _ (lt_heap hS18q4.1)).trans hS18q4.1, (hb19.block _ (lt_heap hS18q4.2.1)).trans hS18q4.2.1, (hb19.block _ (lt_heap hS18q4.2.2.1)).trans hS18q4.2.2.1, (hb19.block _ (lt_heap hS18q4.2.2.2)).trans hS18q4.2.2.2⟩) (fun hS19c => ?_)
    clear hK K
    refine wpAnyH_ready (rs := [10]) (by kernel_rfl) (by simp) ?_
    refine AllReadyH.cons rfl (fun K hK => ?_) AllReadyH.nil
    go_simp
    go_wp2_with (go_at_call 150; refine (div_any _ _ _).mono ?_; rintro e ww ⟨rfl, rfl⟩; rw [hV])
    refine hK.out _ _ (hS19c) (fun hS19q10 => ?_)
    clear hK K
    refine wpAnyH_take (i := 11) (v := ?_) rfl (by kernel_rfl) (by kernel_rfl) (by kernel_rfl) (fun _ _ _ h => h) (Or.inl ⟨by kernel_rfl, by (intro wz hSz; go_simp; try with_reducible rfl)⟩) hS19q10 ?_
    go_simp
    refine wpAnyH_take (i := 12) (v := ?_) rfl (by kernel_rfl) (by kernel_rfl) (by kernel_rfl) (fun _ _ _ h => h) (Or.inl ⟨by kernel_rfl, by (intro wz hSz; go_simp; try with_reducible rfl)⟩) hS19q10 ?_
    go_simp
    refine wpAnyH_done (by kernel_rfl) ?_ _
    by_cases h1 : U < 0
    · skip
      have d1 := decide_eq_true h1
      go_upto_region 11 with fail
      have hHr := Lib.hid hr19_2
      have hHi := Lib.hid (show (Try.prog.info? 104).map (·.size) = some (#[.int .i64 0, .int .i64 0, .int .i64 0, .int .i64 0, .int .i64 0, .int .i64 0, .int .i64 0, .int .i64 0] : Array Value).size by kernel_rfl)
      have hHz := Lib.hid (show (#[.int .i64 0, .int .i64 0, .int .i64 0, .int .i64 0, .int .i64 0, .int .i64 0, .int .i64 0, .int .i64 0] : Array Value).size = (#[.int .i64 0, .int .i64 0, .int .i64 0, .int .i64 0, .int .i64 0, .int .i64 0, .int .i64 0, .int .i64 0] : Array Value).size from rfl)
      have hHo := Lib.hid (show (#[.int .i64 0, .int .i64 0, .int .i64 0, .int .i64 0, .int .i64 0, .int .i64 0, .int .i64 0, .int .i64 0] : Array Value).all (·.oneCell') = true by simp [Value.oneCell'])
      go_wp2_with (first | (refine Au.wpList_store_row rfl 104 (.tmp 4) (.tmp 72) rfl y19 #[.int .i64 0, .int .i64 0, .int .i64 0, .int .i64 0, .int .i64 0, .int .i64 0, .int .i64 0, .int .i64 0] #[.int .i64 0, .int .i64 0, .int .i64 0, .int .i64 0, .int .i64 0, .int .i64 0, .int .i64 0, .int .i64 0] (w.heap.size + 1 + 1) 104 hHr.out rfl rfl hHi.out hHz.out hHo.out ?_))
      clear hHr hHi hHz hHo
      have hN := setRow_heap _ (w.heap.size + 1 + 1) _ #[.int .i64 0, .int .i64 0, .int .i64 0, .int .i64 0, .int .i64 0, .int .i64 0, .int .i64 0, .int .i64 0] _ _ hr19_2
      have hsz := HU19.out.size
      have HUx := below_setRow (g := w.heap.size + 1 + 1) HU19.out (by first | omega | (simp at *; omega)) #[.int .i64 0, .int .i64 0, .int .i64 0, .int .i64 0, .int .i64 0, .int .i64 0, .int .i64 0, .int .i64 0]
      have hO : ∀ kk, kk ≠ w.heap.size + 1 + 1 → (y19.setRow (w.heap.size + 1 + 1) #[.int .i64 0, .int .i64 0, .int .i64 0, .int .i64 0, .int .i64 0, .int .i64 0, .int .i64 0, .int .i64 0]).heap[kk]? = y19.heap[kk]? := fun kk hk => setRow_other _ _ _ _ hk
      obtain ⟨y20, hy20⟩ : ∃ y, y19.setRow (w.heap.size + 1 + 1) #[.int .i64 0, .int .i64 0, .int .i64 0, .int .i64 0, .int .i64 0, .int .i64 0, .int .i64 0, .int .i64 0] = y := ⟨_, rfl⟩
      rw [hy20] at hN HUx hO ⊢
      clear hy20 hsz
      have HU20 := Lib.hid HUx
      clear HUx
      have hr20_0 := (hO _ (by omega)).trans hr19_0
      have hr20_1 := (hO _ (by omega)).trans hr19_1
      have hr20_2 := hN
      have hr20_3 := (hO _ (by omega)).trans hr19_3
      have hr20_4 := (hO _ (by omega)).trans hr19_4
      have hr20_5 := (hO _ (by omega)).trans hr19_5
      have hr20_6 := (hO _ (by omega)).trans hr19_6
      have hr20_7 := (hO _ (by omega)).trans hr19_7
      have hr20_8 := (hO _ (by omega)).trans hr19_8
      clear hN hO
      clear hr19_0 hr19_1 hr19_2 hr19_3 hr19_4 hr19_5 hr19_6 hr19_7 hr19_8 HU19
      have c2_0 := cell_of_row _ _ 0 _ _ _ hr20_2
      have c2_1 := cell_of_row _ _ 1 _ _ _ hr20_2
      have c2_2 := cell_of_row _ _ 2 _ _ _ hr20_2
      have c2_3 := cell_of_row _ _ 3 _ _ _ hr20_2
      have c2_4 := cell_of_row _ _ 4 _ _ _ hr20_2
      have c2_5 := cell_of_row _ _ 5 _ _ _ hr20_2
      have c2_6 := cell_of_row _ _ 6 _ _ _ hr20_2
      have c2_7 := cell_of_row _ _ 7 _ _ _ hr20_2
      simp at c2_0 c2_1 c2_2 c2_3 c2_4 c2_5 c2_6 c2_7
      go_wp2
      exact bodyPost_ret (v := .tuple #[.agg #[.int .i64 0, .int .i64 0, .int .i64 0, .int .i64 0, .int .i64 0, .int .i64 0, .int .i64 0, .int .i64 0], .bool false]) (by simp [results, Try.results93, go_sem, c2_0, c2_1, c2_2, c2_3, c2_4, c2_5, c2_6, c2_7]) rfl ⟨by first | rfl | (unfold pick2; rw [if_pos (.inr (.inl h1))]) | simp [pick2, *], HU20.out⟩
    have d1 := decide_eq_false h1
    by_cases h2 : V < 0
    · skip
      have d2 := decide_eq_true h2
      go_upto_region 11 with fail
      have hHr := Lib.hid hr19_2
      have hHi := Lib.hid (show (Try.prog.info? 104).map (·.size) = some (#[.int .i64 0, .int .i64 0, .int .i64 0, .int .i64 0, .int .i64 0, .int .i64 0, .int .i64 0, .int .i64 0] : Array Value).size by kernel_rfl)
      have hHz := Lib.hid (show (#[.int .i64 0, .int .i64 0, .int .i64 0, .int .i64 0, .int .i64 0, .int .i64 0, .int .i64 0, .int .i64 0] : Array Value).size = (#[.int .i64 0, .int .i64 0, .int .i64 0, .int .i64 0, .int .i64 0, .int .i64 0, .int .i64 0, .int .i64 0] : Array Value).size from rfl)
      have hHo := Lib.hid (show (#[.int .i64 0, .int .i64 0, .int .i64 0, .int .i64 0, .int .i64 0, .int .i64 0, .int .i64 0, .int .i64 0] : Array Value).all (·.oneCell') = true by simp [Value.oneCell'])
      go_wp2_with (first | (refine Au.wpList_store_row rfl 104 (.tmp 4) (.tmp 72) rfl y19 #[.int .i64 0, .int .i64 0, .int .i64 0, .int .i64 0, .int .i64 0, .int .i64 0, .int .i64 0, .int .i64 0] #[.int .i64 0, .int .i64 0, .int .i64 0, .int .i64 0, .int .i64 0, .int .i64 0, .int .i64 0, .int .i64 0] (w.heap.size + 1 + 1) 104 hHr.out rfl rfl hHi.out hHz.out hHo.out ?_))
      clear hHr hHi hHz hHo
      have hN := setRow_heap _ (w.heap.size + 1 + 1) _ #[.int .i64 0, .int .i64 0, .int .i64 0, .int .i64 0, .int .i64 0, .int .i64 0, .int .i64 0, .int .i64 0] _ _ hr19_2
      have hsz := HU19.out.size
      have HUx := below_setRow (g := w.heap.size + 1 + 1) HU19.out (by first | omega | (simp at *; omega)) #[.int .i64 0, .int .i64 0, .int .i64 0, .int .i64 0, .int .i64 0, .int .i64 0, .int .i64 0, .int .i64 0]
      have hO : ∀ kk, kk ≠ w.heap.size + 1 + 1 → (y19.setRow (w.heap.size + 1 + 1) #[.int .i64 0, .int .i64 0, .int .i64 0, .int .i64 0, .int .i64 0, .int .i64 0, .int .i64 0, .int .i64 0]).heap[kk]? = y19.heap[kk]? := fun kk hk => setRow_other _ _ _ _ hk
      obtain ⟨y20, hy20⟩ : ∃ y, y19.setRow (w.heap.size + 1 + 1) #[.int .i64 0, .int .i64 0, .int .i64 0, .int .i64 0, .int .i64 0, .int .i64 0, .int .i64 0, .int .i64 0] = y := ⟨_, rfl⟩
      rw [hy20] at hN HUx hO ⊢
      clear hy20 hsz
      have HU20 := Lib.hid HUx
      clear HUx
      have hr20_0 := (hO _ (by omega)).trans hr19_0
      have hr20_1 := (hO _ (by omega)).trans hr19_1
      have hr20_2 := hN
      have hr20_3 := (hO _ (by omega)).trans hr19_3
      have hr20_4 := (hO _ (by omega)).trans hr19_4
      have hr20_5 := (hO _ (by omega)).trans hr19_5
      have hr20_6 := (hO _ (by omega)).trans hr19_6
      have hr20_7 := (hO _ (by omega)).trans hr19_7
      have hr20_8 := (hO _ (by omega)).trans hr19_8
      clear hN hO
      clear hr19_0 hr19_1 hr19_2 hr19_3 hr19_4 hr19_5 hr19_6 hr19_7 hr19_8 HU19
      have c2_0 := cell_of_row _ _ 0 _ _ _ hr20_2
      have c2_1 := cell_of_row _ _ 1 _ _ _ hr20_2
      have c2_2 := cell_of_row _ _ 2 _ _ _ hr20_2
      have c2_3 := cell_of_row _ _ 3 _ _ _ hr20_2
      have c2_4 := cell_of_row _ _ 4 _ _ _ hr20_2
      have c2_5 := cell_of_row _ _ 5 _ _ _ hr20_2
      have c2_6 := cell_of_row _ _ 6 _ _ _ hr20_2
      have c2_7 := cell_of_row _ _ 7 _ _ _ hr20_2
      simp at c2_0 c2_1 c2_2 c2_3 c2_4 c2_5 c2_6 c2_7
      go_wp2
      exact bodyPost_ret (v := .tuple #[.agg #[.int .i64 0, .int .i64 0, .int .i64 0, .int .i64 0, .int .i64 0, .int .i64 0, .int .i64 0, .int .i64 0], .bool false]) (by simp [results, Try.results93, go_sem, c2_0, c2_1, c2_2, c2_3, c2_4, c2_5, c2_6, c2_7]) rfl ⟨by first | rfl | (unfold pick2; rw [if_pos (.inr (.inr (.inl h2)))]) | simp [pick2, *], HU20.out⟩
    have d2 := decide_eq_false h2
    go_wp2_with fail
    refine (add_any _ _ _).mono ?_
    rintro e ww ⟨rfl, rfl⟩
    by_cases h3 : 65536 < Pl.add U V
    · skip
      have d3 := decide_eq_true h3
      go_upto_region 11 with fail
      have hHr := Lib.hid hr19_2
      have hHi := Lib.hid (show (Try.prog.info? 104).map (·.size) = some (#[.int .i64 0, .int .i64 0, .int .i64 0, .int .i64 0, .int .i64 0, .int .i64 0, .int .i64 0, .int .i64 0] : Array Value).size by kernel_rfl)
      have hHz := Lib.hid (show (#[.int .i64 0, .int .i64 0, .int .i64 0, .int .i64 0, .int .i64 0, .int .i64 0, .int .i64 0, .int .i64 0] : Array Value).size = (#[.int .i64 0, .int .i64 0, .int .i64 0, .int .i64 0, .int .i64 0, .int .i64 0, .int .i64 0, .int .i64 0] : Array Value).size from rfl)
      have hHo := Lib.hid (show (#[.int .i64 0, .int .i64 0, .int .i64 0, .int .i64 0, .int .i64 0, .int .i64 0, .int .i64 0, .int .i64 0] : Array Value).all (·.oneCell') = true by simp [Value.oneCell'])
      go_wp2_with (first | (refine Au.wpList_store_row rfl 104 (.tmp 4) (.tmp 72) rfl y19 #[.int .i64 0, .int .i64 0, .int .i64 0, .int .i64 0, .int .i64 0, .int .i64 0, .int .i64 0, .int .i64 0] #[.int .i64 0, .int .i64 0, .int .i64 0, .int .i64 0, .int .i64 0, .int .i64 0, .int .i64 0, .int .i64 0] (w.heap.size + 1 + 1) 104 hHr.out rfl rfl hHi.out hHz.out hHo.out ?_))
      clear hHr hHi hHz hHo
      have hN := setRow_heap _ (w.heap.size + 1 + 1) _ #[.int .i64 0, .int .i64 0, .int .i64 0, .int .i64 0, .int .i64 0, .int .i64 0, .int .i64 0, .int .i64 0] _ _ hr19_2
      have hsz := HU19.out.size
      have HUx := below_setRow (g := w.heap.size + 1 + 1) HU19.out (by first | omega | (simp at *; omega)) #[.int .i64 0, .int .i64 0, .int .i64 0, .int .i64 0, .int .i64 0, .int .i64 0, .int .i64 0, .int .i64 0]
      have hO : ∀ kk, kk ≠ w.heap.size + 1 + 1 → (y19.setRow (w.heap.size + 1 + 1) #[.int .i64 0, .int .i64 0, .int .i64 0, .int .i64 0, .int .i64 0, .int .i64 0, .int .i64 0, .int .i64 0]).heap[kk]? = y19.heap[kk]? := fun kk hk => setRow_other _ _ _ _ hk
      obtain ⟨y20, hy20⟩ : ∃ y, y19.setRow (w.heap.size + 1 + 1) #[.int .i64 0, .int .i64 0, .int .i64 0, .int .i64 0, .int .i64 0, .int .i64 0, .int .i64 0, .int .i64 0] = y := ⟨_, rfl⟩
      rw [hy20] at hN HUx hO ⊢
      clear hy20 hsz
      have HU20 := Lib.hid HUx
      clear HUx
      have hr20_0 := (hO _ (by omega)).trans hr19_0
      have hr20_1 := (hO _ (by omega)).trans hr19_1
      have hr20_2 := hN
      have hr20_3 := (hO _ (by omega)).trans hr19_3
      have hr20_4 := (hO _ (by omega)).trans hr19_4
      have hr20_5 := (hO _ (by omega)).trans hr19_5
      have hr20_6 := (hO _ (by omega)).trans hr19_6
      have hr20_7 := (hO _ (by omega)).trans hr19_7
      have hr20_8 := (hO _ (by omega)).trans hr19_8
      clear hN hO
      clear hr19_0 hr19_1 hr19_2 hr19_3 hr19_4 hr19_5 hr19_6 hr19_7 hr19_8 HU19
      have c2_0 := cell_of_row _ _ 0 _ _ _ hr20_2
      have c2_1 := cell_of_row _ _ 1 _ _ _ hr20_2
      have c2_2 := cell_of_row _ _ 2 _ _ _ hr20_2
      have c2_3 := cell_of_row _ _ 3 _ _ _ hr20_2
      have c2_4 := cell_of_row _ _ 4 _ _ _ hr20_2
      have c2_5 := cell_of_row _ _ 5 _ _ _ hr20_2
      have c2_6 := cell_of_row _ _ 6 _ _ _ hr20_2
      have c2_7 := cell_of_row _ _ 7 _ _ _ hr20_2
      simp at c2_0 c2_1 c2_2 c2_3 c2_4 c2_5 c2_6 c2_7
      go_wp2
      exact bodyPost_ret (v := .tuple #[.agg #[.int .i64 0, .int .i64 0, .int .i64 0, .int .i64 0, .int .i64 0, .int .i64 0, .int .i64 0, .int .i64 0], .bool false]) (by simp [results, Try.results93, go_sem, c2_0, c2_1, c2_2, c2_3, c2_4, c2_5, c2_6, c2_7]) rfl ⟨by first | rfl | (unfold pick2; rw [if_pos (.inr (.inr (.inr (.inl h3))))]) | simp [pick2, *], HU20.out⟩
    have d3 := decide_eq_false h3
    have c5_0 := cell_of_row _ _ 0 _ _ _ hr19_5
    have c5_1 := cell_of_row _ _ 1 _ _ _ hr19_5
    have c5_2 := cell_of_row _ _ 2 _ _ _ hr19_5
    have c8_0 := cell_of_row _ _ 0 _ _ _ hr19_8
    have c8_1 := cell_of_row _ _ 1 _ _ _ hr19_8
    have c8_2 := cell_of_row _ _ 2 _ _ _ hr19_8
    simp at c5_0 c5_1 c5_2 c8_0 c8_1 c8_2
    go_wp2_with fail
    refine (dot_any _ _ _ _ _ _ _).mono ?_
    rintro e y20 ⟨rfl, hb20⟩
    clear c5_0 c5_1 c5_2 c8_0 c8_1 c8_2
    have hr20_0 := (hb20.block _ (lt_heap hr19_0)).trans hr19_0
    have hr20_1 := (hb20.block _ (lt_heap hr19_1)).trans hr19_1
    have hr20_2 := (hb20.block _ (lt_heap hr19_2)).trans hr19_2
    have hr20_3 := (hb20.block _ (lt_heap hr19_3)).trans hr19_3
    have hr20_4 := (hb20.block _ (lt_heap hr19_4)).trans hr19_4
    have hr20_5 := (hb20.block _ (lt_heap hr19_5)).trans hr19_5
    have hr20_6 := (hb20.block _ (lt_heap hr19_6)).trans hr19_6
    have hr20_7 := (hb20.block _ (lt_heap hr19_7)).trans hr19_7
    have hr20_8 := (hb20.block _ (lt_heap hr19_8)).trans hr19_8
    have HU20 := Lib.hid (HU19.out.trans (hb20.mono HU19.out.size))
    clear hr19_0 hr19_1 hr19_2 hr19_3 hr19_4 hr19_5 hr19_6 hr19_7 hr19_8 HU19
    go_wp2_with fail
    refine (div_any _ _ _).mono ?_
    rintro e ww ⟨rfl, rfl⟩
    rw [ht]
    have c0_0 := cell_of_row _ _ 0 _ _ _ hr20_0
    have c0_1 := cell_of_row _ _ 1 _ _ _ hr20_0
    have c0_2 := cell_of_row _ _ 2 _ _ _ hr20_0
    have c0_3 := cell_of_row _ _ 3 _ _ _ hr20_0
    have c0_4 := cell_of_row _ _ 4 _ _ _ hr20_0
    have c0_5 := cell_of_row _ _ 5 _ _ _ hr20_0
    have c0_6 := cell_of_row _ _ 6 _ _ _ hr20_0
    have c1_0 := cell_of_row _ _ 0 _ _ _ hr20_1
    have c1_1 := cell_of_row _ _ 1 _ _ _ hr20_1
    have c1_2 := cell_of_row _ _ 2 _ _ _ hr20_1
    have c1_3 := cell_of_row _ _ 3 _ _ _ hr20_1
    have c1_4 := cell_of_row _ _ 4 _ _ _ hr20_1
    have c1_5 := cell_of_row _ _ 5 _ _ _ hr20_1
    have c1_6 := cell_of_row _ _ 6 _ _ _ hr20_1
    have c1_7 := cell_of_row _ _ 7 _ _ _ hr20_1
    have c1_8 := cell_of_row _ _ 8 _ _ _ hr20_1
    have c1_9 := cell_of_row _ _ 9 _ _ _ hr20_1
    have c1_10 := cell_of_row _ _ 10 _ _ _ hr20_1
    have c1_11 := cell_of_row _ _ 11 _ _ _ hr20_1
    have c1_12 := cell_of_row _ _ 12 _ _ _ hr20_1
    have c1_13 := cell_of_row _ _ 13 _ _ _ hr20_1
    simp at c0_0 c0_1 c0_2 c0_3 c0_4 c0_5 c0_6 c1_0 c1_1 c1_2 c1_3 c1_4 c1_5 c1_6 c1_7 c1_8 c1_9 c1_10 c1_11 c1_12 c1_13
    go_wp2_with fail
    refine (shows_any near far k0 k1 p0 p1 p2 p3 p4 p5 p6 p7 p8 rad fx fy fz dx dy dz pt b0 b1 b2 b3 b4 b5 t hA _).mono ?_
    rintro e y21 ⟨rfl, hb21⟩
    clear c0_0 c0_1 c0_2 c0_3 c0_4 c0_5 c0_6 c1_0 c1_1 c1_2 c1_3 c1_4 c1_5 c1_6 c1_7 c1_8 c1_9 c1_10 c1_11 c1_12 c1_13
    have hr21_0 := (hb21.block _ (lt_heap hr20_0)).trans hr20_0
    have hr21_1 := (hb21.block _ (lt_heap hr20_1)).trans hr20_1
    have hr21_2 := (hb21.block _ (lt_heap hr20_2)).trans hr20_2
    have hr21_3 := (hb21.block _ (lt_heap hr20_3)).trans hr20_3
    have hr21_4 := (hb21.block _ (lt_heap hr20_4)).trans hr20_4
    have hr21_5 := (hb21.block _ (lt_heap hr20_5)).trans hr20_5
    have hr21_6 := (hb21.block _ (lt_heap hr20_6)).trans hr20_6
    have hr21_7 := (hb21.block _ (lt_heap hr20_7)).trans hr20_7
    have hr21_8 := (hb21.block _ (lt_heap hr20_8)).trans hr20_8
    have HU21 := Lib.hid (HU20.out.trans (hb21.mono HU20.out.size))
    clear hr20_0 hr20_1 hr20_2 hr20_3 hr20_4 hr20_5 hr20_6 hr20_7 hr20_8 HU20
    by_cases h4 : (decide (near < t) && decide (t ≤ far) && has6 b0 b1 b2 b3 b4 b5 (Pl.add fx (Pl.mul dx t)) (Pl.add fy (Pl.mul dy t)) (Pl.add fz (Pl.mul dz t))) = true
    · skip
      rw [h4]
      go_upto_region 15 with fail
      refine wp_region_held_drew (S := fun y => y.heap[w.heap.size]? = some (.cells #[.int .i64 fx, .int .i64 fy, .int .i64 fz, .int .i64 dx, .int .i64 dy, .int .i64 dz, .int .i64 pt] 101 (0, 0)) ∧ y.heap[ge]? = some (.cells #[.int .i64 e_x, .int .i64 e_y, .int .i64 e_z] 71 (0, 0)) ∧ y.heap[gg]? = some (.cells #[.int .i64 g_x, .int .i64 g_y, .int .i64 g_z] 71 (0, 0))) (by kernel_rfl) (⟨hr21_0, hr21_4, hr21_5⟩) (fun hS0 => ?_)
      obtain ⟨y22, hy22⟩ : ∃ y, y21.drew = y := ⟨_, rfl⟩
      have HU22 := Lib.hid (show Below w.heap.size w y22 by rw [← hy22]; exact HU21.out.drew)
      have hr22_0 : y22.heap[w.heap.size]? = some (.cells #[.int .i64 fx, .int .i64 fy, .int .i64 fz, .int .i64 dx, .int .i64 dy, .int .i64 dz, .int .i64 pt] 101 (0, 0)) := by rw [← hy22]; exact hr21_0
      have hr22_1 : y22.heap[w.heap.size + 1]? = some (.cells #[.int .i64 near, .int .i64 far, .int .i64 k0, .int .i64 k1, .int .i64 p0, .int .i64 p1, .int .i64 p2, .int .i64 p3, .int .i64 p4, .int .i64 p5, .int .i64 p6, .int .i64 p7, .int .i64 p8, .int .i64 rad] 191 (0, 0)) := by rw [← hy22]; exact hr21_1
      have hr22_2 : y22.heap[w.heap.size + 1 + 1]? = some (.cells #[.int .i64 0, .int .i64 0, .int .i64 0, .int .i64 0, .int .i64 0, .int .i64 0, .int .i64 0, .int .i64 0] 104 (0, 0)) := by rw [← hy22]; exact hr21_2
      have hr22_3 : y22.heap[y0.heap.size]? = some (.cells #[.int .i64 p0, .int .i64 p1, .int .i64 p2] 71 (0, 0)) := by rw [← hy22]; exact hr21_3
      have hr22_4 : y22.heap[ge]? = some (.cells #[.int .i64 e_x, .int .i64 e_y, .int .i64 e_z] 71 (0, 0)) := by rw [← hy22]; exact hr21_4
      have hr22_5 : y22.heap[gg]? = some (.cells #[.int .i64 g_x, .int .i64 g_y, .int .i64 g_z] 71 (0, 0)) := by rw [← hy22]; exact hr21_5
      have hr22_6 : y22.heap[y10.heap.size]? = some (.cells #[.int .i64 x_x, .int .i64 x_y, .int .i64 x_z] 71 (0, 0)) := by rw [← hy22]; exact hr21_6
      have hr22_7 : y22.heap[y13.heap.size]? = some (.cells #[.int .i64 q_x, .int .i64 q_y, .int .i64 q_z] 71 (0, 0)) := by rw [← hy22]; exact hr21_7
      have hr22_8 : y22.heap[y15.heap.size]? = some (.cells #[.int .i64 z_x, .int .i64 z_y, .int .i64 z_z] 71 (0, 0)) := by rw [← hy22]; exact hr21_8
      rw [hy22] at hS0 ⊢
      clear hy22
      refine wpAnyH_take (i := 0) (v := ?_) rfl (by kernel_rfl) (by kernel_rfl) (by kernel_rfl) (fun _ _ _ h => h) (Or.inl ⟨by kernel_rfl, by (intro wz hSz; have c0_0 := cell_of_row _ _ 0 _ _ _ hSz.1; have c0_1 := cell_of_row _ _ 1 _ _ _ hSz.1; have c0_2 := cell_of_row _ _ 2 _ _ _ hSz.1; have c0_3 := cell_of_row _ _ 3 _ _ _ hSz.1; have c0_4 := cell_of_row _ _ 4 _ _ _ hSz.1; have c0_5 := cell_of_row _ _ 5 _ _ _ hSz.1; have c0_6 := cell_of_row _ _ 6 _ _ _ hSz.1; have c4_0 := cell_of_row _ _ 0 _ _ _ hSz.2.1; have c4_1 := cell_of_row _ _ 1 _ _ _ hSz.2.1; have c4_2 := cell_of_row _ _ 2 _ _ _ hSz.2.1; have c5_0 := cell_of_row _ _ 0 _ _ _ hSz.2.2; have c5_1 := cell_of_row _ _ 1 _ _ _ hSz.2.2; have c5_2 := cell_of_row _ _ 2 _ _ _ hSz.2.2; simp at c0_0 c0_1 c0_2 c0_3 c0_4 c0_5 c0_6 c4_0 c4_1 c4_2 c5_0 c5_1 c5_2; go_simp; try with_reducible rfl)⟩) hS0 ?_
      go_simp
      refine wpAnyH_take (i := 1) (v := ?_) rfl (by kernel_rfl) (by kernel_rfl) (by kernel_rfl) (fun _ _ _ h => h) (Or.inl ⟨by kernel_rfl, by (intro wz hSz; go_simp; try with_reducible rfl)⟩) hS0 ?_
      go_simp
      refine wpAnyH_take (i := 2) (v := ?_) rfl (by kernel_rfl) (by kernel_rfl) (by kernel_rfl) (fun _ _ _ h => h) (Or.inl ⟨by kernel_rfl, by (intro wz hSz; have c0_0 := cell_of_row _ _ 0 _ _ _ hSz.1; have c0_1 := cell_of_row _ _ 1 _ _ _ hSz.1; have c0_2 := cell_of_row _ _ 2 _ _ _ hSz.1; have c0_3 := cell_of_row _ _ 3 _ _ _ hSz.1; have c0_4 := cell_of_row _ _ 4 _ _ _ hSz.1; have c0_5 := cell_of_row _ _ 5 _ _ _ hSz.1; have c0_6 := cell_of_row _ _ 6 _ _ _ hSz.1; have c4_0 := cell_of_row _ _ 0 _ _ _ hSz.2.1; have c4_1 := cell_of_row _ _ 1 _ _ _ hSz.2.1; have c4_2 := cell_of_row _ _ 2 _ _ _ hSz.2.1; have c5_0 := cell_of_row _ _ 0 _ _ _ hSz.2.2; have c5_1 := cell_of_row _ _ 1 _ _ _ hSz.2.2; have c5_2 := cell_of_row _ _ 2 _ _ _ hSz.2.2; simp at c0_0 c0_1 c0_2 c0_3 c0_4 c0_5 c0_6 c4_0 c4_1 c4_2 c5_0 c5_1 c5_2; go_simp; try with_reducible rfl)⟩) hS0 ?_
      go_simp
      refine wpAnyH_take (i := 3) (v := ?_) rfl (by kernel_rfl) (by kernel_rfl) (by kernel_rfl) (fun _ _ _ h => h) (Or.inl ⟨by kernel_rfl, by (intro wz hSz; have c0_0 := cell_of_row _ _ 0 _ _ _ hSz.1; have c0_1 := cell_of_row _ _ 1 _ _ _ hSz.1; have c0_2 := cell_of_row _ _ 2 _ _ _ hSz.1; have c0_3 := cell_of_row _ _ 3 _ _ _ hSz.1; have c0_4 := cell_of_row _ _ 4 _ _ _ hSz.1; have c0_5 := cell_of_row _ _ 5 _ _ _ hSz.1; have c0_6 := cell_of_row _ _ 6 _ _ _ hSz.1; have c4_0 := cell_of_row _ _ 0 _ _ _ hSz.2.1; have c4_1 := cell_of_row _ _ 1 _ _ _ hSz.2.1; have c4_2 := cell_of_row _ _ 2 _ _ _ hSz.2.1; have c5_0 := cell_of_row _ _ 0 _ _ _ hSz.2.2; have c5_1 := cell_of_row _ _ 1 _ _ _ hSz.2.2; have c5_2 := cell_of_row _ _ 2 _ _ _ hSz.2.2; simp at c0_0 c0_1 c0_2 c0_3 c0_4 c0_5 c0_6 c4_0 c4_1 c4_2 c5_0 c5_1 c5_2; go_simp; try with_reducible rfl)⟩) hS0 ?_
      go_simp
      refine wpAnyH_ready (rs := [4]) (by kernel_rfl) (by simp) ?_
      refine AllReadyH.cons rfl (fun K hK => ?_) AllReadyH.nil
      go_simp
      go_wp2_with (go_at_call 149; refine (cross_any _ _ _ _ _ _ _).mono ?_; rintro e y23 ⟨rfl, hb23⟩; try rw [hm_x, hm_y, hm_z])
      have hr23_0 := (hb23.block _ (lt_heap hr22_0)).trans hr22_0
      have hr23_1 := (hb23.block _ (lt_heap hr22_1)).trans hr22_1
      have hr23_2 := (hb23.block _ (lt_heap hr22_2)).trans hr22_2
      have hr23_3 := (hb23.block _ (lt_heap hr22_3)).trans hr22_3
      have hr23_4 := (hb23.block _ (lt_heap hr22_4)).trans hr22_4
      have hr23_5 := (hb23.block _ (lt_heap hr22_5)).trans hr22_5
      have hr23_6 := (hb23.block _ (lt_heap hr22_6)).trans hr22_6
      have hr23_7 := (hb23.block _ (lt_heap hr22_7)).trans hr22_7
      have hr23_8 := (hb23.block _ (lt_heap hr22_8)).trans hr22_8
      have HU23 := Lib.hid (HU22.out.trans (hb23.mono HU22.out.size))
      refine hK.out _ _ (⟨(hb23.block _ (lt_heap hS0.1)).trans hS0.1, (hb23.block _ (lt_heap hS0.2.1)).trans hS0.2.1, (hb23.block _ (lt_heap hS0.2.2)).trans hS0.2.2⟩) (fun hS23c => ?_)
      clear hK K
      refine wpAnyH_ready (rs := [5]) (by kernel_rfl) (by simp) ?_
      refine AllReadyH.cons rfl (fun K hK => ?_) AllReadyH.nil
      go_simp
      go_wp2_with (go_at_call 148; refine (vunit_any _ _ _ _).mono ?_; rintro e y24 ⟨rfl, hb24⟩; rw [enx, eny, enz])
      have hr24_0 := (hb24.block _ (lt_heap hr23_0)).trans hr23_0
      have hr24_1 := (hb24.block _ (lt_heap hr23_1)).trans hr23_1
      have hr24_2 := (hb24.block _ (lt_heap hr23_2)).trans hr23_2
      have hr24_3 := (hb24.block _ (lt_heap hr23_3)).trans hr23_3
      have hr24_4 := (hb24.block _ (lt_heap hr23_4)).trans hr23_4
      have hr24_5 := (hb24.block _ (lt_heap hr23_5)).trans hr23_5
      have hr24_6 := (hb24.block _ (lt_heap hr23_6)).trans hr23_6
      have hr24_7 := (hb24.block _ (lt_heap hr23_7)).trans hr23_7
      have hr24_8 := (hb24.block _ (lt_heap hr23_8)).trans hr23_8
      have HU24 := Lib.hid (HU23.out.trans (hb24.mono HU23.out.size))
      refine hK.out _ _ (⟨(hb24.block _ (lt_heap hS23c.1)).trans hS23c.1, (hb24.block _ (lt_heap hS23c.2.1)).trans hS23c.2.1, (hb24.block _ (lt_heap hS23c.2.2)).trans hS23c.2.2⟩) (fun hS24c => ?_)
      clear hK K
      refine wpAnyH_ready (rs := [6]) (by kernel_rfl) (by simp) ?_
      refine AllReadyH.cons rfl (fun K hK => ?_) AllReadyH.nil
      go_simp
      go_wp2_with (go_at_call 147; refine (hit_any fx fy fz dx dy dz pt t nx ny nz v ev _).mono ?_; rintro e y25 ⟨rfl, hb25⟩)
      have hr25_0 := (hb25.block _ (lt_heap hr24_0)).trans hr24_0
      have hr25_1 := (hb25.block _ (lt_heap hr24_1)).trans hr24_1
      have hr25_2 := (hb25.block _ (lt_heap hr24_2)).trans hr24_2
      have hr25_3 := (hb25.block _ (lt_heap hr24_3)).trans hr24_3
      have hr25_4 := (hb25.block _ (lt_heap hr24_4)).trans hr24_4
      have hr25_5 := (hb25.block _ (lt_heap hr24_5)).trans hr24_5
      have hr25_6 := (hb25.block _ (lt_heap hr24_6)).trans hr24_6
      have hr25_7 := (hb25.block _ (lt_heap hr24_7)).trans hr24_7
      have hr25_8 := (hb25.block _ (lt_heap hr24_8)).trans hr24_8
      have HU25 := Lib.hid (HU24.out.trans (hb25.mono HU24.out.size))
      refine hK.out _ _ (⟨(hb25.block _ (lt_heap hS24c.1)).trans hS24c.1, (hb25.block _ (lt_heap hS24c.2.1)).trans hS24c.2.1, (hb25.block _ (lt_heap hS24c.2.2)).trans hS24c.2.2⟩) (fun hS25c => ?_)
      clear hK K
      refine wpAnyH_ready (rs := [7]) (by kernel_rfl) (by simp) ?_
      refine AllReadyH.cons rfl (fun K hK => ?_) AllReadyH.nil
      refine step_store_row rfl 104 (.tmp 4) (.tmp 90) rfl #[.int .i64 0, .int .i64 0, .int .i64 0, .int .i64 0, .int .i64 0, .int .i64 0, .int .i64 0, .int .i64 0] #[.int .i64 t, .int .i64 0, .int .i64 (Pl.add fx (Pl.mul dx t)), .int .i64 (Pl.add fy (Pl.mul dy t)), .int .i64 (Pl.add fz (Pl.mul dz t)), .int .i64 (fc v nx), .int .i64 (fc v ny), .int .i64 (fc v nz)] _ 104 hr25_2 rfl (by first | rfl | (go_simp; done) | (go_simp; rfl)) (by kernel_rfl) rfl (by simp [Value.oneCell']) ?_
      have hN := setRow_heap _ (w.heap.size + 1 + 1) _ #[.int .i64 t, .int .i64 0, .int .i64 (Pl.add fx (Pl.mul dx t)), .int .i64 (Pl.add fy (Pl.mul dy t)), .int .i64 (Pl.add fz (Pl.mul dz t)), .int .i64 (fc v nx), .int .i64 (fc v ny), .int .i64 (fc v nz)] _ _ hr25_2
      have hsz := HU25.out.size
      have HUx := below_setRow (g := w.heap.size + 1 + 1) HU25.out (by first | omega | (simp at *; omega)) #[.int .i64 t, .int .i64 0, .int .i64 (Pl.add fx (Pl.mul dx t)), .int .i64 (Pl.add fy (Pl.mul dy t)), .int .i64 (Pl.add fz (Pl.mul dz t)), .int .i64 (fc v nx), .int .i64 (fc v ny), .int .i64 (fc v nz)]
      obtain ⟨y26, hy26⟩ : ∃ y, y25.setRow (w.heap.size + 1 + 1) #[.int .i64 t, .int .i64 0, .int .i64 (Pl.add fx (Pl.mul dx t)), .int .i64 (Pl.add fy (Pl.mul dy t)), .int .i64 (Pl.add fz (Pl.mul dz t)), .int .i64 (fc v nx), .int .i64 (fc v ny), .int .i64 (fc v nz)] = y := ⟨_, rfl⟩
      have hO : ∀ k, k ≠ w.heap.size + 1 + 1 → y26.heap[k]? = y25.heap[k]? := fun k hk => by rw [← hy26]; exact setRow_other _ _ _ _ hk
      rw [hy26] at hN HUx ⊢
      clear hy26
      have HU26 := Lib.hid HUx
      clear HUx
      have hr26_0 := (hO _ (by omega)).trans hr25_0
      have hr26_1 := (hO _ (by omega)).trans hr25_1
      have hr26_2 := hN
      have hr26_3 := (hO _ (by omega)).trans hr25_3
      have hr26_4 := (hO _ (by omega)).trans hr25_4
      have hr26_5 := (hO _ (by omega)).trans hr25_5
      have hr26_6 := (hO _ (by omega)).trans hr25_6
      have hr26_7 := (hO _ (by omega)).trans hr25_7
      have hr26_8 := (hO _ (by omega)).trans hr25_8
      clear hN
      refine hK.out _ _ (⟨(hO _ (by omega)).trans hS25c.1, (hO _ (by omega)).trans hS25c.2.1, (hO _ (by omega)).trans hS25c.2.2⟩) (fun hS26s => ?_)
      clear hK K
      refine wpAnyH_take (i := 8) (v := ?_) rfl (by kernel_rfl) (by kernel_rfl) (by kernel_rfl) (fun _ _ _ h => h) (Or.inl ⟨by kernel_rfl, by (intro wz hSz; go_simp; try with_reducible rfl)⟩) hS26s ?_
      go_simp
      refine wpAnyH_done (by kernel_rfl) ?_ _
      have c2_0 := cell_of_row _ _ 0 _ _ _ hr26_2
      have c2_1 := cell_of_row _ _ 1 _ _ _ hr26_2
      have c2_2 := cell_of_row _ _ 2 _ _ _ hr26_2
      have c2_3 := cell_of_row _ _ 3 _ _ _ hr26_2
      have c2_4 := cell_of_row _ _ 4 _ _ _ hr26_2
      have c2_5 := cell_of_row _ _ 5 _ _ _ hr26_2
      have c2_6 := cell_of_row _ _ 6 _ _ _ hr26_2
      have c2_7 := cell_of_row _ _ 7 _ _ _ hr26_2
      simp at c2_0 c2_1 c2_2 c2_3 c2_4 c2_5 c2_6 c2_7
      go_wp2
      exact bodyPost_ret (v := .tuple #[.agg #[.int .i64 t, .int .i64 0, .int .i64 (Pl.add fx (Pl.mul dx t)), .int .i64 (Pl.add fy (Pl.mul dy t)), .int .i64 (Pl.add fz (Pl.mul dz t)), .int .i64 (fc v nx), .int .i64 (fc v ny), .int .i64 (fc v nz)], .bool true]) (by simp [results, Try.results93, go_sem, c2_0, c2_1, c2_2, c2_3, c2_4, c2_5, c2_6, c2_7]) rfl ⟨by first | rfl | (unfold pick2; rw [if_neg (by rw [h4]; simp [h0, h1, h2, h3])]) | (unfold pick2; rw [if_neg (by rw [h4]; simp; omega)]) | simp [pick2, *], HU26.out⟩
    have h5 := Bool.eq_false_iff.2 h4
    rw [h5]
    go_upto_region 14 with fail
    have hHr := Lib.hid hr21_2
    have hHi := Lib.hid (show (Try.prog.info? 104).map (·.size) = some (#[.int .i64 0, .int .i64 0, .int .i64 0, .int .i64 0, .int .i64 0, .int .i64 0, .int .i64 0, .int .i64 0] : Array Value).size by kernel_rfl)
    have hHz := Lib.hid (show (#[.int .i64 0, .int .i64 0, .int .i64 0, .int .i64 0, .int .i64 0, .int .i64 0, .int .i64 0, .int .i64 0] : Array Value).size = (#[.int .i64 0, .int .i64 0, .int .i64 0, .int .i64 0, .int .i64 0, .int .i64 0, .int .i64 0, .int .i64 0] : Array Value).size from rfl)
    have hHo := Lib.hid (show (#[.int .i64 0, .int .i64 0, .int .i64 0, .int .i64 0, .int .i64 0, .int .i64 0, .int .i64 0, .int .i64 0] : Array Value).all (·.oneCell') = true by simp [Value.oneCell'])
    go_wp2_with (first | (refine Au.wpList_store_row rfl 104 (.tmp 4) (.tmp 83) rfl y21 #[.int .i64 0, .int .i64 0, .int .i64 0, .int .i64 0, .int .i64 0, .int .i64 0, .int .i64 0, .int .i64 0] #[.int .i64 0, .int .i64 0, .int .i64 0, .int .i64 0, .int .i64 0, .int .i64 0, .int .i64 0, .int .i64 0] (w.heap.size + 1 + 1) 104 hHr.out rfl rfl hHi.out hHz.out hHo.out ?_))
    clear hHr hHi hHz hHo
    have hN := setRow_heap _ (w.heap.size + 1 + 1) _ #[.int .i64 0, .int .i64 0, .int .i64 0, .int .i64 0, .int .i64 0, .int .i64 0, .int .i64 0, .int .i64 0] _ _ hr21_2
    have hsz := HU21.out.size
    have HUx := below_setRow (g := w.heap.size + 1 + 1) HU21.out (by first | omega | (simp at *; omega)) #[.int .i64 0, .int .i64 0, .int .i64 0, .int .i64 0, .int .i64 0, .int .i64 0, .int .i64 0, .int .i64 0]
    have hO : ∀ kk, kk ≠ w.heap.size + 1 + 1 → (y21.setRow (w.heap.size + 1 + 1) #[.int .i64 0, .int .i64 0, .int .i64 0, .int .i64 0, .int .i64 0, .int .i64 0, .int .i64 0, .int .i64 0]).heap[kk]? = y21.heap[kk]? := fun kk hk => setRow_other _ _ _ _ hk
    obtain ⟨y22, hy22⟩ : ∃ y, y21.setRow (w.heap.size + 1 + 1) #[.int .i64 0, .int .i64 0, .int .i64 0, .int .i64 0, .int .i64 0, .int .i64 0, .int .i64 0, .int .i64 0] = y := ⟨_, rfl⟩
    rw [hy22] at hN HUx hO ⊢
    clear hy22 hsz
    have HU22 := Lib.hid HUx
    clear HUx
    have hr22_0 := (hO _ (by omega)).trans hr21_0
    have hr22_1 := (hO _ (by omega)).trans hr21_1
    have hr22_2 := hN
    have hr22_3 := (hO _ (by omega)).trans hr21_3
    have hr22_4 := (hO _ (by omega)).trans hr21_4
    have hr22_5 := (hO _ (by omega)).trans hr21_5
    have hr22_6 := (hO _ (by omega)).trans hr21_6
    have hr22_7 := (hO _ (by omega)).trans hr21_7
    have hr22_8 := (hO _ (by omega)).trans hr21_8
    clear hN hO
    clear hr21_0 hr21_1 hr21_2 hr21_3 hr21_4 hr21_5 hr21_6 hr21_7 hr21_8 HU21
    have c2_0 := cell_of_row _ _ 0 _ _ _ hr22_2
    have c2_1 := cell_of_row _ _ 1 _ _ _ hr22_2
    have c2_2 := cell_of_row _ _ 2 _ _ _ hr22_2
    have c2_3 := cell_of_row _ _ 3 _ _ _ hr22_2
    have c2_4 := cell_of_row _ _ 4 _ _ _ hr22_2
    have c2_5 := cell_of_row _ _ 5 _ _ _ hr22_2
    have c2_6 := cell_of_row _ _ 6 _ _ _ hr22_2
    have c2_7 := cell_of_row _ _ 7 _ _ _ hr22_2
    simp at c2_0 c2_1 c2_2 c2_3 c2_4 c2_5 c2_6 c2_7
    go_wp2
    exact bodyPost_ret (v := .tuple #[.agg #[.int .i64 0, .int .i64 0, .int .i64 0, .int .i64 0, .int .i64 0, .int .i64 0, .int .i64 0, .int .i64 0], .bool false]) (by simp [results, Try.results93, go_sem, c2_0, c2_1, c2_2, c2_3, c2_4, c2_5, c2_6, c2_7]) rfl ⟨by first | rfl | (unfold pick2; rw [if_pos (.inr (.inr (.inr (.inr h5))))]) | simp [pick2, *], HU22.out⟩

end Go.Proofs.Ythlcfhnlkpobhaa.Yr
