/- Boxes: about a shape, by the document; whether a box reaches an end of the span. -/
import Derived.Test.YthlcfhnlkpobhaaBl
import Derived.Test.YthlcfhnlkpobhaaBp
namespace Go.Proofs.Ythlcfhnlkpobhaa.Bx
open Go.RowKit Go.Proofs.Ythlcfhnlkpobhaa Go.Proofs.Ythlcfhnlkpobhaa.Wa Go.Proofs.Ythlcfhnlkpobhaa.Ve Go.Proofs.Ythlcfhnlkpobhaa.Au
set_option linter.unusedVariables false
set_option linter.unusedSimpArgs false

def nine (a b c d e f g h i : Int) (n : Nat) : Int := [a, b, c, d, e, f, g, h, i].getD n 0

theorem lo_three (L : Nat → Int) (i : Nat) : lo L i 3 = min (L i) (min (L (3 + i)) (L (6 + i))) := by
  show min (min (min (L i) (L (0 * 3 + i))) (L (1 * 3 + i))) (L (2 * 3 + i)) = _
  rw [show 0 * 3 + i = i by omega, show 1 * 3 + i = 3 + i by omega, show 2 * 3 + i = 6 + i by omega]
  omega

theorem hig_three (L : Nat → Int) (i : Nat) : hig L i 3 = max (L i) (max (L (3 + i)) (L (6 + i))) := by
  show max (max (max (L i) (L (0 * 3 + i))) (L (1 * 3 + i))) (L (2 * 3 + i)) = _
  rw [show 0 * 3 + i = i by omega, show 1 * 3 + i = 3 + i by omega, show 2 * 3 + i = 6 + i by omega]
  omega

/-- the document's box of one point -/
theorem rof_one (g cap : Nat) (a b c : Int) (w : World) (hg : g < w.heap.size) (h0 : w.cell? ⟨g, 0, none⟩ = some (.int .i64 a)) (h1 : w.cell? ⟨g, 1, none⟩ = some (.int .i64 b)) (h2 : w.cell? ⟨g, 2, none⟩ = some (.int .i64 c)) :
    Calls Try.prog 34 #[.slice (some ⟨g, 0, none⟩) 1 cap] w fun e w' => e = .returned (.agg #[.int .i64 a, .int .i64 b, .int .i64 c, .int .i64 a, .int .i64 b, .int .i64 c]) ∧ Below w.heap.size w w' := by
  have h := rof_row g 0 1 cap (nine a b c 0 0 0 0 0 0) (by omega) (by omega) w (numsF_mk hg (fun j hj => by
    rw [Nat.zero_add]
    match j, hj with
    | 0, _ => exact h0
    | 1, _ => exact h1
    | 2, _ => exact h2))
  simp only [lo_one, hig_one] at h
  exact h

/-- the document's box of three points -/
theorem rof_three (gb cap : Nat) (a b c d e f g h i : Int) (w : World) (hg : gb < w.heap.size) (hp : ∀ j, j < 9 → w.cell? ⟨gb, j, none⟩ = some (.int .i64 (nine a b c d e f g h i j))) :
    Calls Try.prog 34 #[.slice (some ⟨gb, 0, none⟩) 3 cap] w fun e' w' => e' = .returned (.agg #[.int .i64 (min a (min d g)), .int .i64 (min b (min e h)), .int .i64 (min c (min f i)), .int .i64 (max a (max d g)), .int .i64 (max b (max e h)), .int .i64 (max c (max f i))]) ∧ Below w.heap.size w w' := by
  have hh := rof_row gb 0 3 cap (nine a b c d e f g h i) (by omega) (by omega) w (numsF_mk hg (fun j hj => by rw [Nat.zero_add]; exact hp j hj))
  simp only [lo_three, hig_three] at hh
  exact hh

set_option maxHeartbeats 2000000 in
set_option maxRecDepth 100000 in
theorem raround_ball (a1 a2 a3 a4 a5 a6 a7 a8 a9 a10 a11 : Int) (w : World)  : Calls Try.prog 73 #[.agg #[.int .i64 0, .int .i64 a1, .int .i64 a2, .int .i64 a3, .int .i64 a4, .int .i64 a5, .int .i64 a6, .int .i64 a7, .int .i64 a8, .int .i64 a9, .int .i64 a10, .int .i64 a11]] w fun e' w' => e' = .returned (.agg #[.int .i64 (Pl.sub a2 (Pl.add a11 8192)), .int .i64 (Pl.sub a3 (Pl.add a11 8192)), .int .i64 (Pl.sub a4 (Pl.add a11 8192)), .int .i64 (Pl.add a2 (Pl.add a11 8192)), .int .i64 (Pl.add a3 (Pl.add a11 8192)), .int .i64 (Pl.add a4 (Pl.add a11 8192))]) ∧ Below w.heap.size w w' := by
  go_enter Try.func73, Try.ntmps73
  go_upto_region 1 with fail
  have hR := Au.rows2 w (.cells #[.int .i64 0, .int .i64 a1, .int .i64 a2, .int .i64 a3, .int .i64 a4, .int .i64 a5, .int .i64 a6, .int .i64 a7, .int .i64 a8, .int .i64 a9, .int .i64 a10, .int .i64 a11] 62) (.cells #[.int .i64 0, .int .i64 0, .int .i64 0, .int .i64 0, .int .i64 0, .int .i64 0] 67)
  have HUx := below_n2 w (.cells #[.int .i64 0, .int .i64 a1, .int .i64 a2, .int .i64 a3, .int .i64 a4, .int .i64 a5, .int .i64 a6, .int .i64 a7, .int .i64 a8, .int .i64 a9, .int .i64 a10, .int .i64 a11] 62) (.cells #[.int .i64 0, .int .i64 0, .int .i64 0, .int .i64 0, .int .i64 0, .int .i64 0] 67)
  obtain ⟨y0, hy0⟩ : ∃ y0, (w.alloc (.cells #[.int .i64 0, .int .i64 a1, .int .i64 a2, .int .i64 a3, .int .i64 a4, .int .i64 a5, .int .i64 a6, .int .i64 a7, .int .i64 a8, .int .i64 a9, .int .i64 a10, .int .i64 a11] 62)).alloc (.cells #[.int .i64 0, .int .i64 0, .int .i64 0, .int .i64 0, .int .i64 0, .int .i64 0] 67) = y0 := ⟨_, rfl⟩
  rw [hy0] at hR HUx ⊢
  clear hy0
  have HU0 := Lib.hid HUx
  clear HUx
  obtain ⟨hr0_0, hr0_1⟩ := hR
  have c0_0 := cell_of_row _ _ 0 _ _ _ hr0_0
  have c0_1 := cell_of_row _ _ 1 _ _ _ hr0_0
  have c0_2 := cell_of_row _ _ 2 _ _ _ hr0_0
  have c0_3 := cell_of_row _ _ 3 _ _ _ hr0_0
  have c0_4 := cell_of_row _ _ 4 _ _ _ hr0_0
  have c0_5 := cell_of_row _ _ 5 _ _ _ hr0_0
  have c0_6 := cell_of_row _ _ 6 _ _ _ hr0_0
  have c0_7 := cell_of_row _ _ 7 _ _ _ hr0_0
  have c0_8 := cell_of_row _ _ 8 _ _ _ hr0_0
  have c0_9 := cell_of_row _ _ 9 _ _ _ hr0_0
  have c0_10 := cell_of_row _ _ 10 _ _ _ hr0_0
  have c0_11 := cell_of_row _ _ 11 _ _ _ hr0_0
  have c1_0 := cell_of_row _ _ 0 _ _ _ hr0_1
  have c1_1 := cell_of_row _ _ 1 _ _ _ hr0_1
  have c1_2 := cell_of_row _ _ 2 _ _ _ hr0_1
  have c1_3 := cell_of_row _ _ 3 _ _ _ hr0_1
  have c1_4 := cell_of_row _ _ 4 _ _ _ hr0_1
  have c1_5 := cell_of_row _ _ 5 _ _ _ hr0_1
  simp at c0_0 c0_1 c0_2 c0_3 c0_4 c0_5 c0_6 c0_7 c0_8 c0_9 c0_10 c0_11 c1_0 c1_1 c1_2 c1_3 c1_4 c1_5
  go_upto_region 2 with fail
  clear c0_0 c0_1 c0_2 c0_3 c0_4 c0_5 c0_6 c0_7 c0_8 c0_9 c0_10 c0_11 c1_0 c1_1 c1_2 c1_3 c1_4 c1_5
  refine wp_region_held_drew (S := fun y => y.heap[w.heap.size]? = some (.cells #[.int .i64 0, .int .i64 a1, .int .i64 a2, .int .i64 a3, .int .i64 a4, .int .i64 a5, .int .i64 a6, .int .i64 a7, .int .i64 a8, .int .i64 a9, .int .i64 a10, .int .i64 a11] 62 (0, 0))) (by kernel_rfl) (hr0_0) (fun hS0 => ?_)
  obtain ⟨y1, hy1⟩ : ∃ y, y0.drew = y := ⟨_, rfl⟩
  have HU1 := Lib.hid (show Below w.heap.size w y1 by rw [← hy1]; exact HU0.out.drew)
  have hr1_0 : y1.heap[w.heap.size]? = some (.cells #[.int .i64 0, .int .i64 a1, .int .i64 a2, .int .i64 a3, .int .i64 a4, .int .i64 a5, .int .i64 a6, .int .i64 a7, .int .i64 a8, .int .i64 a9, .int .i64 a10, .int .i64 a11] 62 (0, 0)) := by rw [← hy1]; exact hr0_0
  have hr1_1 : y1.heap[w.heap.size + 1]? = some (.cells #[.int .i64 0, .int .i64 0, .int .i64 0, .int .i64 0, .int .i64 0, .int .i64 0] 67 (0, 0)) := by rw [← hy1]; exact hr0_1
  rw [hy1] at hS0 ⊢
  clear hy1
  refine wpAnyH_take (i := 0) (v := ?_) rfl (by kernel_rfl) (by kernel_rfl) (by kernel_rfl) (fun _ _ _ h => h) (Or.inl ⟨by kernel_rfl, by (intro wz hSz; go_simp; try with_reducible rfl)⟩) hS0 ?_
  go_simp
  refine wpAnyH_take (i := 1) (v := ?_) rfl (by kernel_rfl) (by kernel_rfl) (by kernel_rfl) (fun _ _ _ h => h) (Or.inl ⟨by kernel_rfl, by (intro wz hSz; go_simp; try with_reducible rfl)⟩) hS0 ?_
  go_simp
  refine wpAnyH_take (i := 2) (v := ?_) rfl (by kernel_rfl) (by kernel_rfl) (by kernel_rfl) (fun _ _ _ h => h) (Or.inl ⟨by kernel_rfl, by (intro wz hSz; have c0_0 := cell_of_row _ _ 0 _ _ _ hSz; have c0_1 := cell_of_row _ _ 1 _ _ _ hSz; have c0_2 := cell_of_row _ _ 2 _ _ _ hSz; have c0_3 := cell_of_row _ _ 3 _ _ _ hSz; have c0_4 := cell_of_row _ _ 4 _ _ _ hSz; have c0_5 := cell_of_row _ _ 5 _ _ _ hSz; have c0_6 := cell_of_row _ _ 6 _ _ _ hSz; have c0_7 := cell_of_row _ _ 7 _ _ _ hSz; have c0_8 := cell_of_row _ _ 8 _ _ _ hSz; have c0_9 := cell_of_row _ _ 9 _ _ _ hSz; have c0_10 := cell_of_row _ _ 10 _ _ _ hSz; have c0_11 := cell_of_row _ _ 11 _ _ _ hSz; simp at c0_0 c0_1 c0_2 c0_3 c0_4 c0_5 c0_6 c0_7 c0_8 c0_9 c0_10 c0_11; go_simp; try with_reducible rfl)⟩) hS0 ?_
  go_simp
  refine wpAnyH_take (i := 5) (v := ?_) rfl (by kernel_rfl) (by kernel_rfl) (by kernel_rfl) (fun _ _ _ h => h) (Or.inl ⟨by kernel_rfl, by (intro wz hSz; go_simp; try with_reducible rfl)⟩) hS0 ?_
  go_simp
  refine wpAnyH_take (i := 6) (v := ?_) rfl (by kernel_rfl) (by kernel_rfl) (by kernel_rfl) (fun _ _ _ h => h) (Or.inl ⟨by kernel_rfl, by (intro wz hSz; have c0_0 := cell_of_row _ _ 0 _ _ _ hSz; have c0_1 := cell_of_row _ _ 1 _ _ _ hSz; have c0_2 := cell_of_row _ _ 2 _ _ _ hSz; have c0_3 := cell_of_row _ _ 3 _ _ _ hSz; have c0_4 := cell_of_row _ _ 4 _ _ _ hSz; have c0_5 := cell_of_row _ _ 5 _ _ _ hSz; have c0_6 := cell_of_row _ _ 6 _ _ _ hSz; have c0_7 := cell_of_row _ _ 7 _ _ _ hSz; have c0_8 := cell_of_row _ _ 8 _ _ _ hSz; have c0_9 := cell_of_row _ _ 9 _ _ _ hSz; have c0_10 := cell_of_row _ _ 10 _ _ _ hSz; have c0_11 := cell_of_row _ _ 11 _ _ _ hSz; simp at c0_0 c0_1 c0_2 c0_3 c0_4 c0_5 c0_6 c0_7 c0_8 c0_9 c0_10 c0_11; go_simp; try with_reducible rfl)⟩) hS0 ?_
  go_simp
  refine wpAnyH_ready (rs := [3]) (by kernel_rfl) (by simp) ?_
  refine AllReadyH.cons rfl (fun K hK => ?_) AllReadyH.nil
  go_simp
  have hb2 := below_n1 y1 (.cells #[.int .i64 a2, .int .i64 a3, .int .i64 a4] 59)
  have hN := heap_alloc_last y1 (.cells #[.int .i64 a2, .int .i64 a3, .int .i64 a4] 59)
  obtain ⟨y2, hy2⟩ : ∃ y, y1.alloc (.cells #[.int .i64 a2, .int .i64 a3, .int .i64 a4] 59) = y := ⟨_, rfl⟩
  rw [hy2] at hb2 hN ⊢
  clear hy2
  have hl2_0 := lt_heap hr1_0
  have hr2_0 := (hb2.block _ (lt_heap hr1_0)).trans hr1_0
  have hl2_1 := lt_heap hr1_1
  have hr2_1 := (hb2.block _ (lt_heap hr1_1)).trans hr1_1
  have hr2_2 := hN
  clear hN
  have HU2 := Lib.hid (HU1.out.trans (hb2.mono HU1.out.size))
  refine hK.out _ _ ((hb2.block _ (lt_heap hS0)).trans hS0) (fun hS2a => ?_)
  clear hK K
  refine wpAnyH_ready (rs := [4]) (by kernel_rfl) (by simp) ?_
  refine AllReadyH.cons rfl (fun K hK => ?_) AllReadyH.nil
  go_simp
  go_wp2_with (go_at_call 34; refine (rof_one (y1.heap.size) _ a2 a3 a4 _ (lt_heap hr2_2) (cell_of_row _ _ 0 _ _ _ hr2_2) (cell_of_row _ _ 1 _ _ _ hr2_2) (cell_of_row _ _ 2 _ _ _ hr2_2)).mono ?_; rintro e y3 ⟨rfl, hb3⟩)
  have hr3_0 := (hb3.block _ (lt_heap hr2_0)).trans hr2_0
  have hr3_1 := (hb3.block _ (lt_heap hr2_1)).trans hr2_1
  have hr3_2 := (hb3.block _ (lt_heap hr2_2)).trans hr2_2
  have HU3 := Lib.hid (HU2.out.trans (hb3.mono HU2.out.size))
  refine hK.out _ _ ((hb3.block _ (lt_heap hS2a)).trans hS2a) (fun hS3c => ?_)
  clear hK K
  refine wpAnyH_ready (rs := [7]) (by kernel_rfl) (by simp) ?_
  refine AllReadyH.cons rfl (fun K hK => ?_) AllReadyH.nil
  go_simp
  go_wp2_with (go_at_call 75; refine (refAdd_any _ _ _).mono ?_; rintro e ww ⟨rfl, rfl⟩)
  refine hK.out _ _ (hS3c) (fun hS3q7 => ?_)
  clear hK K
  refine wpAnyH_ready (rs := [8]) (by kernel_rfl) (by simp) ?_
  refine AllReadyH.cons rfl (fun K hK => ?_) AllReadyH.nil
  go_simp
  go_wp2_with (go_at_call 139; refine (rwider_any a2 a3 a4 a2 a3 a4 (Pl.add a11 8192) _).mono ?_; rintro e y4 ⟨rfl, hb4⟩)
  have hr4_0 := (hb4.block _ (lt_heap hr3_0)).trans hr3_0
  have hr4_1 := (hb4.block _ (lt_heap hr3_1)).trans hr3_1
  have hr4_2 := (hb4.block _ (lt_heap hr3_2)).trans hr3_2
  have HU4 := Lib.hid (HU3.out.trans (hb4.mono HU3.out.size))
  refine hK.out _ _ ((hb4.block _ (lt_heap hS3q7)).trans hS3q7) (fun hS4c => ?_)
  clear hK K
  refine wpAnyH_ready (rs := [9]) (by kernel_rfl) (by simp) ?_
  refine AllReadyH.cons rfl (fun K hK => ?_) AllReadyH.nil
  refine step_store_row rfl 67 (.tmp 2) (.tmp 14) rfl #[.int .i64 0, .int .i64 0, .int .i64 0, .int .i64 0, .int .i64 0, .int .i64 0] #[.int .i64 (Pl.sub a2 (Pl.add a11 8192)), .int .i64 (Pl.sub a3 (Pl.add a11 8192)), .int .i64 (Pl.sub a4 (Pl.add a11 8192)), .int .i64 (Pl.add a2 (Pl.add a11 8192)), .int .i64 (Pl.add a3 (Pl.add a11 8192)), .int .i64 (Pl.add a4 (Pl.add a11 8192))] _ 67 hr4_1 rfl (by first | rfl | (go_simp; done) | (go_simp; rfl)) (by kernel_rfl) rfl (by simp [Value.oneCell']) ?_
  have hN := setRow_heap _ (w.heap.size + 1) _ #[.int .i64 (Pl.sub a2 (Pl.add a11 8192)), .int .i64 (Pl.sub a3 (Pl.add a11 8192)), .int .i64 (Pl.sub a4 (Pl.add a11 8192)), .int .i64 (Pl.add a2 (Pl.add a11 8192)), .int .i64 (Pl.add a3 (Pl.add a11 8192)), .int .i64 (Pl.add a4 (Pl.add a11 8192))] _ _ hr4_1
  have hsz := HU4.out.size
  have HUx := below_setRow (g := w.heap.size + 1) HU4.out (by first | omega | (simp at *; omega)) #[.int .i64 (Pl.sub a2 (Pl.add a11 8192)), .int .i64 (Pl.sub a3 (Pl.add a11 8192)), .int .i64 (Pl.sub a4 (Pl.add a11 8192)), .int .i64 (Pl.add a2 (Pl.add a11 8192)), .int .i64 (Pl.add a3 (Pl.add a11 8192)), .int .i64 (Pl.add a4 (Pl.add a11 8192))]
  obtain ⟨y5, hy5⟩ : ∃ y, y4.setRow (w.heap.size + 1) #[.int .i64 (Pl.sub a2 (Pl.add a11 8192)), .int .i64 (Pl.sub a3 (Pl.add a11 8192)), .int .i64 (Pl.sub a4 (Pl.add a11 8192)), .int .i64 (Pl.add a2 (Pl.add a11 8192)), .int .i64 (Pl.add a3 (Pl.add a11 8192)), .int .i64 (Pl.add a4 (Pl.add a11 8192))] = y := ⟨_, rfl⟩
  have hO : ∀ k, k ≠ w.heap.size + 1 → y5.heap[k]? = y4.heap[k]? := fun k hk => by rw [← hy5]; exact setRow_other _ _ _ _ hk
  rw [hy5] at hN HUx ⊢
  clear hy5
  have HU5 := Lib.hid HUx
  clear HUx
  have hr5_0 := (hO _ (by omega)).trans hr4_0
  have hr5_1 := hN
  have hr5_2 := (hO _ (by omega)).trans hr4_2
  clear hN
  refine hK.out _ _ ((hO _ (by omega)).trans hS4c) (fun hS5s => ?_)
  clear hK K
  refine wpAnyH_done (by kernel_rfl) ?_ _
  have c1_0 := cell_of_row _ _ 0 _ _ _ hr5_1
  have c1_1 := cell_of_row _ _ 1 _ _ _ hr5_1
  have c1_2 := cell_of_row _ _ 2 _ _ _ hr5_1
  have c1_3 := cell_of_row _ _ 3 _ _ _ hr5_1
  have c1_4 := cell_of_row _ _ 4 _ _ _ hr5_1
  have c1_5 := cell_of_row _ _ 5 _ _ _ hr5_1
  simp at c1_0 c1_1 c1_2 c1_3 c1_4 c1_5
  go_wp2
  exact bodyPost_ret (v := .agg #[.int .i64 (Pl.sub a2 (Pl.add a11 8192)), .int .i64 (Pl.sub a3 (Pl.add a11 8192)), .int .i64 (Pl.sub a4 (Pl.add a11 8192)), .int .i64 (Pl.add a2 (Pl.add a11 8192)), .int .i64 (Pl.add a3 (Pl.add a11 8192)), .int .i64 (Pl.add a4 (Pl.add a11 8192))]) (by simp [results, Try.results73, go_sem, c1_0, c1_1, c1_2, c1_3, c1_4, c1_5]) rfl ⟨rfl, HU5.out⟩

set_option maxHeartbeats 2000000 in
set_option maxRecDepth 100000 in
theorem raround_faceR (a0 a1 a2 a3 a4 a5 a6 a7 a8 a9 a10 a11 : Int) (hk : ¬ a0 = 0) (w : World)  : Calls Try.prog 73 #[.agg #[.int .i64 a0, .int .i64 a1, .int .i64 a2, .int .i64 a3, .int .i64 a4, .int .i64 a5, .int .i64 a6, .int .i64 a7, .int .i64 a8, .int .i64 a9, .int .i64 a10, .int .i64 a11]] w fun e' w' => e' = .returned (.agg #[.int .i64 (Pl.sub (min a2 (min a5 a8)) 8192), .int .i64 (Pl.sub (min a3 (min a6 a9)) 8192), .int .i64 (Pl.sub (min a4 (min a7 a10)) 8192), .int .i64 (Pl.add (max a2 (max a5 a8)) 8192), .int .i64 (Pl.add (max a3 (max a6 a9)) 8192), .int .i64 (Pl.add (max a4 (max a7 a10)) 8192)]) ∧ Below w.heap.size w w' := by
  have hd : decide (a0 = 0) = false := decide_eq_false hk
  go_enter Try.func73, Try.ntmps73
  go_upto_region 1 with fail
  have hR := Au.rows2 w (.cells #[.int .i64 a0, .int .i64 a1, .int .i64 a2, .int .i64 a3, .int .i64 a4, .int .i64 a5, .int .i64 a6, .int .i64 a7, .int .i64 a8, .int .i64 a9, .int .i64 a10, .int .i64 a11] 62) (.cells #[.int .i64 0, .int .i64 0, .int .i64 0, .int .i64 0, .int .i64 0, .int .i64 0] 67)
  have HUx := below_n2 w (.cells #[.int .i64 a0, .int .i64 a1, .int .i64 a2, .int .i64 a3, .int .i64 a4, .int .i64 a5, .int .i64 a6, .int .i64 a7, .int .i64 a8, .int .i64 a9, .int .i64 a10, .int .i64 a11] 62) (.cells #[.int .i64 0, .int .i64 0, .int .i64 0, .int .i64 0, .int .i64 0, .int .i64 0] 67)
  obtain ⟨y0, hy0⟩ : ∃ y0, (w.alloc (.cells #[.int .i64 a0, .int .i64 a1, .int .i64 a2, .int .i64 a3, .int .i64 a4, .int .i64 a5, .int .i64 a6, .int .i64 a7, .int .i64 a8, .int .i64 a9, .int .i64 a10, .int .i64 a11] 62)).alloc (.cells #[.int .i64 0, .int .i64 0, .int .i64 0, .int .i64 0, .int .i64 0, .int .i64 0] 67) = y0 := ⟨_, rfl⟩
  rw [hy0] at hR HUx ⊢
  clear hy0
  have HU0 := Lib.hid HUx
  clear HUx
  obtain ⟨hr0_0, hr0_1⟩ := hR
  have c0_0 := cell_of_row _ _ 0 _ _ _ hr0_0
  have c0_1 := cell_of_row _ _ 1 _ _ _ hr0_0
  have c0_2 := cell_of_row _ _ 2 _ _ _ hr0_0
  have c0_3 := cell_of_row _ _ 3 _ _ _ hr0_0
  have c0_4 := cell_of_row _ _ 4 _ _ _ hr0_0
  have c0_5 := cell_of_row _ _ 5 _ _ _ hr0_0
  have c0_6 := cell_of_row _ _ 6 _ _ _ hr0_0
  have c0_7 := cell_of_row _ _ 7 _ _ _ hr0_0
  have c0_8 := cell_of_row _ _ 8 _ _ _ hr0_0
  have c0_9 := cell_of_row _ _ 9 _ _ _ hr0_0
  have c0_10 := cell_of_row _ _ 10 _ _ _ hr0_0
  have c0_11 := cell_of_row _ _ 11 _ _ _ hr0_0
  have c1_0 := cell_of_row _ _ 0 _ _ _ hr0_1
  have c1_1 := cell_of_row _ _ 1 _ _ _ hr0_1
  have c1_2 := cell_of_row _ _ 2 _ _ _ hr0_1
  have c1_3 := cell_of_row _ _ 3 _ _ _ hr0_1
  have c1_4 := cell_of_row _ _ 4 _ _ _ hr0_1
  have c1_5 := cell_of_row _ _ 5 _ _ _ hr0_1
  simp at c0_0 c0_1 c0_2 c0_3 c0_4 c0_5 c0_6 c0_7 c0_8 c0_9 c0_10 c0_11 c1_0 c1_1 c1_2 c1_3 c1_4 c1_5
  go_wp2_with fail
  clear c0_0 c0_1 c0_2 c0_3 c0_4 c0_5 c0_6 c0_7 c0_8 c0_9 c0_10 c0_11 c1_0 c1_1 c1_2 c1_3 c1_4 c1_5
  have hb1 := below_n1 y0 (.cells #[.int .i64 a2, .int .i64 a3, .int .i64 a4, .int .i64 a5, .int .i64 a6, .int .i64 a7, .int .i64 a8, .int .i64 a9, .int .i64 a10] 59)
  have hN := heap_alloc_last y0 (.cells #[.int .i64 a2, .int .i64 a3, .int .i64 a4, .int .i64 a5, .int .i64 a6, .int .i64 a7, .int .i64 a8, .int .i64 a9, .int .i64 a10] 59)
  obtain ⟨y1, hy1⟩ : ∃ y, y0.alloc (.cells #[.int .i64 a2, .int .i64 a3, .int .i64 a4, .int .i64 a5, .int .i64 a6, .int .i64 a7, .int .i64 a8, .int .i64 a9, .int .i64 a10] 59) = y := ⟨_, rfl⟩
  have hs1 : y1.heap.size = y0.heap.size + 1 := by rw [← hy1]; simp
  rw [hy1] at hb1 hN ⊢
  clear hy1
  have hl1_0 := lt_heap hr0_0
  have hl1_1 := lt_heap hr0_1
  have hr1_0 := (hb1.block _ (lt_heap hr0_0)).trans hr0_0
  have hr1_1 := (hb1.block _ (lt_heap hr0_1)).trans hr0_1
  have HU1 := Lib.hid (HU0.out.trans (hb1.mono HU0.out.size))
  clear hr0_0 hr0_1 HU0
  have hr1_2 := hN
  clear hN
  refine (rof_three y0.heap.size _ a2 a3 a4 a5 a6 a7 a8 a9 a10 _ (lt_heap hr1_2) (fun j hj => by match j, hj with | 0, _ => exact cell_of_row _ _ 0 _ _ _ hr1_2 | 1, _ => exact cell_of_row _ _ 1 _ _ _ hr1_2 | 2, _ => exact cell_of_row _ _ 2 _ _ _ hr1_2 | 3, _ => exact cell_of_row _ _ 3 _ _ _ hr1_2 | 4, _ => exact cell_of_row _ _ 4 _ _ _ hr1_2 | 5, _ => exact cell_of_row _ _ 5 _ _ _ hr1_2 | 6, _ => exact cell_of_row _ _ 6 _ _ _ hr1_2 | 7, _ => exact cell_of_row _ _ 7 _ _ _ hr1_2 | 8, _ => exact cell_of_row _ _ 8 _ _ _ hr1_2)).mono ?_
  rintro e y2 ⟨rfl, hb2⟩
  have hr2_0 := (hb2.block _ (lt_heap hr1_0)).trans hr1_0
  have hr2_1 := (hb2.block _ (lt_heap hr1_1)).trans hr1_1
  have hr2_2 := (hb2.block _ (lt_heap hr1_2)).trans hr1_2
  have HU2 := Lib.hid (HU1.out.trans (hb2.mono HU1.out.size))
  clear hr1_0 hr1_1 hr1_2 HU1
  go_wp2_with fail
  refine (rwider_any (min a2 (min a5 a8)) (min a3 (min a6 a9)) (min a4 (min a7 a10)) (max a2 (max a5 a8)) (max a3 (max a6 a9)) (max a4 (max a7 a10)) 8192 _).mono ?_
  rintro e y3 ⟨rfl, hb3⟩
  have hr3_0 := (hb3.block _ (lt_heap hr2_0)).trans hr2_0
  have hr3_1 := (hb3.block _ (lt_heap hr2_1)).trans hr2_1
  have hr3_2 := (hb3.block _ (lt_heap hr2_2)).trans hr2_2
  have HU3 := Lib.hid (HU2.out.trans (hb3.mono HU2.out.size))
  clear hr2_0 hr2_1 hr2_2 HU2
  have hHr := Lib.hid hr3_1
  have hHi := Lib.hid (show (Try.prog.info? 67).map (·.size) = some (#[.int .i64 (Pl.sub (min a2 (min a5 a8)) 8192), .int .i64 (Pl.sub (min a3 (min a6 a9)) 8192), .int .i64 (Pl.sub (min a4 (min a7 a10)) 8192), .int .i64 (Pl.add (max a2 (max a5 a8)) 8192), .int .i64 (Pl.add (max a3 (max a6 a9)) 8192), .int .i64 (Pl.add (max a4 (max a7 a10)) 8192)] : Array Value).size by kernel_rfl)
  have hHz := Lib.hid (show (#[.int .i64 0, .int .i64 0, .int .i64 0, .int .i64 0, .int .i64 0, .int .i64 0] : Array Value).size = (#[.int .i64 (Pl.sub (min a2 (min a5 a8)) 8192), .int .i64 (Pl.sub (min a3 (min a6 a9)) 8192), .int .i64 (Pl.sub (min a4 (min a7 a10)) 8192), .int .i64 (Pl.add (max a2 (max a5 a8)) 8192), .int .i64 (Pl.add (max a3 (max a6 a9)) 8192), .int .i64 (Pl.add (max a4 (max a7 a10)) 8192)] : Array Value).size from rfl)
  have hHo := Lib.hid (show (#[.int .i64 (Pl.sub (min a2 (min a5 a8)) 8192), .int .i64 (Pl.sub (min a3 (min a6 a9)) 8192), .int .i64 (Pl.sub (min a4 (min a7 a10)) 8192), .int .i64 (Pl.add (max a2 (max a5 a8)) 8192), .int .i64 (Pl.add (max a3 (max a6 a9)) 8192), .int .i64 (Pl.add (max a4 (max a7 a10)) 8192)] : Array Value).all (·.oneCell') = true by simp [Value.oneCell'])
  go_wp2_with (first | (refine Au.wpList_store_row rfl 67 (.tmp 2) (.tmp 26) rfl y3 #[.int .i64 0, .int .i64 0, .int .i64 0, .int .i64 0, .int .i64 0, .int .i64 0] #[.int .i64 (Pl.sub (min a2 (min a5 a8)) 8192), .int .i64 (Pl.sub (min a3 (min a6 a9)) 8192), .int .i64 (Pl.sub (min a4 (min a7 a10)) 8192), .int .i64 (Pl.add (max a2 (max a5 a8)) 8192), .int .i64 (Pl.add (max a3 (max a6 a9)) 8192), .int .i64 (Pl.add (max a4 (max a7 a10)) 8192)] (w.heap.size + 1) 67 hHr.out rfl rfl hHi.out hHz.out hHo.out ?_))
  clear hHr hHi hHz hHo
  have hN := setRow_heap _ (w.heap.size + 1) _ #[.int .i64 (Pl.sub (min a2 (min a5 a8)) 8192), .int .i64 (Pl.sub (min a3 (min a6 a9)) 8192), .int .i64 (Pl.sub (min a4 (min a7 a10)) 8192), .int .i64 (Pl.add (max a2 (max a5 a8)) 8192), .int .i64 (Pl.add (max a3 (max a6 a9)) 8192), .int .i64 (Pl.add (max a4 (max a7 a10)) 8192)] _ _ hr3_1
  have hsz := HU3.out.size
  have HUx := below_setRow (g := w.heap.size + 1) HU3.out (by first | omega | (simp at *; omega)) #[.int .i64 (Pl.sub (min a2 (min a5 a8)) 8192), .int .i64 (Pl.sub (min a3 (min a6 a9)) 8192), .int .i64 (Pl.sub (min a4 (min a7 a10)) 8192), .int .i64 (Pl.add (max a2 (max a5 a8)) 8192), .int .i64 (Pl.add (max a3 (max a6 a9)) 8192), .int .i64 (Pl.add (max a4 (max a7 a10)) 8192)]
  have hO : ∀ kk, kk ≠ w.heap.size + 1 → (y3.setRow (w.heap.size + 1) #[.int .i64 (Pl.sub (min a2 (min a5 a8)) 8192), .int .i64 (Pl.sub (min a3 (min a6 a9)) 8192), .int .i64 (Pl.sub (min a4 (min a7 a10)) 8192), .int .i64 (Pl.add (max a2 (max a5 a8)) 8192), .int .i64 (Pl.add (max a3 (max a6 a9)) 8192), .int .i64 (Pl.add (max a4 (max a7 a10)) 8192)]).heap[kk]? = y3.heap[kk]? := fun kk hk => setRow_other _ _ _ _ hk
  obtain ⟨y4, hy4⟩ : ∃ y, y3.setRow (w.heap.size + 1) #[.int .i64 (Pl.sub (min a2 (min a5 a8)) 8192), .int .i64 (Pl.sub (min a3 (min a6 a9)) 8192), .int .i64 (Pl.sub (min a4 (min a7 a10)) 8192), .int .i64 (Pl.add (max a2 (max a5 a8)) 8192), .int .i64 (Pl.add (max a3 (max a6 a9)) 8192), .int .i64 (Pl.add (max a4 (max a7 a10)) 8192)] = y := ⟨_, rfl⟩
  rw [hy4] at hN HUx hO ⊢
  clear hy4 hsz
  have HU4 := Lib.hid HUx
  clear HUx
  have hr4_0 := (hO _ (by omega)).trans hr3_0
  have hr4_1 := hN
  have hr4_2 := (hO _ (by omega)).trans hr3_2
  clear hN hO
  clear hr3_0 hr3_1 hr3_2 HU3
  have c1_0 := cell_of_row _ _ 0 _ _ _ hr4_1
  have c1_1 := cell_of_row _ _ 1 _ _ _ hr4_1
  have c1_2 := cell_of_row _ _ 2 _ _ _ hr4_1
  have c1_3 := cell_of_row _ _ 3 _ _ _ hr4_1
  have c1_4 := cell_of_row _ _ 4 _ _ _ hr4_1
  have c1_5 := cell_of_row _ _ 5 _ _ _ hr4_1
  simp at c1_0 c1_1 c1_2 c1_3 c1_4 c1_5
  go_wp2
  exact bodyPost_ret (v := .agg #[.int .i64 (Pl.sub (min a2 (min a5 a8)) 8192), .int .i64 (Pl.sub (min a3 (min a6 a9)) 8192), .int .i64 (Pl.sub (min a4 (min a7 a10)) 8192), .int .i64 (Pl.add (max a2 (max a5 a8)) 8192), .int .i64 (Pl.add (max a3 (max a6 a9)) 8192), .int .i64 (Pl.add (max a4 (max a7 a10)) 8192)]) (by simp [results, Try.results73, go_sem, c1_0, c1_1, c1_2, c1_3, c1_4, c1_5]) rfl ⟨rfl, HU4.out⟩

theorem raround_face (a0 a1 a2 a3 a4 a5 a6 a7 a8 a9 a10 a11 : Int) (hk : ¬ a0 = 0) (w : World) : Calls Try.prog 73 #[.agg #[.int .i64 a0, .int .i64 a1, .int .i64 a2, .int .i64 a3, .int .i64 a4, .int .i64 a5, .int .i64 a6, .int .i64 a7, .int .i64 a8, .int .i64 a9, .int .i64 a10, .int .i64 a11]] w fun e' w' => e' = .returned (.agg #[.int .i64 (Pl.sub (min (min a2 a5) a8) 8192), .int .i64 (Pl.sub (min (min a3 a6) a9) 8192), .int .i64 (Pl.sub (min (min a4 a7) a10) 8192), .int .i64 (Pl.add (max (max a2 a5) a8) 8192), .int .i64 (Pl.add (max (max a3 a6) a9) 8192), .int .i64 (Pl.add (max (max a4 a7) a10) 8192)]) ∧ Below w.heap.size w w' := by
  have h := raround_faceR a0 a1 a2 a3 a4 a5 a6 a7 a8 a9 a10 a11 hk w
  rw [show min a2 (min a5 a8) = min (min a2 a5) a8 by omega] at h
  rw [show min a3 (min a6 a9) = min (min a3 a6) a9 by omega] at h
  rw [show min a4 (min a7 a10) = min (min a4 a7) a10 by omega] at h
  rw [show max a2 (max a5 a8) = max (max a2 a5) a8 by omega] at h
  rw [show max a3 (max a6 a9) = max (max a3 a6) a9 by omega] at h
  rw [show max a4 (max a7 a10) = max (max a4 a7) a10 by omega] at h
  exact h

/-- a number at an end of the span, or beyond -/
def atE (x : Int) : Bool := decide (2147483648 ≤ x) || decide (x ≤ -2147483648)

def ends6 (a b c d e f : Int) : Bool := atE a || atE d || atE b || atE e || atE c || atE f

set_option maxHeartbeats 4000000 in
set_option maxRecDepth 100000 in
theorem rends_any (a b c d e f : Int) (w : World) : Calls Try.prog 74 #[B6 a b c d e f] w fun e' w' => e' = .returned (.bool (ends6 a b c d e f)) ∧ Below w.heap.size w w' := by
  by_cases h0 : 2147483648 ≤ a
  · have d0 := decide_eq_true h0
    go_enter Try.func74, Try.ntmps74
    go_wp2
    refine wp_loop_rounds 4 ?_
    rw [rounds_succ]
    go_wp2
    go_ret
    exact ⟨ret_b (by simp only [ends6, atE, Bool.or_eq_true, decide_eq_true_eq]; omega), below_n1 _ _⟩
  · have d0 := decide_eq_false h0
    by_cases h1 : a ≤ -2147483648
    · have d1 := decide_eq_true h1
      go_enter Try.func74, Try.ntmps74
      go_wp2
      refine wp_loop_rounds 4 ?_
      rw [rounds_succ]
      go_wp2
      go_ret
      exact ⟨ret_b (by simp only [ends6, atE, Bool.or_eq_true, decide_eq_true_eq]; omega), below_n1 _ _⟩
    · have d1 := decide_eq_false h1
      by_cases h2 : 2147483648 ≤ d
      · have d2 := decide_eq_true h2
        go_enter Try.func74, Try.ntmps74
        go_wp2
        refine wp_loop_rounds 4 ?_
        rw [rounds_succ]
        go_wp2
        go_ret
        exact ⟨ret_b (by simp only [ends6, atE, Bool.or_eq_true, decide_eq_true_eq]; omega), below_n1 _ _⟩
      · have d2 := decide_eq_false h2
        by_cases h3 : d ≤ -2147483648
        · have d3 := decide_eq_true h3
          go_enter Try.func74, Try.ntmps74
          go_wp2
          refine wp_loop_rounds 4 ?_
          rw [rounds_succ]
          go_wp2
          go_ret
          exact ⟨ret_b (by simp only [ends6, atE, Bool.or_eq_true, decide_eq_true_eq]; omega), below_n1 _ _⟩
        · have d3 := decide_eq_false h3
          by_cases h4 : 2147483648 ≤ b
          · have d4 := decide_eq_true h4
            go_enter Try.func74, Try.ntmps74
            go_wp2
            refine wp_loop_rounds 4 ?_
            rw [rounds_succ]
            go_wp2
            rw [rounds_succ]
            go_wp2
            go_ret
            exact ⟨ret_b (by simp only [ends6, atE, Bool.or_eq_true, decide_eq_true_eq]; omega), below_n1 _ _⟩
          · have d4 := decide_eq_false h4
            by_cases h5 : b ≤ -2147483648
            · have d5 := decide_eq_true h5
              go_enter Try.func74, Try.ntmps74
              go_wp2
              refine wp_loop_rounds 4 ?_
              rw [rounds_succ]
              go_wp2
              rw [rounds_succ]
              go_wp2
              go_ret
              exact ⟨ret_b (by simp only [ends6, atE, Bool.or_eq_true, decide_eq_true_eq]; omega), below_n1 _ _⟩
            · have d5 := decide_eq_false h5
              by_cases h6 : 2147483648 ≤ e
              · have d6 := decide_eq_true h6
                go_enter Try.func74, Try.ntmps74
                go_wp2
                refine wp_loop_rounds 4 ?_
                rw [rounds_succ]
                go_wp2
                rw [rounds_succ]
                go_wp2
                go_ret
                exact ⟨ret_b (by simp only [ends6, atE, Bool.or_eq_true, decide_eq_true_eq]; omega), below_n1 _ _⟩
              · have d6 := decide_eq_false h6
                by_cases h7 : e ≤ -2147483648
                · have d7 := decide_eq_true h7
                  go_enter Try.func74, Try.ntmps74
                  go_wp2
                  refine wp_loop_rounds 4 ?_
                  rw [rounds_succ]
                  go_wp2
                  rw [rounds_succ]
                  go_wp2
                  go_ret
                  exact ⟨ret_b (by simp only [ends6, atE, Bool.or_eq_true, decide_eq_true_eq]; omega), below_n1 _ _⟩
                · have d7 := decide_eq_false h7
                  by_cases h8 : 2147483648 ≤ c
                  · have d8 := decide_eq_true h8
                    go_enter Try.func74, Try.ntmps74
                    go_wp2
                    refine wp_loop_rounds 4 ?_
                    rw [rounds_succ]
                    go_wp2
                    rw [rounds_succ]
                    go_wp2
                    rw [rounds_succ]
                    go_wp2
                    go_ret
                    exact ⟨ret_b (by simp only [ends6, atE, Bool.or_eq_true, decide_eq_true_eq]; omega), below_n1 _ _⟩
                  · have d8 := decide_eq_false h8
                    by_cases h9 : c ≤ -2147483648
                    · have d9 := decide_eq_true h9
                      go_enter Try.func74, Try.ntmps74
                      go_wp2
                      refine wp_loop_rounds 4 ?_
                      rw [rounds_succ]
                      go_wp2
                      rw [rounds_succ]
                      go_wp2
                      rw [rounds_succ]
                      go_wp2
                      go_ret
                      exact ⟨ret_b (by simp only [ends6, atE, Bool.or_eq_true, decide_eq_true_eq]; omega), below_n1 _ _⟩
                    · have d9 := decide_eq_false h9
                      by_cases h10 : 2147483648 ≤ f
                      · have d10 := decide_eq_true h10
                        go_enter Try.func74, Try.ntmps74
                        go_wp2
                        refine wp_loop_rounds 4 ?_
                        rw [rounds_succ]
                        go_wp2
                        rw [rounds_succ]
                        go_wp2
                        rw [rounds_succ]
                        go_wp2
                        go_ret
                        exact ⟨ret_b (by simp only [ends6, atE, Bool.or_eq_true, decide_eq_true_eq]; omega), below_n1 _ _⟩
                      · have d10 := decide_eq_false h10
                        by_cases h11 : f ≤ -2147483648
                        · have d11 := decide_eq_true h11
                          go_enter Try.func74, Try.ntmps74
                          go_wp2
                          refine wp_loop_rounds 4 ?_
                          rw [rounds_succ]
                          go_wp2
                          rw [rounds_succ]
                          go_wp2
                          rw [rounds_succ]
                          go_wp2
                          go_ret
                          exact ⟨ret_b (by simp only [ends6, atE, Bool.or_eq_true, decide_eq_true_eq]; omega), below_n1 _ _⟩
                        · have d11 := decide_eq_false h11
                          go_enter Try.func74, Try.ntmps74
                          go_wp2
                          refine wp_loop_rounds 4 ?_
                          rw [rounds_succ]
                          go_wp2
                          rw [rounds_succ]
                          go_wp2
                          rw [rounds_succ]
                          go_wp2
                          rw [rounds_succ]
                          go_wp2
                          go_ret
                          exact ⟨ret_b (by rw [← Bool.not_eq_true]; simp only [ends6, atE, Bool.or_eq_true, decide_eq_true_eq]; omega), below_n1 _ _⟩

end Go.Proofs.Ythlcfhnlkpobhaa.Bx
