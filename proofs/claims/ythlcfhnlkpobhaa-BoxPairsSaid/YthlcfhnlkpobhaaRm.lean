/- Boxes: the pair about a moving shape, by the document. -/
import Derived.Test.YthlcfhnlkpobhaaBr
import Derived.Test.YthlcfhnlkpobhaaRr
import Derived.Test.YthlcfhnlkpobhaaRg
namespace Go.Proofs.Ythlcfhnlkpobhaa.Bx
open Go.RowKit Go.Proofs.Ythlcfhnlkpobhaa Go.Proofs.Ythlcfhnlkpobhaa.Wa Go.Proofs.Ythlcfhnlkpobhaa.Ve Go.Proofs.Ythlcfhnlkpobhaa.Au
set_option linter.unusedVariables false
set_option linter.unusedSimpArgs false

set_option maxHeartbeats 8000000 in
set_option maxRecDepth 100000 in
theorem rmoving_face (a0 a1 a2 a3 a4 a5 a6 a7 a8 a9 a10 a11 a12 a13 a14 a15 a16 a17 a18 a19 a20 a21 a22 a23 : Int) (hk : ¬ a0 = 0) (w : World)  : Calls Try.prog 26 #[.agg #[.int .i64 a0, .int .i64 a1, .int .i64 a2, .int .i64 a3, .int .i64 a4, .int .i64 a5, .int .i64 a6, .int .i64 a7, .int .i64 a8, .int .i64 a9, .int .i64 a10, .int .i64 a11, .int .i64 a12, .int .i64 a13, .int .i64 a14, .int .i64 a15, .int .i64 a16, .int .i64 a17, .int .i64 a18, .int .i64 a19, .int .i64 a20, .int .i64 a21, .int .i64 a22, .int .i64 a23]] w fun e' w' => e' = .returned (if (ends6 (Pl.sub (min a2 (min a5 a8)) 8192) (Pl.sub (min a3 (min a6 a9)) 8192) (Pl.sub (min a4 (min a7 a10)) 8192) (Pl.add (max a2 (max a5 a8)) 8192) (Pl.add (max a3 (max a6 a9)) 8192) (Pl.add (max a4 (max a7 a10)) 8192) || ends6 (Pl.sub (min a14 (min a17 a20)) 8192) (Pl.sub (min a15 (min a18 a21)) 8192) (Pl.sub (min a16 (min a19 a22)) 8192) (Pl.add (max a14 (max a17 a20)) 8192) (Pl.add (max a15 (max a18 a21)) 8192) (Pl.add (max a16 (max a19 a22)) 8192) || decide (Pl.add a11 8192 = 2147483648) || decide (Pl.add a23 8192 = 2147483648)) = true then .agg #[.int .i64 (-2147483648), .int .i64 (-2147483648), .int .i64 (-2147483648), .int .i64 2147483648, .int .i64 2147483648, .int .i64 2147483648, .int .i64 (-2147483648), .int .i64 (-2147483648), .int .i64 (-2147483648), .int .i64 2147483648, .int .i64 2147483648, .int .i64 2147483648] else .agg #[.int .i64 (Pl.sub (min a2 (min a5 a8)) 8192), .int .i64 (Pl.sub (min a3 (min a6 a9)) 8192), .int .i64 (Pl.sub (min a4 (min a7 a10)) 8192), .int .i64 (Pl.add (max a2 (max a5 a8)) 8192), .int .i64 (Pl.add (max a3 (max a6 a9)) 8192), .int .i64 (Pl.add (max a4 (max a7 a10)) 8192), .int .i64 (Pl.sub (min a14 (min a17 a20)) 8192), .int .i64 (Pl.sub (min a15 (min a18 a21)) 8192), .int .i64 (Pl.sub (min a16 (min a19 a22)) 8192), .int .i64 (Pl.add (max a14 (max a17 a20)) 8192), .int .i64 (Pl.add (max a15 (max a18 a21)) 8192), .int .i64 (Pl.add (max a16 (max a19 a22)) 8192)]) ∧ Below w.heap.size w w' := by
  go_enter Try.func26, Try.ntmps26
  go_upto_region 1 with fail
  have hR := Au.rows2 w (.cells #[.int .i64 a0, .int .i64 a1, .int .i64 a2, .int .i64 a3, .int .i64 a4, .int .i64 a5, .int .i64 a6, .int .i64 a7, .int .i64 a8, .int .i64 a9, .int .i64 a10, .int .i64 a11, .int .i64 a12, .int .i64 a13, .int .i64 a14, .int .i64 a15, .int .i64 a16, .int .i64 a17, .int .i64 a18, .int .i64 a19, .int .i64 a20, .int .i64 a21, .int .i64 a22, .int .i64 a23] 64) (.cells #[.int .i64 0, .int .i64 0, .int .i64 0, .int .i64 0, .int .i64 0, .int .i64 0, .int .i64 0, .int .i64 0, .int .i64 0, .int .i64 0, .int .i64 0, .int .i64 0] 69)
  have HUx := below_n2 w (.cells #[.int .i64 a0, .int .i64 a1, .int .i64 a2, .int .i64 a3, .int .i64 a4, .int .i64 a5, .int .i64 a6, .int .i64 a7, .int .i64 a8, .int .i64 a9, .int .i64 a10, .int .i64 a11, .int .i64 a12, .int .i64 a13, .int .i64 a14, .int .i64 a15, .int .i64 a16, .int .i64 a17, .int .i64 a18, .int .i64 a19, .int .i64 a20, .int .i64 a21, .int .i64 a22, .int .i64 a23] 64) (.cells #[.int .i64 0, .int .i64 0, .int .i64 0, .int .i64 0, .int .i64 0, .int .i64 0, .int .i64 0, .int .i64 0, .int .i64 0, .int .i64 0, .int .i64 0, .int .i64 0] 69)
  obtain ⟨y0, hy0⟩ : ∃ y0, (w.alloc (.cells #[.int .i64 a0, .int .i64 a1, .int .i64 a2, .int .i64 a3, .int .i64 a4, .int .i64 a5, .int .i64 a6, .int .i64 a7, .int .i64 a8, .int .i64 a9, .int .i64 a10, .int .i64 a11, .int .i64 a12, .int .i64 a13, .int .i64 a14, .int .i64 a15, .int .i64 a16, .int .i64 a17, .int .i64 a18, .int .i64 a19, .int .i64 a20, .int .i64 a21, .int .i64 a22, .int .i64 a23] 64)).alloc (.cells #[.int .i64 0, .int .i64 0, .int .i64 0, .int .i64 0, .int .i64 0, .int .i64 0, .int .i64 0, .int .i64 0, .int .i64 0, .int .i64 0, .int .i64 0, .int .i64 0] 69) = y0 := ⟨_, rfl⟩
  rw [hy0] at hR HUx ⊢
  clear hy0
  have HU0 := Lib.hid HUx
  clear HUx
  obtain ⟨hr0_0, hr0_1⟩ := hR
  have c0_0 := cell_of_row _ _ 0 _ _ _ hr0_0
  have c0_1 := cell_of_row _ _ 1 _ _ _ hr0_0
  have c0_2 := cell_of_row _ _ 2 _ _ _ hr0_0
  have c0_3 := cell_of_row _ _ 3 _ _ _ hr0_0
  have c0_4 := cell_of_row _ _ 4 _ _ _ hr0_0
  have c0_5 := cell_of_row _ _ 5 _ _ _ hr0_0
  have c0_6 := cell_of_row _ _ 6 _ _ _ hr0_0
  have c0_7 := cell_of_row _ _ 7 _ _ _ hr0_0
  have c0_8 := cell_of_row _ _ 8 _ _ _ hr0_0
  have c0_9 := cell_of_row _ _ 9 _ _ _ hr0_0
  have c0_10 := cell_of_row _ _ 10 _ _ _ hr0_0
  have c0_11 := cell_of_row _ _ 11 _ _ _ hr0_0
  have c0_12 := cell_of_row _ _ 12 _ _ _ hr0_0
  have c0_13 := cell_of_row _ _ 13 _ _ _ hr0_0
  have c0_14 := cell_of_row _ _ 14 _ _ _ hr0_0
  have c0_15 := cell_of_row _ _ 15 _ _ _ hr0_0
  have c0_16 := cell_of_row _ _ 16 _ _ _ hr0_0
  have c0_17 := cell_of_row _ _ 17 _ _ _ hr0_0
  have c0_18 := cell_of_row _ _ 18 _ _ _ hr0_0
  have c0_19 := cell_of_row _ _ 19 _ _ _ hr0_0
  have c0_20 := cell_of_row _ _ 20 _ _ _ hr0_0
  have c0_21 := cell_of_row _ _ 21 _ _ _ hr0_0
  have c0_22 := cell_of_row _ _ 22 _ _ _ hr0_0
  have c0_23 := cell_of_row _ _ 23 _ _ _ hr0_0
  simp at c0_0 c0_1 c0_2 c0_3 c0_4 c0_5 c0_6 c0_7 c0_8 c0_9 c0_10 c0_11 c0_12 c0_13 c0_14 c0_15 c0_16 c0_17 c0_18 c0_19 c0_20 c0_21 c0_22 c0_23
  have fz : ∀ j, y0.frozen? ⟨w.heap.size, j, none⟩ = false := fun j => by simp [World.frozen?, hr0_0]
  go_upto_region 2 with fail
  clear fz
  clear c0_0 c0_1 c0_2 c0_3 c0_4 c0_5 c0_6 c0_7 c0_8 c0_9 c0_10 c0_11 c0_12 c0_13 c0_14 c0_15 c0_16 c0_17 c0_18 c0_19 c0_20 c0_21 c0_22 c0_23
  have hN : (y0.setCell ⟨w.heap.size, 12, none⟩ (.int .i64 a0)).heap[w.heap.size]? = some (.cells #[.int .i64 a0, .int .i64 a1, .int .i64 a2, .int .i64 a3, .int .i64 a4, .int .i64 a5, .int .i64 a6, .int .i64 a7, .int .i64 a8, .int .i64 a9, .int .i64 a10, .int .i64 a11, .int .i64 a0, .int .i64 a13, .int .i64 a14, .int .i64 a15, .int .i64 a16, .int .i64 a17, .int .i64 a18, .int .i64 a19, .int .i64 a20, .int .i64 a21, .int .i64 a22, .int .i64 a23] 64 (0, 0)) := heap_setCell_same _ _ 12 _ _ _ hr0_0
  have hO : ∀ kk, kk ≠ w.heap.size → (y0.setCell ⟨w.heap.size, 12, none⟩ (.int .i64 a0)).heap[kk]? = y0.heap[kk]? := fun kk hk => Below.heap_setCell _ _ _ _ hk
  have HUx : Below w.heap.size w (y0.setCell ⟨w.heap.size, 12, none⟩ (.int .i64 a0)) := HU0.out.setCell (Nat.le_refl _) _
  obtain ⟨y1, hy1⟩ : ∃ y, y0.setCell ⟨w.heap.size, 12, none⟩ (.int .i64 a0) = y := ⟨_, rfl⟩
  rw [hy1] at hN hO HUx ⊢
  clear hy1
  have HU1 := Lib.hid HUx
  have hr1_0 := hN
  have hr1_1 := (hO _ (by omega)).trans hr0_1
  clear hN hO HUx
  clear hr0_0 hr0_1 HU0
  go_cut [3, 4] (fun s3 s4 wx => ∃ p q : Nat, s3 = .pointer (some ⟨p, 0, none⟩) ∧ s4 = .pointer (some ⟨q, 0, none⟩) ∧ w.heap.size + 1 < p ∧ w.heap.size + 1 < q ∧ wx.heap[p]? = some (.cells #[.int .i64 (Pl.sub (min a2 (min a5 a8)) 8192), .int .i64 (Pl.sub (min a3 (min a6 a9)) 8192), .int .i64 (Pl.sub (min a4 (min a7 a10)) 8192), .int .i64 (Pl.add (max a2 (max a5 a8)) 8192), .int .i64 (Pl.add (max a3 (max a6 a9)) 8192), .int .i64 (Pl.add (max a4 (max a7 a10)) 8192)] 67 (0, 0)) ∧ wx.heap[q]? = some (.cells #[.int .i64 (Pl.sub (min a14 (min a17 a20)) 8192), .int .i64 (Pl.sub (min a15 (min a18 a21)) 8192), .int .i64 (Pl.sub (min a16 (min a19 a22)) 8192), .int .i64 (Pl.add (max a14 (max a17 a20)) 8192), .int .i64 (Pl.add (max a15 (max a18 a21)) 8192), .int .i64 (Pl.add (max a16 (max a19 a22)) 8192)] 67 (0, 0)) ∧ wx.heap[w.heap.size]? = some (.cells #[.int .i64 a0, .int .i64 a1, .int .i64 a2, .int .i64 a3, .int .i64 a4, .int .i64 a5, .int .i64 a6, .int .i64 a7, .int .i64 a8, .int .i64 a9, .int .i64 a10, .int .i64 a11, .int .i64 a0, .int .i64 a13, .int .i64 a14, .int .i64 a15, .int .i64 a16, .int .i64 a17, .int .i64 a18, .int .i64 a19, .int .i64 a20, .int .i64 a21, .int .i64 a22, .int .i64 a23] 64 (0, 0)) ∧ wx.heap[w.heap.size + 1]? = some (.cells #[.int .i64 0, .int .i64 0, .int .i64 0, .int .i64 0, .int .i64 0, .int .i64 0, .int .i64 0, .int .i64 0, .int .i64 0, .int .i64 0, .int .i64 0, .int .i64 0] 69 (0, 0)) ∧ Hid (Below w.heap.size w wx))
  case first =>
    refine wp_region_held_drew (S := fun y => y.heap[w.heap.size]? = some (.cells #[.int .i64 a0, .int .i64 a1, .int .i64 a2, .int .i64 a3, .int .i64 a4, .int .i64 a5, .int .i64 a6, .int .i64 a7, .int .i64 a8, .int .i64 a9, .int .i64 a10, .int .i64 a11, .int .i64 a0, .int .i64 a13, .int .i64 a14, .int .i64 a15, .int .i64 a16, .int .i64 a17, .int .i64 a18, .int .i64 a19, .int .i64 a20, .int .i64 a21, .int .i64 a22, .int .i64 a23] 64 (0, 0))) (by kernel_rfl) (hr1_0) (fun hS0 => ?_)
    obtain ⟨y2, hy2⟩ : ∃ y, y1.drew = y := ⟨_, rfl⟩
    have HU2 := Lib.hid (show Below w.heap.size w y2 by rw [← hy2]; exact HU1.out.drew)
    have hr2_0 : y2.heap[w.heap.size]? = some (.cells #[.int .i64 a0, .int .i64 a1, .int .i64 a2, .int .i64 a3, .int .i64 a4, .int .i64 a5, .int .i64 a6, .int .i64 a7, .int .i64 a8, .int .i64 a9, .int .i64 a10, .int .i64 a11, .int .i64 a0, .int .i64 a13, .int .i64 a14, .int .i64 a15, .int .i64 a16, .int .i64 a17, .int .i64 a18, .int .i64 a19, .int .i64 a20, .int .i64 a21, .int .i64 a22, .int .i64 a23] 64 (0, 0)) := by rw [← hy2]; exact hr1_0
    have hr2_1 : y2.heap[w.heap.size + 1]? = some (.cells #[.int .i64 0, .int .i64 0, .int .i64 0, .int .i64 0, .int .i64 0, .int .i64 0, .int .i64 0, .int .i64 0, .int .i64 0, .int .i64 0, .int .i64 0, .int .i64 0] 69 (0, 0)) := by rw [← hy2]; exact hr1_1
    rw [hy2] at hS0 ⊢
    clear hy2
    refine wpAnyH_take (i := 0) (v := ?_) rfl (by kernel_rfl) (by kernel_rfl) (by kernel_rfl) (fun _ _ _ h => h) (Or.inl ⟨by kernel_rfl, by (intro wz hSz; go_simp; try with_reducible rfl)⟩) hS0 ?_
    go_simp
    refine wpAnyH_take (i := 1) (v := ?_) rfl (by kernel_rfl) (by kernel_rfl) (by kernel_rfl) (fun _ _ _ h => h) (Or.inl ⟨by kernel_rfl, by (intro wz hSz; have c0_0 := cell_of_row _ _ 0 _ _ _ hSz; have c0_1 := cell_of_row _ _ 1 _ _ _ hSz; have c0_2 := cell_of_row _ _ 2 _ _ _ hSz; have c0_3 := cell_of_row _ _ 3 _ _ _ hSz; have c0_4 := cell_of_row _ _ 4 _ _ _ hSz; have c0_5 := cell_of_row _ _ 5 _ _ _ hSz; have c0_6 := cell_of_row _ _ 6 _ _ _ hSz; have c0_7 := cell_of_row _ _ 7 _ _ _ hSz; have c0_8 := cell_of_row _ _ 8 _ _ _ hSz; have c0_9 := cell_of_row _ _ 9 _ _ _ hSz; have c0_10 := cell_of_row _ _ 10 _ _ _ hSz; have c0_11 := cell_of_row _ _ 11 _ _ _ hSz; have c0_12 := cell_of_row _ _ 12 _ _ _ hSz; have c0_13 := cell_of_row _ _ 13 _ _ _ hSz; have c0_14 := cell_of_row _ _ 14 _ _ _ hSz; have c0_15 := cell_of_row _ _ 15 _ _ _ hSz; have c0_16 := cell_of_row _ _ 16 _ _ _ hSz; have c0_17 := cell_of_row _ _ 17 _ _ _ hSz; have c0_18 := cell_of_row _ _ 18 _ _ _ hSz; have c0_19 := cell_of_row _ _ 19 _ _ _ hSz; have c0_20 := cell_of_row _ _ 20 _ _ _ hSz; have c0_21 := cell_of_row _ _ 21 _ _ _ hSz; have c0_22 := cell_of_row _ _ 22 _ _ _ hSz; have c0_23 := cell_of_row _ _ 23 _ _ _ hSz; simp at c0_0 c0_1 c0_2 c0_3 c0_4 c0_5 c0_6 c0_7 c0_8 c0_9 c0_10 c0_11 c0_12 c0_13 c0_14 c0_15 c0_16 c0_17 c0_18 c0_19 c0_20 c0_21 c0_22 c0_23; go_simp; try with_reducible rfl)⟩) hS0 ?_
    go_simp
    refine wpAnyH_take (i := 3) (v := ?_) rfl (by kernel_rfl) (by kernel_rfl) (by kernel_rfl) (fun _ _ _ h => h) (Or.inl ⟨by kernel_rfl, by (intro wz hSz; go_simp; try with_reducible rfl)⟩) hS0 ?_
    go_simp
    refine wpAnyH_take (i := 4) (v := ?_) rfl (by kernel_rfl) (by kernel_rfl) (by kernel_rfl) (fun _ _ _ h => h) (Or.inl ⟨by kernel_rfl, by (intro wz hSz; have c0_0 := cell_of_row _ _ 0 _ _ _ hSz; have c0_1 := cell_of_row _ _ 1 _ _ _ hSz; have c0_2 := cell_of_row _ _ 2 _ _ _ hSz; have c0_3 := cell_of_row _ _ 3 _ _ _ hSz; have c0_4 := cell_of_row _ _ 4 _ _ _ hSz; have c0_5 := cell_of_row _ _ 5 _ _ _ hSz; have c0_6 := cell_of_row _ _ 6 _ _ _ hSz; have c0_7 := cell_of_row _ _ 7 _ _ _ hSz; have c0_8 := cell_of_row _ _ 8 _ _ _ hSz; have c0_9 := cell_of_row _ _ 9 _ _ _ hSz; have c0_10 := cell_of_row _ _ 10 _ _ _ hSz; have c0_11 := cell_of_row _ _ 11 _ _ _ hSz; have c0_12 := cell_of_row _ _ 12 _ _ _ hSz; have c0_13 := cell_of_row _ _ 13 _ _ _ hSz; have c0_14 := cell_of_row _ _ 14 _ _ _ hSz; have c0_15 := cell_of_row _ _ 15 _ _ _ hSz; have c0_16 := cell_of_row _ _ 16 _ _ _ hSz; have c0_17 := cell_of_row _ _ 17 _ _ _ hSz; have c0_18 := cell_of_row _ _ 18 _ _ _ hSz; have c0_19 := cell_of_row _ _ 19 _ _ _ hSz; have c0_20 := cell_of_row _ _ 20 _ _ _ hSz; have c0_21 := cell_of_row _ _ 21 _ _ _ hSz; have c0_22 := cell_of_row _ _ 22 _ _ _ hSz; have c0_23 := cell_of_row _ _ 23 _ _ _ hSz; simp at c0_0 c0_1 c0_2 c0_3 c0_4 c0_5 c0_6 c0_7 c0_8 c0_9 c0_10 c0_11 c0_12 c0_13 c0_14 c0_15 c0_16 c0_17 c0_18 c0_19 c0_20 c0_21 c0_22 c0_23; go_simp; try with_reducible rfl)⟩) hS0 ?_
    go_simp
    refine wpAnyH_ready (rs := [2, 6, 7]) (by kernel_rfl) (by simp) ?_
    refine AllReadyH.cons rfl (fun K hK => ?_) (AllReadyH.cons rfl (fun K hK => ?_) (AllReadyH.cons rfl (fun K hK => ?_) AllReadyH.nil))
    · skip
      go_simp
      go_wp2_with (go_at_call 73; refine (raround_faceR _ _ _ _ _ _ _ _ _ _ _ _ hk _).mono ?_; rintro e y3 ⟨rfl, hb3⟩)
      have hr3_0 := (hb3.block _ (lt_heap hr2_0)).trans hr2_0
      have hr3_1 := (hb3.block _ (lt_heap hr2_1)).trans hr2_1
      have HU3 := Lib.hid (HU2.out.trans (hb3.mono HU2.out.size))
      refine hK.out _ _ ((hb3.block _ (lt_heap hS0)).trans hS0) (fun hS3c => ?_)
      clear hK K
      refine wpAnyH_ready (rs := [5, 6, 7]) (by kernel_rfl) (by simp) ?_
      refine AllReadyH.cons rfl (fun K hK => ?_) (AllReadyH.cons rfl (fun K hK => ?_) (AllReadyH.cons rfl (fun K hK => ?_) AllReadyH.nil))
      · skip
        go_simp
        go_wp2_with (go_at_call 73; refine (raround_faceR _ _ _ _ _ _ _ _ _ _ _ _ hk _).mono ?_; rintro e y4 ⟨rfl, hb4⟩)
        have hr4_0 := (hb4.block _ (lt_heap hr3_0)).trans hr3_0
        have hr4_1 := (hb4.block _ (lt_heap hr3_1)).trans hr3_1
        have HU4 := Lib.hid (HU3.out.trans (hb4.mono HU3.out.size))
        refine hK.out _ _ ((hb4.block _ (lt_heap hS3c)).trans hS3c) (fun hS4c => ?_)
        clear hK K
        refine wpAnyH_ready (rs := [6, 7]) (by kernel_rfl) (by simp) ?_
        refine AllReadyH.cons rfl (fun K hK => ?_) (AllReadyH.cons rfl (fun K hK => ?_) AllReadyH.nil)
        · skip
          go_simp
          have hb5 := below_n1 y4 (.cells #[.int .i64 0, .int .i64 0, .int .i64 0, .int .i64 0, .int .i64 0, .int .i64 0] 67)
          have hN := heap_alloc_last y4 (.cells #[.int .i64 0, .int .i64 0, .int .i64 0, .int .i64 0, .int .i64 0, .int .i64 0] 67)
          obtain ⟨y5, hy5⟩ : ∃ y, y4.alloc (.cells #[.int .i64 0, .int .i64 0, .int .i64 0, .int .i64 0, .int .i64 0, .int .i64 0] 67) = y := ⟨_, rfl⟩
          rw [hy5] at hb5 hN ⊢
          clear hy5
          have hl5_0 := lt_heap hr4_0
          have hr5_0 := (hb5.block _ (lt_heap hr4_0)).trans hr4_0
          have hl5_1 := lt_heap hr4_1
          have hr5_1 := (hb5.block _ (lt_heap hr4_1)).trans hr4_1
          have hr5_2 := hN
          clear hN
          have HU5 := Lib.hid (HU4.out.trans (hb5.mono HU4.out.size))
          refine hK.out _ _ ((hb5.block _ (lt_heap hS4c)).trans hS4c) (fun hS5a => ?_)
          clear hK K
          refine wpAnyH_ready (rs := [7]) (by kernel_rfl) (by simp) ?_
          refine AllReadyH.cons rfl (fun K hK => ?_) AllReadyH.nil
          go_simp
          have hb6 := below_n1 y5 (.cells #[.int .i64 0, .int .i64 0, .int .i64 0, .int .i64 0, .int .i64 0, .int .i64 0] 67)
          have hN := heap_alloc_last y5 (.cells #[.int .i64 0, .int .i64 0, .int .i64 0, .int .i64 0, .int .i64 0, .int .i64 0] 67)
          obtain ⟨y6, hy6⟩ : ∃ y, y5.alloc (.cells #[.int .i64 0, .int .i64 0, .int .i64 0, .int .i64 0, .int .i64 0, .int .i64 0] 67) = y := ⟨_, rfl⟩
          rw [hy6] at hb6 hN ⊢
          clear hy6
          have hl6_0 := lt_heap hr5_0
          have hr6_0 := (hb6.block _ (lt_heap hr5_0)).trans hr5_0
          have hl6_1 := lt_heap hr5_1
          have hr6_1 := (hb6.block _ (lt_heap hr5_1)).trans hr5_1
          have hl6_2 := lt_heap hr5_2
          have hr6_2 := (hb6.block _ (lt_heap hr5_2)).trans hr5_2
          have hr6_3 := hN
          clear hN
          have HU6 := Lib.hid (HU5.out.trans (hb6.mono HU5.out.size))
          refine hK.out _ _ ((hb6.block _ (lt_heap hS5a)).trans hS5a) (fun hS6a => ?_)
          clear hK K
          refine wpAnyH_ready (rs := [8]) (by kernel_rfl) (by simp) ?_
          refine AllReadyH.cons rfl (fun K hK => ?_) AllReadyH.nil
          refine step_store_row rfl 67 (.tmp 3) (.tmp 12) rfl #[.int .i64 0, .int .i64 0, .int .i64 0, .int .i64 0, .int .i64 0, .int .i64 0] #[.int .i64 (Pl.sub (min a2 (min a5 a8)) 8192), .int .i64 (Pl.sub (min a3 (min a6 a9)) 8192), .int .i64 (Pl.sub (min a4 (min a7 a10)) 8192), .int .i64 (Pl.add (max a2 (max a5 a8)) 8192), .int .i64 (Pl.add (max a3 (max a6 a9)) 8192), .int .i64 (Pl.add (max a4 (max a7 a10)) 8192)] _ 67 hr6_2 rfl (by first | rfl | (go_simp; done) | (go_simp; rfl)) (by kernel_rfl) rfl (by simp [Value.oneCell']) ?_
          have hN := setRow_heap _ (y4.heap.size) _ #[.int .i64 (Pl.sub (min a2 (min a5 a8)) 8192), .int .i64 (Pl.sub (min a3 (min a6 a9)) 8192), .int .i64 (Pl.sub (min a4 (min a7 a10)) 8192), .int .i64 (Pl.add (max a2 (max a5 a8)) 8192), .int .i64 (Pl.add (max a3 (max a6 a9)) 8192), .int .i64 (Pl.add (max a4 (max a7 a10)) 8192)] _ _ hr6_2
          have hsz := HU6.out.size
          have HUx := below_setRow (g := y4.heap.size) HU6.out (by first | omega | (simp at *; omega)) #[.int .i64 (Pl.sub (min a2 (min a5 a8)) 8192), .int .i64 (Pl.sub (min a3 (min a6 a9)) 8192), .int .i64 (Pl.sub (min a4 (min a7 a10)) 8192), .int .i64 (Pl.add (max a2 (max a5 a8)) 8192), .int .i64 (Pl.add (max a3 (max a6 a9)) 8192), .int .i64 (Pl.add (max a4 (max a7 a10)) 8192)]
          obtain ⟨y7, hy7⟩ : ∃ y, y6.setRow (y4.heap.size) #[.int .i64 (Pl.sub (min a2 (min a5 a8)) 8192), .int .i64 (Pl.sub (min a3 (min a6 a9)) 8192), .int .i64 (Pl.sub (min a4 (min a7 a10)) 8192), .int .i64 (Pl.add (max a2 (max a5 a8)) 8192), .int .i64 (Pl.add (max a3 (max a6 a9)) 8192), .int .i64 (Pl.add (max a4 (max a7 a10)) 8192)] = y := ⟨_, rfl⟩
          have hO : ∀ k, k ≠ y4.heap.size → y7.heap[k]? = y6.heap[k]? := fun k hk => by rw [← hy7]; exact setRow_other _ _ _ _ hk
          rw [hy7] at hN HUx ⊢
          clear hy7
          have HU7 := Lib.hid HUx
          clear HUx
          have hr7_0 := (hO _ (by omega)).trans hr6_0
          have hr7_1 := (hO _ (by omega)).trans hr6_1
          have hr7_2 := hN
          have hr7_3 := (hO _ (by omega)).trans hr6_3
          clear hN
          refine hK.out _ _ ((hO _ (by omega)).trans hS6a) (fun hS7s => ?_)
          clear hK K
          refine wpAnyH_ready (rs := [9]) (by kernel_rfl) (by simp) ?_
          refine AllReadyH.cons rfl (fun K hK => ?_) AllReadyH.nil
          refine step_store_row rfl 67 (.tmp 4) (.tmp 15) rfl #[.int .i64 0, .int .i64 0, .int .i64 0, .int .i64 0, .int .i64 0, .int .i64 0] #[.int .i64 (Pl.sub (min a14 (min a17 a20)) 8192), .int .i64 (Pl.sub (min a15 (min a18 a21)) 8192), .int .i64 (Pl.sub (min a16 (min a19 a22)) 8192), .int .i64 (Pl.add (max a14 (max a17 a20)) 8192), .int .i64 (Pl.add (max a15 (max a18 a21)) 8192), .int .i64 (Pl.add (max a16 (max a19 a22)) 8192)] _ 67 hr7_3 rfl (by first | rfl | (go_simp; done) | (go_simp; rfl)) (by kernel_rfl) rfl (by simp [Value.oneCell']) ?_
          have hN := setRow_heap _ (y5.heap.size) _ #[.int .i64 (Pl.sub (min a14 (min a17 a20)) 8192), .int .i64 (Pl.sub (min a15 (min a18 a21)) 8192), .int .i64 (Pl.sub (min a16 (min a19 a22)) 8192), .int .i64 (Pl.add (max a14 (max a17 a20)) 8192), .int .i64 (Pl.add (max a15 (max a18 a21)) 8192), .int .i64 (Pl.add (max a16 (max a19 a22)) 8192)] _ _ hr7_3
          have hsz := HU7.out.size
          have HUx := below_setRow (g := y5.heap.size) HU7.out (by first | omega | (simp at *; omega)) #[.int .i64 (Pl.sub (min a14 (min a17 a20)) 8192), .int .i64 (Pl.sub (min a15 (min a18 a21)) 8192), .int .i64 (Pl.sub (min a16 (min a19 a22)) 8192), .int .i64 (Pl.add (max a14 (max a17 a20)) 8192), .int .i64 (Pl.add (max a15 (max a18 a21)) 8192), .int .i64 (Pl.add (max a16 (max a19 a22)) 8192)]
          obtain ⟨y8, hy8⟩ : ∃ y, y7.setRow (y5.heap.size) #[.int .i64 (Pl.sub (min a14 (min a17 a20)) 8192), .int .i64 (Pl.sub (min a15 (min a18 a21)) 8192), .int .i64 (Pl.sub (min a16 (min a19 a22)) 8192), .int .i64 (Pl.add (max a14 (max a17 a20)) 8192), .int .i64 (Pl.add (max a15 (max a18 a21)) 8192), .int .i64 (Pl.add (max a16 (max a19 a22)) 8192)] = y := ⟨_, rfl⟩
          have hO : ∀ k, k ≠ y5.heap.size → y8.heap[k]? = y7.heap[k]? := fun k hk => by rw [← hy8]; exact setRow_other _ _ _ _ hk
          rw [hy8] at hN HUx ⊢
          clear hy8
          have HU8 := Lib.hid HUx
          clear HUx
          have hr8_0 := (hO _ (by omega)).trans hr7_0
          have hr8_1 := (hO _ (by omega)).trans hr7_1
          have hr8_2 := (hO _ (by omega)).trans hr7_2
          have hr8_3 := hN
          clear hN
          refine hK.out _ _ ((hO _ (by omega)).trans hS7s) (fun hS8s => ?_)
          clear hK K
          refine wpAnyH_done (by kernel_rfl) ?_ _
          go_wp2_with fail
          go_meet
          exact ⟨_, _, rfl, rfl, by omega, by omega, hr8_2, hr8_3, hr8_0, hr8_1, HU8⟩
        · skip
          go_simp
          have hb5 := below_n1 y4 (.cells #[.int .i64 0, .int .i64 0, .int .i64 0, .int .i64 0, .int .i64 0, .int .i64 0] 67)
          have hN := heap_alloc_last y4 (.cells #[.int .i64 0, .int .i64 0, .int .i64 0, .int .i64 0, .int .i64 0, .int .i64 0] 67)
          obtain ⟨y5, hy5⟩ : ∃ y, y4.alloc (.cells #[.int .i64 0, .int .i64 0, .int .i64 0, .int .i64 0, .int .i64 0, .int .i64 0] 67) = y := ⟨_, rfl⟩
          rw [hy5] at hb5 hN ⊢
          clear hy5
          have hl5_0 := lt_heap hr4_0
          have hr5_0 := (hb5.block _ (lt_heap hr4_0)).trans hr4_0
          have hl5_1 := lt_heap hr4_1
          have hr5_1 := (hb5.block _ (lt_heap hr4_1)).trans hr4_1
          have hr5_2 := hN
          clear hN
          have HU5 := Lib.hid (HU4.out.trans (hb5.mono HU4.out.size))
          refine hK.out _ _ ((hb5.block _ (lt_heap hS4c)).trans hS4c) (fun hS5a => ?_)
          clear hK K
          refine wpAnyH_ready (rs := [6]) (by kernel_rfl) (by simp) ?_
          refine AllReadyH.cons rfl (fun K hK => ?_) AllReadyH.nil
          go_simp
          have hb6 := below_n1 y5 (.cells #[.int .i64 0, .int .i64 0, .int .i64 0, .int .i64 0, .int .i64 0, .int .i64 0] 67)
          have hN := heap_alloc_last y5 (.cells #[.int .i64 0, .int .i64 0, .int .i64 0, .int .i64 0, .int .i64 0, .int .i64 0] 67)
          obtain ⟨y6, hy6⟩ : ∃ y, y5.alloc (.cells #[.int .i64 0, .int .i64 0, .int .i64 0, .int .i64 0, .int .i64 0, .int .i64 0] 67) = y := ⟨_, rfl⟩
          rw [hy6] at hb6 hN ⊢
          clear hy6
          have hl6_0 := lt_heap hr5_0
          have hr6_0 := (hb6.block _ (lt_heap hr5_0)).trans hr5_0
          have hl6_1 := lt_heap hr5_1
          have hr6_1 := (hb6.block _ (lt_heap hr5_1)).trans hr5_1
          have hl6_2 := lt_heap hr5_2
          have hr6_2 := (hb6.block _ (lt_heap hr5_2)).trans hr5_2
          have hr6_3 := hN
          clear hN
          have HU6 := Lib.hid (HU5.out.trans (hb6.mono HU5.out.size))
          refine hK.out _ _ ((hb6.block _ (lt_heap hS5a)).trans hS5a) (fun hS6a => ?_)
          clear hK K
          refine wpAnyH_ready (rs := [8]) (by kernel_rfl) (by simp) ?_
          refine AllReadyH.cons rfl (fun K hK => ?_) AllReadyH.nil
          refine step_store_row rfl 67 (.tmp 3) (.tmp 12) rfl #[.int .i64 0, .int .i64 0, .int .i64 0, .int .i64 0, .int .i64 0, .int .i64 0] #[.int .i64 (Pl.sub (min a2 (min a5 a8)) 8192), .int .i64 (Pl.sub (min a3 (min a6 a9)) 8192), .int .i64 (Pl.sub (min a4 (min a7 a10)) 8192), .int .i64 (Pl.add (max a2 (max a5 a8)) 8192), .int .i64 (Pl.add (max a3 (max a6 a9)) 8192), .int .i64 (Pl.add (max a4 (max a7 a10)) 8192)] _ 67 hr6_3 rfl (by first | rfl | (go_simp; done) | (go_simp; rfl)) (by kernel_rfl) rfl (by simp [Value.oneCell']) ?_
          have hN := setRow_heap _ (y5.heap.size) _ #[.int .i64 (Pl.sub (min a2 (min a5 a8)) 8192), .int .i64 (Pl.sub (min a3 (min a6 a9)) 8192), .int .i64 (Pl.sub (min a4 (min a7 a10)) 8192), .int .i64 (Pl.add (max a2 (max a5 a8)) 8192), .int .i64 (Pl.add (max a3 (max a6 a9)) 8192), .int .i64 (Pl.add (max a4 (max a7 a10)) 8192)] _ _ hr6_3
          have hsz := HU6.out.size
          have HUx := below_setRow (g := y5.heap.size) HU6.out (by first | omega | (simp at *; omega)) #[.int .i64 (Pl.sub (min a2 (min a5 a8)) 8192), .int .i64 (Pl.sub (min a3 (min a6 a9)) 8192), .int .i64 (Pl.sub (min a4 (min a7 a10)) 8192), .int .i64 (Pl.add (max a2 (max a5 a8)) 8192), .int .i64 (Pl.add (max a3 (max a6 a9)) 8192), .int .i64 (Pl.add (max a4 (max a7 a10)) 8192)]
          obtain ⟨y7, hy7⟩ : ∃ y, y6.setRow (y5.heap.size) #[.int .i64 (Pl.sub (min a2 (min a5 a8)) 8192), .int .i64 (Pl.sub (min a3 (min a6 a9)) 8192), .int .i64 (Pl.sub (min a4 (min a7 a10)) 8192), .int .i64 (Pl.add (max a2 (max a5 a8)) 8192), .int .i64 (Pl.add (max a3 (max a6 a9)) 8192), .int .i64 (Pl.add (max a4 (max a7 a10)) 8192)] = y := ⟨_, rfl⟩
          have hO : ∀ k, k ≠ y5.heap.size → y7.heap[k]? = y6.heap[k]? := fun k hk => by rw [← hy7]; exact setRow_other _ _ _ _ hk
          rw [hy7] at hN HUx ⊢
          clear hy7
          have HU7 := Lib.hid HUx
          clear HUx
          have hr7_0 := (hO _ (by omega)).trans hr6_0
          have hr7_1 := (hO _ (by omega)).trans hr6_1
          have hr7_2 := (hO _ (by omega)).trans hr6_2
          have hr7_3 := hN
          clear hN
          refine hK.out _ _ ((hO _ (by omega)).trans hS6a) (fun hS7s => ?_)
          clear hK K
          refine wpAnyH_ready (rs := [9]) (by kernel_rfl) (by simp) ?_
          refine AllReadyH.cons rfl (fun K hK => ?_) AllReadyH.nil
          refine step_store_row rfl 67 (.tmp 4) (.tmp 15) rfl #[.int .i64 0, .int .i64 0, .int .i64 0, .int .i64 0, .int .i64 0, .int .i64 0] #[.int .i64 (Pl.sub (min a14 (min a17 a20)) 8192), .int .i64 (Pl.sub (min a15 (min a18 a21)) 8192), .int .i64 (Pl.sub (min a16 (min a19 a22)) 8192), .int .i64 (Pl.add (max a14 (max a17 a20)) 8192), .int .i64 (Pl.add (max a15 (max a18 a21)) 8192), .int .i64 (Pl.add (max a16 (max a19 a22)) 8192)] _ 67 hr7_2 rfl (by first | rfl | (go_simp; done) | (go_simp; rfl)) (by kernel_rfl) rfl (by simp [Value.oneCell']) ?_
          have hN := setRow_heap _ (y4.heap.size) _ #[.int .i64 (Pl.sub (min a14 (min a17 a20)) 8192), .int .i64 (Pl.sub (min a15 (min a18 a21)) 8192), .int .i64 (Pl.sub (min a16 (min a19 a22)) 8192), .int .i64 (Pl.add (max a14 (max a17 a20)) 8192), .int .i64 (Pl.add (max a15 (max a18 a21)) 8192), .int .i64 (Pl.add (max a16 (max a19 a22)) 8192)] _ _ hr7_2
          have hsz := HU7.out.size
          have HUx := below_setRow (g := y4.heap.size) HU7.out (by first | omega | (simp at *; omega)) #[.int .i64 (Pl.sub (min a14 (min a17 a20)) 8192), .int .i64 (Pl.sub (min a15 (min a18 a21)) 8192), .int .i64 (Pl.sub (min a16 (min a19 a22)) 8192), .int .i64 (Pl.add (max a14 (max a17 a20)) 8192), .int .i64 (Pl.add (max a15 (max a18 a21)) 8192), .int .i64 (Pl.add (max a16 (max a19 a22)) 8192)]
          obtain ⟨y8, hy8⟩ : ∃ y, y7.setRow (y4.heap.size) #[.int .i64 (Pl.sub (min a14 (min a17 a20)) 8192), .int .i64 (Pl.sub (min a15 (min a18 a21)) 8192), .int .i64 (Pl.sub (min a16 (min a19 a22)) 8192), .int .i64 (Pl.add (max a14 (max a17 a20)) 8192), .int .i64 (Pl.add (max a15 (max a18 a21)) 8192), .int .i64 (Pl.add (max a16 (max a19 a22)) 8192)] = y := ⟨_, rfl⟩
          have hO : ∀ k, k ≠ y4.heap.size → y8.heap[k]? = y7.heap[k]? := fun k hk => by rw [← hy8]; exact setRow_other _ _ _ _ hk
          rw [hy8] at hN HUx ⊢
          clear hy8
          have HU8 := Lib.hid HUx
          clear HUx
          have hr8_0 := (hO _ (by omega)).trans hr7_0
          have hr8_1 := (hO _ (by omega)).trans hr7_1
          have hr8_2 := hN
          have hr8_3 := (hO _ (by omega)).trans hr7_3
          clear hN
          refine hK.out _ _ ((hO _ (by omega)).trans hS7s) (fun hS8s => ?_)
          clear hK K
          refine wpAnyH_done (by kernel_rfl) ?_ _
          go_wp2_with fail
          go_meet
          exact ⟨_, _, rfl, rfl, by omega, by omega, hr8_3, hr8_2, hr8_0, hr8_1, HU8⟩
      · skip
        go_simp
        have hb4 := below_n1 y3 (.cells #[.int .i64 0, .int .i64 0, .int .i64 0, .int .i64 0, .int .i64 0, .int .i64 0] 67)
        have hN := heap_alloc_last y3 (.cells #[.int .i64 0, .int .i64 0, .int .i64 0, .int .i64 0, .int .i64 0, .int .i64 0] 67)
        obtain ⟨y4, hy4⟩ : ∃ y, y3.alloc (.cells #[.int .i64 0, .int .i64 0, .int .i64 0, .int .i64 0, .int .i64 0, .int .i64 0] 67) = y := ⟨_, rfl⟩
        rw [hy4] at hb4 hN ⊢
        clear hy4
        have hl4_0 := lt_heap hr3_0
        have hr4_0 := (hb4.block _ (lt_heap hr3_0)).trans hr3_0
        have hl4_1 := lt_heap hr3_1
        have hr4_1 := (hb4.block _ (lt_heap hr3_1)).trans hr3_1
        have hr4_2 := hN
        clear hN
        have HU4 := Lib.hid (HU3.out.trans (hb4.mono HU3.out.size))
        refine hK.out _ _ ((hb4.block _ (lt_heap hS3c)).trans hS3c) (fun hS4a => ?_)
        clear hK K
        refine wpAnyH_ready (rs := [5, 7]) (by kernel_rfl) (by simp) ?_
        refine AllReadyH.cons rfl (fun K hK => ?_) (AllReadyH.cons rfl (fun K hK => ?_) AllReadyH.nil)
        · skip
          go_simp
          go_wp2_with (go_at_call 73; refine (raround_faceR _ _ _ _ _ _ _ _ _ _ _ _ hk _).mono ?_; rintro e y5 ⟨rfl, hb5⟩)
          have hr5_0 := (hb5.block _ (lt_heap hr4_0)).trans hr4_0
          have hr5_1 := (hb5.block _ (lt_heap hr4_1)).trans hr4_1
          have hr5_2 := (hb5.block _ (lt_heap hr4_2)).trans hr4_2
          have HU5 := Lib.hid (HU4.out.trans (hb5.mono HU4.out.size))
          refine hK.out _ _ ((hb5.block _ (lt_heap hS4a)).trans hS4a) (fun hS5c => ?_)
          clear hK K
          refine wpAnyH_ready (rs := [7]) (by kernel_rfl) (by simp) ?_
          refine AllReadyH.cons rfl (fun K hK => ?_) AllReadyH.nil
          go_simp
          have hb6 := below_n1 y5 (.cells #[.int .i64 0, .int .i64 0, .int .i64 0, .int .i64 0, .int .i64 0, .int .i64 0] 67)
          have hN := heap_alloc_last y5 (.cells #[.int .i64 0, .int .i64 0, .int .i64 0, .int .i64 0, .int .i64 0, .int .i64 0] 67)
          obtain ⟨y6, hy6⟩ : ∃ y, y5.alloc (.cells #[.int .i64 0, .int .i64 0, .int .i64 0, .int .i64 0, .int .i64 0, .int .i64 0] 67) = y := ⟨_, rfl⟩
          rw [hy6] at hb6 hN ⊢
          clear hy6
          have hl6_0 := lt_heap hr5_0
          have hr6_0 := (hb6.block _ (lt_heap hr5_0)).trans hr5_0
          have hl6_1 := lt_heap hr5_1
          have hr6_1 := (hb6.block _ (lt_heap hr5_1)).trans hr5_1
          have hl6_2 := lt_heap hr5_2
          have hr6_2 := (hb6.block _ (lt_heap hr5_2)).trans hr5_2
          have hr6_3 := hN
          clear hN
          have HU6 := Lib.hid (HU5.out.trans (hb6.mono HU5.out.size))
          refine hK.out _ _ ((hb6.block _ (lt_heap hS5c)).trans hS5c) (fun hS6a => ?_)
          clear hK K
          refine wpAnyH_ready (rs := [8]) (by kernel_rfl) (by simp) ?_
          refine AllReadyH.cons rfl (fun K hK => ?_) AllReadyH.nil
          refine step_store_row rfl 67 (.tmp 3) (.tmp 12) rfl #[.int .i64 0, .int .i64 0, .int .i64 0, .int .i64 0, .int .i64 0, .int .i64 0] #[.int .i64 (Pl.sub (min a2 (min a5 a8)) 8192), .int .i64 (Pl.sub (min a3 (min a6 a9)) 8192), .int .i64 (Pl.sub (min a4 (min a7 a10)) 8192), .int .i64 (Pl.add (max a2 (max a5 a8)) 8192), .int .i64 (Pl.add (max a3 (max a6 a9)) 8192), .int .i64 (Pl.add (max a4 (max a7 a10)) 8192)] _ 67 hr6_2 rfl (by first | rfl | (go_simp; done) | (go_simp; rfl)) (by kernel_rfl) rfl (by simp [Value.oneCell']) ?_
          have hN := setRow_heap _ (y3.heap.size) _ #[.int .i64 (Pl.sub (min a2 (min a5 a8)) 8192), .int .i64 (Pl.sub (min a3 (min a6 a9)) 8192), .int .i64 (Pl.sub (min a4 (min a7 a10)) 8192), .int .i64 (Pl.add (max a2 (max a5 a8)) 8192), .int .i64 (Pl.add (max a3 (max a6 a9)) 8192), .int .i64 (Pl.add (max a4 (max a7 a10)) 8192)] _ _ hr6_2
          have hsz := HU6.out.size
          have HUx := below_setRow (g := y3.heap.size) HU6.out (by first | omega | (simp at *; omega)) #[.int .i64 (Pl.sub (min a2 (min a5 a8)) 8192), .int .i64 (Pl.sub (min a3 (min a6 a9)) 8192), .int .i64 (Pl.sub (min a4 (min a7 a10)) 8192), .int .i64 (Pl.add (max a2 (max a5 a8)) 8192), .int .i64 (Pl.add (max a3 (max a6 a9)) 8192), .int .i64 (Pl.add (max a4 (max a7 a10)) 8192)]
          obtain ⟨y7, hy7⟩ : ∃ y, y6.setRow (y3.heap.size) #[.int .i64 (Pl.sub (min a2 (min a5 a8)) 8192), .int .i64 (Pl.sub (min a3 (min a6 a9)) 8192), .int .i64 (Pl.sub (min a4 (min a7 a10)) 8192), .int .i64 (Pl.add (max a2 (max a5 a8)) 8192), .int .i64 (Pl.add (max a3 (max a6 a9)) 8192), .int .i64 (Pl.add (max a4 (max a7 a10)) 8192)] = y := ⟨_, rfl⟩
          have hO : ∀ k, k ≠ y3.heap.size → y7.heap[k]? = y6.heap[k]? := fun k hk => by rw [← hy7]; exact setRow_other _ _ _ _ hk
          rw [hy7] at hN HUx ⊢
          clear hy7
          have HU7 := Lib.hid HUx
          clear HUx
          have hr7_0 := (hO _ (by omega)).trans hr6_0
          have hr7_1 := (hO _ (by omega)).trans hr6_1
          have hr7_2 := hN
          have hr7_3 := (hO _ (by omega)).trans hr6_3
          clear hN
          refine hK.out _ _ ((hO _ (by omega)).trans hS6a) (fun hS7s => ?_)
          clear hK K
          refine wpAnyH_ready (rs := [9]) (by kernel_rfl) (by simp) ?_
          refine AllReadyH.cons rfl (fun K hK => ?_) AllReadyH.nil
          refine step_store_row rfl 67 (.tmp 4) (.tmp 15) rfl #[.int .i64 0, .int .i64 0, .int .i64 0, .int .i64 0, .int .i64 0, .int .i64 0] #[.int .i64 (Pl.sub (min a14 (min a17 a20)) 8192), .int .i64 (Pl.sub (min a15 (min a18 a21)) 8192), .int .i64 (Pl.sub (min a16 (min a19 a22)) 8192), .int .i64 (Pl.add (max a14 (max a17 a20)) 8192), .int .i64 (Pl.add (max a15 (max a18 a21)) 8192), .int .i64 (Pl.add (max a16 (max a19 a22)) 8192)] _ 67 hr7_3 rfl (by first | rfl | (go_simp; done) | (go_simp; rfl)) (by kernel_rfl) rfl (by simp [Value.oneCell']) ?_
          have hN := setRow_heap _ (y5.heap.size) _ #[.int .i64 (Pl.sub (min a14 (min a17 a20)) 8192), .int .i64 (Pl.sub (min a15 (min a18 a21)) 8192), .int .i64 (Pl.sub (min a16 (min a19 a22)) 8192), .int .i64 (Pl.add (max a14 (max a17 a20)) 8192), .int .i64 (Pl.add (max a15 (max a18 a21)) 8192), .int .i64 (Pl.add (max a16 (max a19 a22)) 8192)] _ _ hr7_3
          have hsz := HU7.out.size
          have HUx := below_setRow (g := y5.heap.size) HU7.out (by first | omega | (simp at *; omega)) #[.int .i64 (Pl.sub (min a14 (min a17 a20)) 8192), .int .i64 (Pl.sub (min a15 (min a18 a21)) 8192), .int .i64 (Pl.sub (min a16 (min a19 a22)) 8192), .int .i64 (Pl.add (max a14 (max a17 a20)) 8192), .int .i64 (Pl.add (max a15 (max a18 a21)) 8192), .int .i64 (Pl.add (max a16 (max a19 a22)) 8192)]
          obtain ⟨y8, hy8⟩ : ∃ y, y7.setRow (y5.heap.size) #[.int .i64 (Pl.sub (min a14 (min a17 a20)) 8192), .int .i64 (Pl.sub (min a15 (min a18 a21)) 8192), .int .i64 (Pl.sub (min a16 (min a19 a22)) 8192), .int .i64 (Pl.add (max a14 (max a17 a20)) 8192), .int .i64 (Pl.add (max a15 (max a18 a21)) 8192), .int .i64 (Pl.add (max a16 (max a19 a22)) 8192)] = y := ⟨_, rfl⟩
          have hO : ∀ k, k ≠ y5.heap.size → y8.heap[k]? = y7.heap[k]? := fun k hk => by rw [← hy8]; exact setRow_other _ _ _ _ hk
          rw [hy8] at hN HUx ⊢
          clear hy8
          have HU8 := Lib.hid HUx
          clear HUx
          have hr8_0 := (hO _ (by omega)).trans hr7_0
          have hr8_1 := (hO _ (by omega)).trans hr7_1
          have hr8_2 := (hO _ (by omega)).trans hr7_2
          have hr8_3 := hN
          clear hN
          refine hK.out _ _ ((hO _ (by omega)).trans hS7s) (fun hS8s => ?_)
          clear hK K
          refine wpAnyH_done (by kernel_rfl) ?_ _
          go_wp2_with fail
          go_meet
          exact ⟨_, _, rfl, rfl, by omega, by omega, hr8_2, hr8_3, hr8_0, hr8_1, HU8⟩
        · skip
          go_simp
          have hb5 := below_n1 y4 (.cells #[.int .i64 0, .int .i64 0, .int .i64 0, .int .i64 0, .int .i64 0, .int .i64 0] 67)
          have hN := heap_alloc_last y4 (.cells #[.int .i64 0, .int .i64 0, .int .i64 0, .int .i64 0, .int .i64 0, .int .i64 0] 67)
          obtain ⟨y5, hy5⟩ : ∃ y, y4.alloc (.cells #[.int .i64 0, .int .i64 0, .int .i64 0, .int .i64 0, .int .i64 0, .int .i64 0] 67) = y := ⟨_, rfl⟩
          rw [hy5] at hb5 hN ⊢
          clear hy5
          have hl5_0 := lt_heap hr4_0
          have hr5_0 := (hb5.block _ (lt_heap hr4_0)).trans hr4_0
          have hl5_1 := lt_heap hr4_1
          have hr5_1 := (hb5.block _ (lt_heap hr4_1)).trans hr4_1
          have hl5_2 := lt_heap hr4_2
          have hr5_2 := (hb5.block _ (lt_heap hr4_2)).trans hr4_2
          have hr5_3 := hN
          clear hN
          have HU5 := Lib.hid (HU4.out.trans (hb5.mono HU4.out.size))
          refine hK.out _ _ ((hb5.block _ (lt_heap hS4a)).trans hS4a) (fun hS5a => ?_)
          clear hK K
          refine wpAnyH_ready (rs := [5]) (by kernel_rfl) (by simp) ?_
          refine AllReadyH.cons rfl (fun K hK => ?_) AllReadyH.nil
          go_simp
          go_wp2_with (go_at_call 73; refine (raround_faceR _ _ _ _ _ _ _ _ _ _ _ _ hk _).mono ?_; rintro e y6 ⟨rfl, hb6⟩)
          have hr6_0 := (hb6.block _ (lt_heap hr5_0)).trans hr5_0
          have hr6_1 := (hb6.block _ (lt_heap hr5_1)).trans hr5_1
          have hr6_2 := (hb6.block _ (lt_heap hr5_2)).trans hr5_2
          have hr6_3 := (hb6.block _ (lt_heap hr5_3)).trans hr5_3
          have HU6 := Lib.hid (HU5.out.trans (hb6.mono HU5.out.size))
          refine hK.out _ _ ((hb6.block _ (lt_heap hS5a)).trans hS5a) (fun hS6c => ?_)
          clear hK K
          refine wpAnyH_ready (rs := [8]) (by kernel_rfl) (by simp) ?_
          refine AllReadyH.cons rfl (fun K hK => ?_) AllReadyH.nil
          refine step_store_row rfl 67 (.tmp 3) (.tmp 12) rfl #[.int .i64 0, .int .i64 0, .int .i64 0, .int .i64 0, .int .i64 0, .int .i64 0] #[.int .i64 (Pl.sub (min a2 (min a5 a8)) 8192), .int .i64 (Pl.sub (min a3 (min a6 a9)) 8192), .int .i64 (Pl.sub (min a4 (min a7 a10)) 8192), .int .i64 (Pl.add (max a2 (max a5 a8)) 8192), .int .i64 (Pl.add (max a3 (max a6 a9)) 8192), .int .i64 (Pl.add (max a4 (max a7 a10)) 8192)] _ 67 hr6_2 rfl (by first | rfl | (go_simp; done) | (go_simp; rfl)) (by kernel_rfl) rfl (by simp [Value.oneCell']) ?_
          have hN := setRow_heap _ (y3.heap.size) _ #[.int .i64 (Pl.sub (min a2 (min a5 a8)) 8192), .int .i64 (Pl.sub (min a3 (min a6 a9)) 8192), .int .i64 (Pl.sub (min a4 (min a7 a10)) 8192), .int .i64 (Pl.add (max a2 (max a5 a8)) 8192), .int .i64 (Pl.add (max a3 (max a6 a9)) 8192), .int .i64 (Pl.add (max a4 (max a7 a10)) 8192)] _ _ hr6_2
          have hsz := HU6.out.size
          have HUx := below_setRow (g := y3.heap.size) HU6.out (by first | omega | (simp at *; omega)) #[.int .i64 (Pl.sub (min a2 (min a5 a8)) 8192), .int .i64 (Pl.sub (min a3 (min a6 a9)) 8192), .int .i64 (Pl.sub (min a4 (min a7 a10)) 8192), .int .i64 (Pl.add (max a2 (max a5 a8)) 8192), .int .i64 (Pl.add (max a3 (max a6 a9)) 8192), .int .i64 (Pl.add (max a4 (max a7 a10)) 8192)]
          obtain ⟨y7, hy7⟩ : ∃ y, y6.setRow (y3.heap.size) #[.int .i64 (Pl.sub (min a2 (min a5 a8)) 8192), .int .i64 (Pl.sub (min a3 (min a6 a9)) 8192), .int .i64 (Pl.sub (min a4 (min a7 a10)) 8192), .int .i64 (Pl.add (max a2 (max a5 a8)) 8192), .int .i64 (Pl.add (max a3 (max a6 a9)) 8192), .int .i64 (Pl.add (max a4 (max a7 a10)) 8192)] = y := ⟨_, rfl⟩
          have hO : ∀ k, k ≠ y3.heap.size → y7.heap[k]? = y6.heap[k]? := fun k hk => by rw [← hy7]; exact setRow_other _ _ _ _ hk
          rw [hy7] at hN HUx ⊢
          clear hy7
          have HU7 := Lib.hid HUx
          clear HUx
          have hr7_0 := (hO _ (by omega)).trans hr6_0
          have hr7_1 := (hO _ (by omega)).trans hr6_1
          have hr7_2 := hN
          have hr7_3 := (hO _ (by omega)).trans hr6_3
          clear hN
          refine hK.out _ _ ((hO _ (by omega)).trans hS6c) (fun hS7s => ?_)
          clear hK K
          refine wpAnyH_ready (rs := [9]) (by kernel_rfl) (by simp) ?_
          refine AllReadyH.cons rfl (fun K hK => ?_) AllReadyH.nil
          refine step_store_row rfl 67 (.tmp 4) (.tmp 15) rfl #[.int .i64 0, .int .i64 0, .int .i64 0, .int .i64 0, .int .i64 0, .int .i64 0] #[.int .i64 (Pl.sub (min a14 (min a17 a20)) 8192), .int .i64 (Pl.sub (min a15 (min a18 a21)) 8192), .int .i64 (Pl.sub (min a16 (min a19 a22)) 8192), .int .i64 (Pl.add (max a14 (max a17 a20)) 8192), .int .i64 (Pl.add (max a15 (max a18 a21)) 8192), .int .i64 (Pl.add (max a16 (max a19 a22)) 8192)] _ 67 hr7_3 rfl (by first | rfl | (go_simp; done) | (go_simp; rfl)) (by kernel_rfl) rfl (by simp [Value.oneCell']) ?_
          have hN := setRow_heap _ (y4.heap.size) _ #[.int .i64 (Pl.sub (min a14 (min a17 a20)) 8192), .int .i64 (Pl.sub (min a15 (min a18 a21)) 8192), .int .i64 (Pl.sub (min a16 (min a19 a22)) 8192), .int .i64 (Pl.add (max a14 (max a17 a20)) 8192), .int .i64 (Pl.add (max a15 (max a18 a21)) 8192), .int .i64 (Pl.add (max a16 (max a19 a22)) 8192)] _ _ hr7_3
          have hsz := HU7.out.size
          have HUx := below_setRow (g := y4.heap.size) HU7.out (by first | omega | (simp at *; omega)) #[.int .i64 (Pl.sub (min a14 (min a17 a20)) 8192), .int .i64 (Pl.sub (min a15 (min a18 a21)) 8192), .int .i64 (Pl.sub (min a16 (min a19 a22)) 8192), .int .i64 (Pl.add (max a14 (max a17 a20)) 8192), .int .i64 (Pl.add (max a15 (max a18 a21)) 8192), .int .i64 (Pl.add (max a16 (max a19 a22)) 8192)]
          obtain ⟨y8, hy8⟩ : ∃ y, y7.setRow (y4.heap.size) #[.int .i64 (Pl.sub (min a14 (min a17 a20)) 8192), .int .i64 (Pl.sub (min a15 (min a18 a21)) 8192), .int .i64 (Pl.sub (min a16 (min a19 a22)) 8192), .int .i64 (Pl.add (max a14 (max a17 a20)) 8192), .int .i64 (Pl.add (max a15 (max a18 a21)) 8192), .int .i64 (Pl.add (max a16 (max a19 a22)) 8192)] = y := ⟨_, rfl⟩
          have hO : ∀ k, k ≠ y4.heap.size → y8.heap[k]? = y7.heap[k]? := fun k hk => by rw [← hy8]; exact setRow_other _ _ _ _ hk
          rw [hy8] at hN HUx ⊢
          clear hy8
          have HU8 := Lib.hid HUx
          clear HUx
          have hr8_0 := (hO _ (by omega)).trans hr7_0
          have hr8_1 := (hO _ (by omega)).trans hr7_1
          have hr8_2 := (hO _ (by omega)).trans hr7_2
          have hr8_3 := hN
          clear hN
          refine hK.out _ _ ((hO _ (by omega)).trans hS7s) (fun hS8s => ?_)
          clear hK K
          refine wpAnyH_done (by kernel_rfl) ?_ _
          go_wp2_with fail
          go_meet
          exact ⟨_, _, rfl, rfl, by omega, by omega, hr8_2, hr8_3, hr8_0, hr8_1, HU8⟩
      · skip
        go_simp
        have hb4 := below_n1 y3 (.cells #[.int .i64 0, .int .i64 0, .int .i64 0, .int .i64 0, .int .i64 0, .int .i64 0] 67)
        have hN := heap_alloc_last y3 (.cells #[.int .i64 0, .int .i64 0, .int .i64 0, .int .i64 0, .int .i64 0, .int .i64 0] 67)
        obtain ⟨y4, hy4⟩ : ∃ y, y3.alloc (.cells #[.int .i64 0, .int .i64 0, .int .i64 0, .int .i64 0, .int .i64 0, .int .i64 0] 67) = y := ⟨_, rfl⟩
        rw [hy4] at hb4 hN ⊢
        clear hy4
        have hl4_0 := lt_heap hr3_0
        have hr4_0 := (hb4.block _ (lt_heap hr3_0)).trans hr3_0
        have hl4_1 := lt_heap hr3_1
        have hr4_1 := (hb4.block _ (lt_heap hr3_1)).trans hr3_1
        have hr4_2 := hN
        clear hN
        have HU4 := Lib.hid (HU3.out.trans (hb4.mono HU3.out.size))
        refine hK.out _ _ ((hb4.block _ (lt_heap hS3c)).trans hS3c) (fun hS4a => ?_)
        clear hK K
        refine wpAnyH_ready (rs := [5, 6]) (by kernel_rfl) (by simp) ?_
        refine AllReadyH.cons rfl (fun K hK => ?_) (AllReadyH.cons rfl (fun K hK => ?_) AllReadyH.nil)
        · skip
          go_simp
          go_wp2_with (go_at_call 73; refine (raround_faceR _ _ _ _ _ _ _ _ _ _ _ _ hk _).mono ?_; rintro e y5 ⟨rfl, hb5⟩)
          have hr5_0 := (hb5.block _ (lt_heap hr4_0)).trans hr4_0
          have hr5_1 := (hb5.block _ (lt_heap hr4_1)).trans hr4_1
          have hr5_2 := (hb5.block _ (lt_heap hr4_2)).trans hr4_2
          have HU5 := Lib.hid (HU4.out.trans (hb5.mono HU4.out.size))
          refine hK.out _ _ ((hb5.block _ (lt_heap hS4a)).trans hS4a) (fun hS5c => ?_)
          clear hK K
          refine wpAnyH_ready (rs := [6]) (by kernel_rfl) (by simp) ?_
          refine AllReadyH.cons rfl (fun K hK => ?_) AllReadyH.nil
          go_simp
          have hb6 := below_n1 y5 (.cells #[.int .i64 0, .int .i64 0, .int .i64 0, .int .i64 0, .int .i64 0, .int .i64 0] 67)
          have hN := heap_alloc_last y5 (.cells #[.int .i64 0, .int .i64 0, .int .i64 0, .int .i64 0, .int .i64 0, .int .i64 0] 67)
          obtain ⟨y6, hy6⟩ : ∃ y, y5.alloc (.cells #[.int .i64 0, .int .i64 0, .int .i64 0, .int .i64 0, .int .i64 0, .int .i64 0] 67) = y := ⟨_, rfl⟩
          rw [hy6] at hb6 hN ⊢
          clear hy6
          have hl6_0 := lt_heap hr5_0
          have hr6_0 := (hb6.block _ (lt_heap hr5_0)).trans hr5_0
          have hl6_1 := lt_heap hr5_1
          have hr6_1 := (hb6.block _ (lt_heap hr5_1)).trans hr5_1
          have hl6_2 := lt_heap hr5_2
          have hr6_2 := (hb6.block _ (lt_heap hr5_2)).trans hr5_2
          have hr6_3 := hN
          clear hN
          have HU6 := Lib.hid (HU5.out.trans (hb6.mono HU5.out.size))
          refine hK.out _ _ ((hb6.block _ (lt_heap hS5c)).trans hS5c) (fun hS6a => ?_)
          clear hK K
          refine wpAnyH_ready (rs := [8]) (by kernel_rfl) (by simp) ?_
          refine AllReadyH.cons rfl (fun K hK => ?_) AllReadyH.nil
          refine step_store_row rfl 67 (.tmp 3) (.tmp 12) rfl #[.int .i64 0, .int .i64 0, .int .i64 0, .int .i64 0, .int .i64 0, .int .i64 0] #[.int .i64 (Pl.sub (min a2 (min a5 a8)) 8192), .int .i64 (Pl.sub (min a3 (min a6 a9)) 8192), .int .i64 (Pl.sub (min a4 (min a7 a10)) 8192), .int .i64 (Pl.add (max a2 (max a5 a8)) 8192), .int .i64 (Pl.add (max a3 (max a6 a9)) 8192), .int .i64 (Pl.add (max a4 (max a7 a10)) 8192)] _ 67 hr6_3 rfl (by first | rfl | (go_simp; done) | (go_simp; rfl)) (by kernel_rfl) rfl (by simp [Value.oneCell']) ?_
          have hN := setRow_heap _ (y5.heap.size) _ #[.int .i64 (Pl.sub (min a2 (min a5 a8)) 8192), .int .i64 (Pl.sub (min a3 (min a6 a9)) 8192), .int .i64 (Pl.sub (min a4 (min a7 a10)) 8192), .int .i64 (Pl.add (max a2 (max a5 a8)) 8192), .int .i64 (Pl.add (max a3 (max a6 a9)) 8192), .int .i64 (Pl.add (max a4 (max a7 a10)) 8192)] _ _ hr6_3
          have hsz := HU6.out.size
          have HUx := below_setRow (g := y5.heap.size) HU6.out (by first | omega | (simp at *; omega)) #[.int .i64 (Pl.sub (min a2 (min a5 a8)) 8192), .int .i64 (Pl.sub (min a3 (min a6 a9)) 8192), .int .i64 (Pl.sub (min a4 (min a7 a10)) 8192), .int .i64 (Pl.add (max a2 (max a5 a8)) 8192), .int .i64 (Pl.add (max a3 (max a6 a9)) 8192), .int .i64 (Pl.add (max a4 (max a7 a10)) 8192)]
          obtain ⟨y7, hy7⟩ : ∃ y, y6.setRow (y5.heap.size) #[.int .i64 (Pl.sub (min a2 (min a5 a8)) 8192), .int .i64 (Pl.sub (min a3 (min a6 a9)) 8192), .int .i64 (Pl.sub (min a4 (min a7 a10)) 8192), .int .i64 (Pl.add (max a2 (max a5 a8)) 8192), .int .i64 (Pl.add (max a3 (max a6 a9)) 8192), .int .i64 (Pl.add (max a4 (max a7 a10)) 8192)] = y := ⟨_, rfl⟩
          have hO : ∀ k, k ≠ y5.heap.size → y7.heap[k]? = y6.heap[k]? := fun k hk => by rw [← hy7]; exact setRow_other _ _ _ _ hk
          rw [hy7] at hN HUx ⊢
          clear hy7
          have HU7 := Lib.hid HUx
          clear HUx
          have hr7_0 := (hO _ (by omega)).trans hr6_0
          have hr7_1 := (hO _ (by omega)).trans hr6_1
          have hr7_2 := (hO _ (by omega)).trans hr6_2
          have hr7_3 := hN
          clear hN
          refine hK.out _ _ ((hO _ (by omega)).trans hS6a) (fun hS7s => ?_)
          clear hK K
          refine wpAnyH_ready (rs := [9]) (by kernel_rfl) (by simp) ?_
          refine AllReadyH.cons rfl (fun K hK => ?_) AllReadyH.nil
          refine step_store_row rfl 67 (.tmp 4) (.tmp 15) rfl #[.int .i64 0, .int .i64 0, .int .i64 0, .int .i64 0, .int .i64 0, .int .i64 0] #[.int .i64 (Pl.sub (min a14 (min a17 a20)) 8192), .int .i64 (Pl.sub (min a15 (min a18 a21)) 8192), .int .i64 (Pl.sub (min a16 (min a19 a22)) 8192), .int .i64 (Pl.add (max a14 (max a17 a20)) 8192), .int .i64 (Pl.add (max a15 (max a18 a21)) 8192), .int .i64 (Pl.add (max a16 (max a19 a22)) 8192)] _ 67 hr7_2 rfl (by first | rfl | (go_simp; done) | (go_simp; rfl)) (by kernel_rfl) rfl (by simp [Value.oneCell']) ?_
          have hN := setRow_heap _ (y3.heap.size) _ #[.int .i64 (Pl.sub (min a14 (min a17 a20)) 8192), .int .i64 (Pl.sub (min a15 (min a18 a21)) 8192), .int .i64 (Pl.sub (min a16 (min a19 a22)) 8192), .int .i64 (Pl.add (max a14 (max a17 a20)) 8192), .int .i64 (Pl.add (max a15 (max a18 a21)) 8192), .int .i64 (Pl.add (max a16 (max a19 a22)) 8192)] _ _ hr7_2
          have hsz := HU7.out.size
          have HUx := below_setRow (g := y3.heap.size) HU7.out (by first | omega | (simp at *; omega)) #[.int .i64 (Pl.sub (min a14 (min a17 a20)) 8192), .int .i64 (Pl.sub (min a15 (min a18 a21)) 8192), .int .i64 (Pl.sub (min a16 (min a19 a22)) 8192), .int .i64 (Pl.add (max a14 (max a17 a20)) 8192), .int .i64 (Pl.add (max a15 (max a18 a21)) 8192), .int .i64 (Pl.add (max a16 (max a19 a22)) 8192)]
          obtain ⟨y8, hy8⟩ : ∃ y, y7.setRow (y3.heap.size) #[.int .i64 (Pl.sub (min a14 (min a17 a20)) 8192), .int .i64 (Pl.sub (min a15 (min a18 a21)) 8192), .int .i64 (Pl.sub (min a16 (min a19 a22)) 8192), .int .i64 (Pl.add (max a14 (max a17 a20)) 8192), .int .i64 (Pl.add (max a15 (max a18 a21)) 8192), .int .i64 (Pl.add (max a16 (max a19 a22)) 8192)] = y := ⟨_, rfl⟩
          have hO : ∀ k, k ≠ y3.heap.size → y8.heap[k]? = y7.heap[k]? := fun k hk => by rw [← hy8]; exact setRow_other _ _ _ _ hk
          rw [hy8] at hN HUx ⊢
          clear hy8
          have HU8 := Lib.hid HUx
          clear HUx
          have hr8_0 := (hO _ (by omega)).trans hr7_0
          have hr8_1 := (hO _ (by omega)).trans hr7_1
          have hr8_2 := hN
          have hr8_3 := (hO _ (by omega)).trans hr7_3
          clear hN
          refine hK.out _ _ ((hO _ (by omega)).trans hS7s) (fun hS8s => ?_)
          clear hK K
          refine wpAnyH_done (by kernel_rfl) ?_ _
          go_wp2_with fail
          go_meet
          exact ⟨_, _, rfl, rfl, by omega, by omega, hr8_3, hr8_2, hr8_0, hr8_1, HU8⟩
        · skip
          go_simp
          have hb5 := below_n1 y4 (.cells #[.int .i64 0, .int .i64 0, .int .i64 0, .int .i64 0, .int .i64 0, .int .i64 0] 67)
          have hN := heap_alloc_last y4 (.cells #[.int .i64 0, .int .i64 0, .int .i64 0, .int .i64 0, .int .i64 0, .int .i64 0] 67)
          obtain ⟨y5, hy5⟩ : ∃ y, y4.alloc (.cells #[.int .i64 0, .int .i64 0, .int .i64 0, .int .i64 0, .int .i64 0, .int .i64 0] 67) = y := ⟨_, rfl⟩
          rw [hy5] at hb5 hN ⊢
          clear hy5
          have hl5_0 := lt_heap hr4_0
          have hr5_0 := (hb5.block _ (lt_heap hr4_0)).trans hr4_0
          have hl5_1 := lt_heap hr4_1
          have hr5_1 := (hb5.block _ (lt_heap hr4_1)).trans hr4_1
          have hl5_2 := lt_heap hr4_2
          have hr5_2 := (hb5.block _ (lt_heap hr4_2)).trans hr4_2
          have hr5_3 := hN
          clear hN
          have HU5 := Lib.hid (HU4.out.trans (hb5.mono HU4.out.size))
          refine hK.out _ _ ((hb5.block _ (lt_heap hS4a)).trans hS4a) (fun hS5a => ?_)
          clear hK K
          refine wpAnyH_ready (rs := [5]) (by kernel_rfl) (by simp) ?_
          refine AllReadyH.cons rfl (fun K hK => ?_) AllReadyH.nil
          go_simp
          go_wp2_with (go_at_call 73; refine (raround_faceR _ _ _ _ _ _ _ _ _ _ _ _ hk _).mono ?_; rintro e y6 ⟨rfl, hb6⟩)
          have hr6_0 := (hb6.block _ (lt_heap hr5_0)).trans hr5_0
          have hr6_1 := (hb6.block _ (lt_heap hr5_1)).trans hr5_1
          have hr6_2 := (hb6.block _ (lt_heap hr5_2)).trans hr5_2
          have hr6_3 := (hb6.block _ (lt_heap hr5_3)).trans hr5_3
          have HU6 := Lib.hid (HU5.out.trans (hb6.mono HU5.out.size))
          refine hK.out _ _ ((hb6.block _ (lt_heap hS5a)).trans hS5a) (fun hS6c => ?_)
          clear hK K
          refine wpAnyH_ready (rs := [8]) (by kernel_rfl) (by simp) ?_
          refine AllReadyH.cons rfl (fun K hK => ?_) AllReadyH.nil
          refine step_store_row rfl 67 (.tmp 3) (.tmp 12) rfl #[.int .i64 0, .int .i64 0, .int .i64 0, .int .i64 0, .int .i64 0, .int .i64 0] #[.int .i64 (Pl.sub (min a2 (min a5 a8)) 8192), .int .i64 (Pl.sub (min a3 (min a6 a9)) 8192), .int .i64 (Pl.sub (min a4 (min a7 a10)) 8192), .int .i64 (Pl.add (max a2 (max a5 a8)) 8192), .int .i64 (Pl.add (max a3 (max a6 a9)) 8192), .int .i64 (Pl.add (max a4 (max a7 a10)) 8192)] _ 67 hr6_3 rfl (by first | rfl | (go_simp; done) | (go_simp; rfl)) (by kernel_rfl) rfl (by simp [Value.oneCell']) ?_
          have hN := setRow_heap _ (y4.heap.size) _ #[.int .i64 (Pl.sub (min a2 (min a5 a8)) 8192), .int .i64 (Pl.sub (min a3 (min a6 a9)) 8192), .int .i64 (Pl.sub (min a4 (min a7 a10)) 8192), .int .i64 (Pl.add (max a2 (max a5 a8)) 8192), .int .i64 (Pl.add (max a3 (max a6 a9)) 8192), .int .i64 (Pl.add (max a4 (max a7 a10)) 8192)] _ _ hr6_3
          have hsz := HU6.out.size
          have HUx := below_setRow (g := y4.heap.size) HU6.out (by first | omega | (simp at *; omega)) #[.int .i64 (Pl.sub (min a2 (min a5 a8)) 8192), .int .i64 (Pl.sub (min a3 (min a6 a9)) 8192), .int .i64 (Pl.sub (min a4 (min a7 a10)) 8192), .int .i64 (Pl.add (max a2 (max a5 a8)) 8192), .int .i64 (Pl.add (max a3 (max a6 a9)) 8192), .int .i64 (Pl.add (max a4 (max a7 a10)) 8192)]
          obtain ⟨y7, hy7⟩ : ∃ y, y6.setRow (y4.heap.size) #[.int .i64 (Pl.sub (min a2 (min a5 a8)) 8192), .int .i64 (Pl.sub (min a3 (min a6 a9)) 8192), .int .i64 (Pl.sub (min a4 (min a7 a10)) 8192), .int .i64 (Pl.add (max a2 (max a5 a8)) 8192), .int .i64 (Pl.add (max a3 (max a6 a9)) 8192), .int .i64 (Pl.add (max a4 (max a7 a10)) 8192)] = y := ⟨_, rfl⟩
          have hO : ∀ k, k ≠ y4.heap.size → y7.heap[k]? = y6.heap[k]? := fun k hk => by rw [← hy7]; exact setRow_other _ _ _ _ hk
          rw [hy7] at hN HUx ⊢
          clear hy7
          have HU7 := Lib.hid HUx
          clear HUx
          have hr7_0 := (hO _ (by omega)).trans hr6_0
          have hr7_1 := (hO _ (by omega)).trans hr6_1
          have hr7_2 := (hO _ (by omega)).trans hr6_2
          have hr7_3 := hN
          clear hN
          refine hK.out _ _ ((hO _ (by omega)).trans hS6c) (fun hS7s => ?_)
          clear hK K
          refine wpAnyH_ready (rs := [9]) (by kernel_rfl) (by simp) ?_
          refine AllReadyH.cons rfl (fun K hK => ?_) AllReadyH.nil
          refine step_store_row rfl 67 (.tmp 4) (.tmp 15) rfl #[.int .i64 0, .int .i64 0, .int .i64 0, .int .i64 0, .int .i64 0, .int .i64 0] #[.int .i64 (Pl.sub (min a14 (min a17 a20)) 8192), .int .i64 (Pl.sub (min a15 (min a18 a21)) 8192), .int .i64 (Pl.sub (min a16 (min a19 a22)) 8192), .int .i64 (Pl.add (max a14 (max a17 a20)) 8192), .int .i64 (Pl.add (max a15 (max a18 a21)) 8192), .int .i64 (Pl.add (max a16 (max a19 a22)) 8192)] _ 67 hr7_2 rfl (by first | rfl | (go_simp; done) | (go_simp; rfl)) (by kernel_rfl) rfl (by simp [Value.oneCell']) ?_
          have hN := setRow_heap _ (y3.heap.size) _ #[.int .i64 (Pl.sub (min a14 (min a17 a20)) 8192), .int .i64 (Pl.sub (min a15 (min a18 a21)) 8192), .int .i64 (Pl.sub (min a16 (min a19 a22)) 8192), .int .i64 (Pl.add (max a14 (max a17 a20)) 8192), .int .i64 (Pl.add (max a15 (max a18 a21)) 8192), .int .i64 (Pl.add (max a16 (max a19 a22)) 8192)] _ _ hr7_2
          have hsz := HU7.out.size
          have HUx := below_setRow (g := y3.heap.size) HU7.out (by first | omega | (simp at *; omega)) #[.int .i64 (Pl.sub (min a14 (min a17 a20)) 8192), .int .i64 (Pl.sub (min a15 (min a18 a21)) 8192), .int .i64 (Pl.sub (min a16 (min a19 a22)) 8192), .int .i64 (Pl.add (max a14 (max a17 a20)) 8192), .int .i64 (Pl.add (max a15 (max a18 a21)) 8192), .int .i64 (Pl.add (max a16 (max a19 a22)) 8192)]
          obtain ⟨y8, hy8⟩ : ∃ y, y7.setRow (y3.heap.size) #[.int .i64 (Pl.sub (min a14 (min a17 a20)) 8192), .int .i64 (Pl.sub (min a15 (min a18 a21)) 8192), .int .i64 (Pl.sub (min a16 (min a19 a22)) 8192), .int .i64 (Pl.add (max a14 (max a17 a20)) 8192), .int .i64 (Pl.add (max a15 (max a18 a21)) 8192), .int .i64 (Pl.add (max a16 (max a19 a22)) 8192)] = y := ⟨_, rfl⟩
          have hO : ∀ k, k ≠ y3.heap.size → y8.heap[k]? = y7.heap[k]? := fun k hk => by rw [← hy8]; exact setRow_other _ _ _ _ hk
          rw [hy8] at hN HUx ⊢
          clear hy8
          have HU8 := Lib.hid HUx
          clear HUx
          have hr8_0 := (hO _ (by omega)).trans hr7_0
          have hr8_1 := (hO _ (by omega)).trans hr7_1
          have hr8_2 := hN
          have hr8_3 := (hO _ (by omega)).trans hr7_3
          clear hN
          refine hK.out _ _ ((hO _ (by omega)).trans hS7s) (fun hS8s => ?_)
          clear hK K
          refine wpAnyH_done (by kernel_rfl) ?_ _
          go_wp2_with fail
          go_meet
          exact ⟨_, _, rfl, rfl, by omega, by omega, hr8_3, hr8_2, hr8_0, hr8_1, HU8⟩
    · skip
      go_simp
      have hb3 := below_n1 y2 (.cells #[.int .i64 0, .int .i64 0, .int .i64 0, .int .i64 0, .int .i64 0, .int .i64 0] 67)
      have hN := heap_alloc_last y2 (.cells #[.int .i64 0, .int .i64 0, .int .i64 0, .int .i64 0, .int .i64 0, .int .i64 0] 67)
      obtain ⟨y3, hy3⟩ : ∃ y, y2.alloc (.cells #[.int .i64 0, .int .i64 0, .int .i64 0, .int .i64 0, .int .i64 0, .int .i64 0] 67) = y := ⟨_, rfl⟩
      rw [hy3] at hb3 hN ⊢
      clear hy3
      have hl3_0 := lt_heap hr2_0
      have hr3_0 := (hb3.block _ (lt_heap hr2_0)).trans hr2_0
      have hl3_1 := lt_heap hr2_1
      have hr3_1 := (hb3.block _ (lt_heap hr2_1)).trans hr2_1
      have hr3_2 := hN
      clear hN
      have HU3 := Lib.hid (HU2.out.trans (hb3.mono HU2.out.size))
      refine hK.out _ _ ((hb3.block _ (lt_heap hS0)).trans hS0) (fun hS3a => ?_)
      clear hK K
      refine wpAnyH_ready (rs := [2, 7]) (by kernel_rfl) (by simp) ?_
      refine AllReadyH.cons rfl (fun K hK => ?_) (AllReadyH.cons rfl (fun K hK => ?_) AllReadyH.nil)
      · skip
        go_simp
        go_wp2_with (go_at_call 73; refine (raround_faceR _ _ _ _ _ _ _ _ _ _ _ _ hk _).mono ?_; rintro e y4 ⟨rfl, hb4⟩)
        have hr4_0 := (hb4.block _ (lt_heap hr3_0)).trans hr3_0
        have hr4_1 := (hb4.block _ (lt_heap hr3_1)).trans hr3_1
        have hr4_2 := (hb4.block _ (lt_heap hr3_2)).trans hr3_2
        have HU4 := Lib.hid (HU3.out.trans (hb4.mono HU3.out.size))
        refine hK.out _ _ ((hb4.block _ (lt_heap hS3a)).trans hS3a) (fun hS4c => ?_)
        clear hK K
        refine wpAnyH_ready (rs := [5, 7]) (by kernel_rfl) (by simp) ?_
        refine AllReadyH.cons rfl (fun K hK => ?_) (AllReadyH.cons rfl (fun K hK => ?_) AllReadyH.nil)
        · skip
          go_simp
          go_wp2_with (go_at_call 73; refine (raround_faceR _ _ _ _ _ _ _ _ _ _ _ _ hk _).mono ?_; rintro e y5 ⟨rfl, hb5⟩)
          have hr5_0 := (hb5.block _ (lt_heap hr4_0)).trans hr4_0
          have hr5_1 := (hb5.block _ (lt_heap hr4_1)).trans hr4_1
          have hr5_2 := (hb5.block _ (lt_heap hr4_2)).trans hr4_2
          have HU5 := Lib.hid (HU4.out.trans (hb5.mono HU4.out.size))
          refine hK.out _ _ ((hb5.block _ (lt_heap hS4c)).trans hS4c) (fun hS5c => ?_)
          clear hK K
          refine wpAnyH_ready (rs := [7]) (by kernel_rfl) (by simp) ?_
          refine AllReadyH.cons rfl (fun K hK => ?_) AllReadyH.nil
          go_simp
          have hb6 := below_n1 y5 (.cells #[.int .i64 0, .int .i64 0, .int .i64 0, .int .i64 0, .int .i64 0, .int .i64 0] 67)
          have hN := heap_alloc_last y5 (.cells #[.int .i64 0, .int .i64 0, .int .i64 0, .int .i64 0, .int .i64 0, .int .i64 0] 67)
          obtain ⟨y6, hy6⟩ : ∃ y, y5.alloc (.cells #[.int .i64 0, .int .i64 0, .int .i64 0, .int .i64 0, .int .i64 0, .int .i64 0] 67) = y := ⟨_, rfl⟩
          rw [hy6] at hb6 hN ⊢
          clear hy6
          have hl6_0 := lt_heap hr5_0
          have hr6_0 := (hb6.block _ (lt_heap hr5_0)).trans hr5_0
          have hl6_1 := lt_heap hr5_1
          have hr6_1 := (hb6.block _ (lt_heap hr5_1)).trans hr5_1
          have hl6_2 := lt_heap hr5_2
          have hr6_2 := (hb6.block _ (lt_heap hr5_2)).trans hr5_2
          have hr6_3 := hN
          clear hN
          have HU6 := Lib.hid (HU5.out.trans (hb6.mono HU5.out.size))
          refine hK.out _ _ ((hb6.block _ (lt_heap hS5c)).trans hS5c) (fun hS6a => ?_)
          clear hK K
          refine wpAnyH_ready (rs := [8]) (by kernel_rfl) (by simp) ?_
          refine AllReadyH.cons rfl (fun K hK => ?_) AllReadyH.nil
          refine step_store_row rfl 67 (.tmp 3) (.tmp 12) rfl #[.int .i64 0, .int .i64 0, .int .i64 0, .int .i64 0, .int .i64 0, .int .i64 0] #[.int .i64 (Pl.sub (min a2 (min a5 a8)) 8192), .int .i64 (Pl.sub (min a3 (min a6 a9)) 8192), .int .i64 (Pl.sub (min a4 (min a7 a10)) 8192), .int .i64 (Pl.add (max a2 (max a5 a8)) 8192), .int .i64 (Pl.add (max a3 (max a6 a9)) 8192), .int .i64 (Pl.add (max a4 (max a7 a10)) 8192)] _ 67 hr6_2 rfl (by first | rfl | (go_simp; done) | (go_simp; rfl)) (by kernel_rfl) rfl (by simp [Value.oneCell']) ?_
          have hN := setRow_heap _ (y2.heap.size) _ #[.int .i64 (Pl.sub (min a2 (min a5 a8)) 8192), .int .i64 (Pl.sub (min a3 (min a6 a9)) 8192), .int .i64 (Pl.sub (min a4 (min a7 a10)) 8192), .int .i64 (Pl.add (max a2 (max a5 a8)) 8192), .int .i64 (Pl.add (max a3 (max a6 a9)) 8192), .int .i64 (Pl.add (max a4 (max a7 a10)) 8192)] _ _ hr6_2
          have hsz := HU6.out.size
          have HUx := below_setRow (g := y2.heap.size) HU6.out (by first | omega | (simp at *; omega)) #[.int .i64 (Pl.sub (min a2 (min a5 a8)) 8192), .int .i64 (Pl.sub (min a3 (min a6 a9)) 8192), .int .i64 (Pl.sub (min a4 (min a7 a10)) 8192), .int .i64 (Pl.add (max a2 (max a5 a8)) 8192), .int .i64 (Pl.add (max a3 (max a6 a9)) 8192), .int .i64 (Pl.add (max a4 (max a7 a10)) 8192)]
          obtain ⟨y7, hy7⟩ : ∃ y, y6.setRow (y2.heap.size) #[.int .i64 (Pl.sub (min a2 (min a5 a8)) 8192), .int .i64 (Pl.sub (min a3 (min a6 a9)) 8192), .int .i64 (Pl.sub (min a4 (min a7 a10)) 8192), .int .i64 (Pl.add (max a2 (max a5 a8)) 8192), .int .i64 (Pl.add (max a3 (max a6 a9)) 8192), .int .i64 (Pl.add (max a4 (max a7 a10)) 8192)] = y := ⟨_, rfl⟩
          have hO : ∀ k, k ≠ y2.heap.size → y7.heap[k]? = y6.heap[k]? := fun k hk => by rw [← hy7]; exact setRow_other _ _ _ _ hk
          rw [hy7] at hN HUx ⊢
          clear hy7
          have HU7 := Lib.hid HUx
          clear HUx
          have hr7_0 := (hO _ (by omega)).trans hr6_0
          have hr7_1 := (hO _ (by omega)).trans hr6_1
          have hr7_2 := hN
          have hr7_3 := (hO _ (by omega)).trans hr6_3
          clear hN
          refine hK.out _ _ ((hO _ (by omega)).trans hS6a) (fun hS7s => ?_)
          clear hK K
          refine wpAnyH_ready (rs := [9]) (by kernel_rfl) (by simp) ?_
          refine AllReadyH.cons rfl (fun K hK => ?_) AllReadyH.nil
          refine step_store_row rfl 67 (.tmp 4) (.tmp 15) rfl #[.int .i64 0, .int .i64 0, .int .i64 0, .int .i64 0, .int .i64 0, .int .i64 0] #[.int .i64 (Pl.sub (min a14 (min a17 a20)) 8192), .int .i64 (Pl.sub (min a15 (min a18 a21)) 8192), .int .i64 (Pl.sub (min a16 (min a19 a22)) 8192), .int .i64 (Pl.add (max a14 (max a17 a20)) 8192), .int .i64 (Pl.add (max a15 (max a18 a21)) 8192), .int .i64 (Pl.add (max a16 (max a19 a22)) 8192)] _ 67 hr7_3 rfl (by first | rfl | (go_simp; done) | (go_simp; rfl)) (by kernel_rfl) rfl (by simp [Value.oneCell']) ?_
          have hN := setRow_heap _ (y5.heap.size) _ #[.int .i64 (Pl.sub (min a14 (min a17 a20)) 8192), .int .i64 (Pl.sub (min a15 (min a18 a21)) 8192), .int .i64 (Pl.sub (min a16 (min a19 a22)) 8192), .int .i64 (Pl.add (max a14 (max a17 a20)) 8192), .int .i64 (Pl.add (max a15 (max a18 a21)) 8192), .int .i64 (Pl.add (max a16 (max a19 a22)) 8192)] _ _ hr7_3
          have hsz := HU7.out.size
          have HUx := below_setRow (g := y5.heap.size) HU7.out (by first | omega | (simp at *; omega)) #[.int .i64 (Pl.sub (min a14 (min a17 a20)) 8192), .int .i64 (Pl.sub (min a15 (min a18 a21)) 8192), .int .i64 (Pl.sub (min a16 (min a19 a22)) 8192), .int .i64 (Pl.add (max a14 (max a17 a20)) 8192), .int .i64 (Pl.add (max a15 (max a18 a21)) 8192), .int .i64 (Pl.add (max a16 (max a19 a22)) 8192)]
          obtain ⟨y8, hy8⟩ : ∃ y, y7.setRow (y5.heap.size) #[.int .i64 (Pl.sub (min a14 (min a17 a20)) 8192), .int .i64 (Pl.sub (min a15 (min a18 a21)) 8192), .int .i64 (Pl.sub (min a16 (min a19 a22)) 8192), .int .i64 (Pl.add (max a14 (max a17 a20)) 8192), .int .i64 (Pl.add (max a15 (max a18 a21)) 8192), .int .i64 (Pl.add (max a16 (max a19 a22)) 8192)] = y := ⟨_, rfl⟩
          have hO : ∀ k, k ≠ y5.heap.size → y8.heap[k]? = y7.heap[k]? := fun k hk => by rw [← hy8]; exact setRow_other _ _ _ _ hk
          rw [hy8] at hN HUx ⊢
          clear hy8
          have HU8 := Lib.hid HUx
          clear HUx
          have hr8_0 := (hO _ (by omega)).trans hr7_0
          have hr8_1 := (hO _ (by omega)).trans hr7_1
          have hr8_2 := (hO _ (by omega)).trans hr7_2
          have hr8_3 := hN
          clear hN
          refine hK.out _ _ ((hO _ (by omega)).trans hS7s) (fun hS8s => ?_)
          clear hK K
          refine wpAnyH_done (by kernel_rfl) ?_ _
          go_wp2_with fail
          go_meet
          exact ⟨_, _, rfl, rfl, by omega, by omega, hr8_2, hr8_3, hr8_0, hr8_1, HU8⟩
        · skip
          go_simp
          have hb5 := below_n1 y4 (.cells #[.int .i64 0, .int .i64 0, .int .i64 0, .int .i64 0, .int .i64 0, .int .i64 0] 67)
          have hN := heap_alloc_last y4 (.cells #[.int .i64 0, .int .i64 0, .int .i64 0, .int .i64 0, .int .i64 0, .int .i64 0] 67)
          obtain ⟨y5, hy5⟩ : ∃ y, y4.alloc (.cells #[.int .i64 0, .int .i64 0, .int .i64 0, .int .i64 0, .int .i64 0, .int .i64 0] 67) = y := ⟨_, rfl⟩
          rw [hy5] at hb5 hN ⊢
          clear hy5
          have hl5_0 := lt_heap hr4_0
          have hr5_0 := (hb5.block _ (lt_heap hr4_0)).trans hr4_0
          have hl5_1 := lt_heap hr4_1
          have hr5_1 := (hb5.block _ (lt_heap hr4_1)).trans hr4_1
          have hl5_2 := lt_heap hr4_2
          have hr5_2 := (hb5.block _ (lt_heap hr4_2)).trans hr4_2
          have hr5_3 := hN
          clear hN
          have HU5 := Lib.hid (HU4.out.trans (hb5.mono HU4.out.size))
          refine hK.out _ _ ((hb5.block _ (lt_heap hS4c)).trans hS4c) (fun hS5a => ?_)
          clear hK K
          refine wpAnyH_ready (rs := [5]) (by kernel_rfl) (by simp) ?_
          refine AllReadyH.cons rfl (fun K hK => ?_) AllReadyH.nil
          go_simp
          go_wp2_with (go_at_call 73; refine (raround_faceR _ _ _ _ _ _ _ _ _ _ _ _ hk _).mono ?_; rintro e y6 ⟨rfl, hb6⟩)
          have hr6_0 := (hb6.block _ (lt_heap hr5_0)).trans hr5_0
          have hr6_1 := (hb6.block _ (lt_heap hr5_1)).trans hr5_1
          have hr6_2 := (hb6.block _ (lt_heap hr5_2)).trans hr5_2
          have hr6_3 := (hb6.block _ (lt_heap hr5_3)).trans hr5_3
          have HU6 := Lib.hid (HU5.out.trans (hb6.mono HU5.out.size))
          refine hK.out _ _ ((hb6.block _ (lt_heap hS5a)).trans hS5a) (fun hS6c => ?_)
          clear hK K
          refine wpAnyH_ready (rs := [8]) (by kernel_rfl) (by simp) ?_
          refine AllReadyH.cons rfl (fun K hK => ?_) AllReadyH.nil
          refine step_store_row rfl 67 (.tmp 3) (.tmp 12) rfl #[.int .i64 0, .int .i64 0, .int .i64 0, .int .i64 0, .int .i64 0, .int .i64 0] #[.int .i64 (Pl.sub (min a2 (min a5 a8)) 8192), .int .i64 (Pl.sub (min a3 (min a6 a9)) 8192), .int .i64 (Pl.sub (min a4 (min a7 a10)) 8192), .int .i64 (Pl.add (max a2 (max a5 a8)) 8192), .int .i64 (Pl.add (max a3 (max a6 a9)) 8192), .int .i64 (Pl.add (max a4 (max a7 a10)) 8192)] _ 67 hr6_2 rfl (by first | rfl | (go_simp; done) | (go_simp; rfl)) (by kernel_rfl) rfl (by simp [Value.oneCell']) ?_
          have hN := setRow_heap _ (y2.heap.size) _ #[.int .i64 (Pl.sub (min a2 (min a5 a8)) 8192), .int .i64 (Pl.sub (min a3 (min a6 a9)) 8192), .int .i64 (Pl.sub (min a4 (min a7 a10)) 8192), .int .i64 (Pl.add (max a2 (max a5 a8)) 8192), .int .i64 (Pl.add (max a3 (max a6 a9)) 8192), .int .i64 (Pl.add (max a4 (max a7 a10)) 8192)] _ _ hr6_2
          have hsz := HU6.out.size
          have HUx := below_setRow (g := y2.heap.size) HU6.out (by first | omega | (simp at *; omega)) #[.int .i64 (Pl.sub (min a2 (min a5 a8)) 8192), .int .i64 (Pl.sub (min a3 (min a6 a9)) 8192), .int .i64 (Pl.sub (min a4 (min a7 a10)) 8192), .int .i64 (Pl.add (max a2 (max a5 a8)) 8192), .int .i64 (Pl.add (max a3 (max a6 a9)) 8192), .int .i64 (Pl.add (max a4 (max a7 a10)) 8192)]
          obtain ⟨y7, hy7⟩ : ∃ y, y6.setRow (y2.heap.size) #[.int .i64 (Pl.sub (min a2 (min a5 a8)) 8192), .int .i64 (Pl.sub (min a3 (min a6 a9)) 8192), .int .i64 (Pl.sub (min a4 (min a7 a10)) 8192), .int .i64 (Pl.add (max a2 (max a5 a8)) 8192), .int .i64 (Pl.add (max a3 (max a6 a9)) 8192), .int .i64 (Pl.add (max a4 (max a7 a10)) 8192)] = y := ⟨_, rfl⟩
          have hO : ∀ k, k ≠ y2.heap.size → y7.heap[k]? = y6.heap[k]? := fun k hk => by rw [← hy7]; exact setRow_other _ _ _ _ hk
          rw [hy7] at hN HUx ⊢
          clear hy7
          have HU7 := Lib.hid HUx
          clear HUx
          have hr7_0 := (hO _ (by omega)).trans hr6_0
          have hr7_1 := (hO _ (by omega)).trans hr6_1
          have hr7_2 := hN
          have hr7_3 := (hO _ (by omega)).trans hr6_3
          clear hN
          refine hK.out _ _ ((hO _ (by omega)).trans hS6c) (fun hS7s => ?_)
          clear hK K
          refine wpAnyH_ready (rs := [9]) (by kernel_rfl) (by simp) ?_
          refine AllReadyH.cons rfl (fun K hK => ?_) AllReadyH.nil
          refine step_store_row rfl 67 (.tmp 4) (.tmp 15) rfl #[.int .i64 0, .int .i64 0, .int .i64 0, .int .i64 0, .int .i64 0, .int .i64 0] #[.int .i64 (Pl.sub (min a14 (min a17 a20)) 8192), .int .i64 (Pl.sub (min a15 (min a18 a21)) 8192), .int .i64 (Pl.sub (min a16 (min a19 a22)) 8192), .int .i64 (Pl.add (max a14 (max a17 a20)) 8192), .int .i64 (Pl.add (max a15 (max a18 a21)) 8192), .int .i64 (Pl.add (max a16 (max a19 a22)) 8192)] _ 67 hr7_3 rfl (by first | rfl | (go_simp; done) | (go_simp; rfl)) (by kernel_rfl) rfl (by simp [Value.oneCell']) ?_
          have hN := setRow_heap _ (y4.heap.size) _ #[.int .i64 (Pl.sub (min a14 (min a17 a20)) 8192), .int .i64 (Pl.sub (min a15 (min a18 a21)) 8192), .int .i64 (Pl.sub (min a16 (min a19 a22)) 8192), .int .i64 (Pl.add (max a14 (max a17 a20)) 8192), .int .i64 (Pl.add (max a15 (max a18 a21)) 8192), .int .i64 (Pl.add (max a16 (max a19 a22)) 8192)] _ _ hr7_3
          have hsz := HU7.out.size
          have HUx := below_setRow (g := y4.heap.size) HU7.out (by first | omega | (simp at *; omega)) #[.int .i64 (Pl.sub (min a14 (min a17 a20)) 8192), .int .i64 (Pl.sub (min a15 (min a18 a21)) 8192), .int .i64 (Pl.sub (min a16 (min a19 a22)) 8192), .int .i64 (Pl.add (max a14 (max a17 a20)) 8192), .int .i64 (Pl.add (max a15 (max a18 a21)) 8192), .int .i64 (Pl.add (max a16 (max a19 a22)) 8192)]
          obtain ⟨y8, hy8⟩ : ∃ y, y7.setRow (y4.heap.size) #[.int .i64 (Pl.sub (min a14 (min a17 a20)) 8192), .int .i64 (Pl.sub (min a15 (min a18 a21)) 8192), .int .i64 (Pl.sub (min a16 (min a19 a22)) 8192), .int .i64 (Pl.add (max a14 (max a17 a20)) 8192), .int .i64 (Pl.add (max a15 (max a18 a21)) 8192), .int .i64 (Pl.add (max a16 (max a19 a22)) 8192)] = y := ⟨_, rfl⟩
          have hO : ∀ k, k ≠ y4.heap.size → y8.heap[k]? = y7.heap[k]? := fun k hk => by rw [← hy8]; exact setRow_other _ _ _ _ hk
          rw [hy8] at hN HUx ⊢
          clear hy8
          have HU8 := Lib.hid HUx
          clear HUx
          have hr8_0 := (hO _ (by omega)).trans hr7_0
          have hr8_1 := (hO _ (by omega)).trans hr7_1
          have hr8_2 := (hO _ (by omega)).trans hr7_2
          have hr8_3 := hN
          clear hN
          refine hK.out _ _ ((hO _ (by omega)).trans hS7s) (fun hS8s => ?_)
          clear hK K
          refine wpAnyH_done (by kernel_rfl) ?_ _
          go_wp2_with fail
          go_meet
          exact ⟨_, _, rfl, rfl, by omega, by omega, hr8_2, hr8_3, hr8_0, hr8_1, HU8⟩
      · skip
        go_simp
        have hb4 := below_n1 y3 (.cells #[.int .i64 0, .int .i64 0, .int .i64 0, .int .i64 0, .int .i64 0, .int .i64 0] 67)
        have hN := heap_alloc_last y3 (.cells #[.int .i64 0, .int .i64 0, .int .i64 0, .int .i64 0, .int .i64 0, .int .i64 0] 67)
        obtain ⟨y4, hy4⟩ : ∃ y, y3.alloc (.cells #[.int .i64 0, .int .i64 0, .int .i64 0, .int .i64 0, .int .i64 0, .int .i64 0] 67) = y := ⟨_, rfl⟩
        rw [hy4] at hb4 hN ⊢
        clear hy4
        have hl4_0 := lt_heap hr3_0
        have hr4_0 := (hb4.block _ (lt_heap hr3_0)).trans hr3_0
        have hl4_1 := lt_heap hr3_1
        have hr4_1 := (hb4.block _ (lt_heap hr3_1)).trans hr3_1
        have hl4_2 := lt_heap hr3_2
        have hr4_2 := (hb4.block _ (lt_heap hr3_2)).trans hr3_2
        have hr4_3 := hN
        clear hN
        have HU4 := Lib.hid (HU3.out.trans (hb4.mono HU3.out.size))
        refine hK.out _ _ ((hb4.block _ (lt_heap hS3a)).trans hS3a) (fun hS4a => ?_)
        clear hK K
        refine wpAnyH_ready (rs := [2]) (by kernel_rfl) (by simp) ?_
        refine AllReadyH.cons rfl (fun K hK => ?_) AllReadyH.nil
        go_simp
        go_wp2_with (go_at_call 73; refine (raround_faceR _ _ _ _ _ _ _ _ _ _ _ _ hk _).mono ?_; rintro e y5 ⟨rfl, hb5⟩)
        have hr5_0 := (hb5.block _ (lt_heap hr4_0)).trans hr4_0
        have hr5_1 := (hb5.block _ (lt_heap hr4_1)).trans hr4_1
        have hr5_2 := (hb5.block _ (lt_heap hr4_2)).trans hr4_2
        have hr5_3 := (hb5.block _ (lt_heap hr4_3)).trans hr4_3
        have HU5 := Lib.hid (HU4.out.trans (hb5.mono HU4.out.size))
        refine hK.out _ _ ((hb5.block _ (lt_heap hS4a)).trans hS4a) (fun hS5c => ?_)
        clear hK K
        refine wpAnyH_ready (rs := [5]) (by kernel_rfl) (by simp) ?_
        refine AllReadyH.cons rfl (fun K hK => ?_) AllReadyH.nil
        go_simp
        go_wp2_with (go_at_call 73; refine (raround_faceR _ _ _ _ _ _ _ _ _ _ _ _ hk _).mono ?_; rintro e y6 ⟨rfl, hb6⟩)
        have hr6_0 := (hb6.block _ (lt_heap hr5_0)).trans hr5_0
        have hr6_1 := (hb6.block _ (lt_heap hr5_1)).trans hr5_1
        have hr6_2 := (hb6.block _ (lt_heap hr5_2)).trans hr5_2
        have hr6_3 := (hb6.block _ (lt_heap hr5_3)).trans hr5_3
        have HU6 := Lib.hid (HU5.out.trans (hb6.mono HU5.out.size))
        refine hK.out _ _ ((hb6.block _ (lt_heap hS5c)).trans hS5c) (fun hS6c => ?_)
        clear hK K
        refine wpAnyH_ready (rs := [8]) (by kernel_rfl) (by simp) ?_
        refine AllReadyH.cons rfl (fun K hK => ?_) AllReadyH.nil
        refine step_store_row rfl 67 (.tmp 3) (.tmp 12) rfl #[.int .i64 0, .int .i64 0, .int .i64 0, .int .i64 0, .int .i64 0, .int .i64 0] #[.int .i64 (Pl.sub (min a2 (min a5 a8)) 8192), .int .i64 (Pl.sub (min a3 (min a6 a9)) 8192), .int .i64 (Pl.sub (min a4 (min a7 a10)) 8192), .int .i64 (Pl.add (max a2 (max a5 a8)) 8192), .int .i64 (Pl.add (max a3 (max a6 a9)) 8192), .int .i64 (Pl.add (max a4 (max a7 a10)) 8192)] _ 67 hr6_2 rfl (by first | rfl | (go_simp; done) | (go_simp; rfl)) (by kernel_rfl) rfl (by simp [Value.oneCell']) ?_
        have hN := setRow_heap _ (y2.heap.size) _ #[.int .i64 (Pl.sub (min a2 (min a5 a8)) 8192), .int .i64 (Pl.sub (min a3 (min a6 a9)) 8192), .int .i64 (Pl.sub (min a4 (min a7 a10)) 8192), .int .i64 (Pl.add (max a2 (max a5 a8)) 8192), .int .i64 (Pl.add (max a3 (max a6 a9)) 8192), .int .i64 (Pl.add (max a4 (max a7 a10)) 8192)] _ _ hr6_2
        have hsz := HU6.out.size
        have HUx := below_setRow (g := y2.heap.size) HU6.out (by first | omega | (simp at *; omega)) #[.int .i64 (Pl.sub (min a2 (min a5 a8)) 8192), .int .i64 (Pl.sub (min a3 (min a6 a9)) 8192), .int .i64 (Pl.sub (min a4 (min a7 a10)) 8192), .int .i64 (Pl.add (max a2 (max a5 a8)) 8192), .int .i64 (Pl.add (max a3 (max a6 a9)) 8192), .int .i64 (Pl.add (max a4 (max a7 a10)) 8192)]
        obtain ⟨y7, hy7⟩ : ∃ y, y6.setRow (y2.heap.size) #[.int .i64 (Pl.sub (min a2 (min a5 a8)) 8192), .int .i64 (Pl.sub (min a3 (min a6 a9)) 8192), .int .i64 (Pl.sub (min a4 (min a7 a10)) 8192), .int .i64 (Pl.add (max a2 (max a5 a8)) 8192), .int .i64 (Pl.add (max a3 (max a6 a9)) 8192), .int .i64 (Pl.add (max a4 (max a7 a10)) 8192)] = y := ⟨_, rfl⟩
        have hO : ∀ k, k ≠ y2.heap.size → y7.heap[k]? = y6.heap[k]? := fun k hk => by rw [← hy7]; exact setRow_other _ _ _ _ hk
        rw [hy7] at hN HUx ⊢
        clear hy7
        have HU7 := Lib.hid HUx
        clear HUx
        have hr7_0 := (hO _ (by omega)).trans hr6_0
        have hr7_1 := (hO _ (by omega)).trans hr6_1
        have hr7_2 := hN
        have hr7_3 := (hO _ (by omega)).trans hr6_3
        clear hN
        refine hK.out _ _ ((hO _ (by omega)).trans hS6c) (fun hS7s => ?_)
        clear hK K
        refine wpAnyH_ready (rs := [9]) (by kernel_rfl) (by simp) ?_
        refine AllReadyH.cons rfl (fun K hK => ?_) AllReadyH.nil
        refine step_store_row rfl 67 (.tmp 4) (.tmp 15) rfl #[.int .i64 0, .int .i64 0, .int .i64 0, .int .i64 0, .int .i64 0, .int .i64 0] #[.int .i64 (Pl.sub (min a14 (min a17 a20)) 8192), .int .i64 (Pl.sub (min a15 (min a18 a21)) 8192), .int .i64 (Pl.sub (min a16 (min a19 a22)) 8192), .int .i64 (Pl.add (max a14 (max a17 a20)) 8192), .int .i64 (Pl.add (max a15 (max a18 a21)) 8192), .int .i64 (Pl.add (max a16 (max a19 a22)) 8192)] _ 67 hr7_3 rfl (by first | rfl | (go_simp; done) | (go_simp; rfl)) (by kernel_rfl) rfl (by simp [Value.oneCell']) ?_
        have hN := setRow_heap _ (y3.heap.size) _ #[.int .i64 (Pl.sub (min a14 (min a17 a20)) 8192), .int .i64 (Pl.sub (min a15 (min a18 a21)) 8192), .int .i64 (Pl.sub (min a16 (min a19 a22)) 8192), .int .i64 (Pl.add (max a14 (max a17 a20)) 8192), .int .i64 (Pl.add (max a15 (max a18 a21)) 8192), .int .i64 (Pl.add (max a16 (max a19 a22)) 8192)] _ _ hr7_3
        have hsz := HU7.out.size
        have HUx := below_setRow (g := y3.heap.size) HU7.out (by first | omega | (simp at *; omega)) #[.int .i64 (Pl.sub (min a14 (min a17 a20)) 8192), .int .i64 (Pl.sub (min a15 (min a18 a21)) 8192), .int .i64 (Pl.sub (min a16 (min a19 a22)) 8192), .int .i64 (Pl.add (max a14 (max a17 a20)) 8192), .int .i64 (Pl.add (max a15 (max a18 a21)) 8192), .int .i64 (Pl.add (max a16 (max a19 a22)) 8192)]
        obtain ⟨y8, hy8⟩ : ∃ y, y7.setRow (y3.heap.size) #[.int .i64 (Pl.sub (min a14 (min a17 a20)) 8192), .int .i64 (Pl.sub (min a15 (min a18 a21)) 8192), .int .i64 (Pl.sub (min a16 (min a19 a22)) 8192), .int .i64 (Pl.add (max a14 (max a17 a20)) 8192), .int .i64 (Pl.add (max a15 (max a18 a21)) 8192), .int .i64 (Pl.add (max a16 (max a19 a22)) 8192)] = y := ⟨_, rfl⟩
        have hO : ∀ k, k ≠ y3.heap.size → y8.heap[k]? = y7.heap[k]? := fun k hk => by rw [← hy8]; exact setRow_other _ _ _ _ hk
        rw [hy8] at hN HUx ⊢
        clear hy8
        have HU8 := Lib.hid HUx
        clear HUx
        have hr8_0 := (hO _ (by omega)).trans hr7_0
        have hr8_1 := (hO _ (by omega)).trans hr7_1
        have hr8_2 := (hO _ (by omega)).trans hr7_2
        have hr8_3 := hN
        clear hN
        refine hK.out _ _ ((hO _ (by omega)).trans hS7s) (fun hS8s => ?_)
        clear hK K
        refine wpAnyH_done (by kernel_rfl) ?_ _
        go_wp2_with fail
        go_meet
        exact ⟨_, _, rfl, rfl, by omega, by omega, hr8_2, hr8_3, hr8_0, hr8_1, HU8⟩
    · skip
      go_simp
      have hb3 := below_n1 y2 (.cells #[.int .i64 0, .int .i64 0, .int .i64 0, .int .i64 0, .int .i64 0, .int .i64 0] 67)
      have hN := heap_alloc_last y2 (.cells #[.int .i64 0, .int .i64 0, .int .i64 0, .int .i64 0, .int .i64 0, .int .i64 0] 67)
      obtain ⟨y3, hy3⟩ : ∃ y, y2.alloc (.cells #[.int .i64 0, .int .i64 0, .int .i64 0, .int .i64 0, .int .i64 0, .int .i64 0] 67) = y := ⟨_, rfl⟩
      rw [hy3] at hb3 hN ⊢
      clear hy3
      have hl3_0 := lt_heap hr2_0
      have hr3_0 := (hb3.block _ (lt_heap hr2_0)).trans hr2_0
      have hl3_1 := lt_heap hr2_1
      have hr3_1 := (hb3.block _ (lt_heap hr2_1)).trans hr2_1
      have hr3_2 := hN
      clear hN
      have HU3 := Lib.hid (HU2.out.trans (hb3.mono HU2.out.size))
      refine hK.out _ _ ((hb3.block _ (lt_heap hS0)).trans hS0) (fun hS3a => ?_)
      clear hK K
      refine wpAnyH_ready (rs := [2, 6]) (by kernel_rfl) (by simp) ?_
      refine AllReadyH.cons rfl (fun K hK => ?_) (AllReadyH.cons rfl (fun K hK => ?_) AllReadyH.nil)
      · skip
        go_simp
        go_wp2_with (go_at_call 73; refine (raround_faceR _ _ _ _ _ _ _ _ _ _ _ _ hk _).mono ?_; rintro e y4 ⟨rfl, hb4⟩)
        have hr4_0 := (hb4.block _ (lt_heap hr3_0)).trans hr3_0
        have hr4_1 := (hb4.block _ (lt_heap hr3_1)).trans hr3_1
        have hr4_2 := (hb4.block _ (lt_heap hr3_2)).trans hr3_2
        have HU4 := Lib.hid (HU3.out.trans (hb4.mono HU3.out.size))
        refine hK.out _ _ ((hb4.block _ (lt_heap hS3a)).trans hS3a) (fun hS4c => ?_)
        clear hK K
        refine wpAnyH_ready (rs := [5, 6]) (by kernel_rfl) (by simp) ?_
        refine AllReadyH.cons rfl (fun K hK => ?_) (AllReadyH.cons rfl (fun K hK => ?_) AllReadyH.nil)
        · skip
          go_simp
          go_wp2_with (go_at_call 73; refine (raround_faceR _ _ _ _ _ _ _ _ _ _ _ _ hk _).mono ?_; rintro e y5 ⟨rfl, hb5⟩)
          have hr5_0 := (hb5.block _ (lt_heap hr4_0)).trans hr4_0
          have hr5_1 := (hb5.block _ (lt_heap hr4_1)).trans hr4_1
          have hr5_2 := (hb5.block _ (lt_heap hr4_2)).trans hr4_2
          have HU5 := Lib.hid (HU4.out.trans (hb5.mono HU4.out.size))
          refine hK.out _ _ ((hb5.block _ (lt_heap hS4c)).trans hS4c) (fun hS5c => ?_)
          clear hK K
          refine wpAnyH_ready (rs := [6]) (by kernel_rfl) (by simp) ?_
          refine AllReadyH.cons rfl (fun K hK => ?_) AllReadyH.nil
          go_simp
          have hb6 := below_n1 y5 (.cells #[.int .i64 0, .int .i64 0, .int .i64 0, .int .i64 0, .int .i64 0, .int .i64 0] 67)
          have hN := heap_alloc_last y5 (.cells #[.int .i64 0, .int .i64 0, .int .i64 0, .int .i64 0, .int .i64 0, .int .i64 0] 67)
          obtain ⟨y6, hy6⟩ : ∃ y, y5.alloc (.cells #[.int .i64 0, .int .i64 0, .int .i64 0, .int .i64 0, .int .i64 0, .int .i64 0] 67) = y := ⟨_, rfl⟩
          rw [hy6] at hb6 hN ⊢
          clear hy6
          have hl6_0 := lt_heap hr5_0
          have hr6_0 := (hb6.block _ (lt_heap hr5_0)).trans hr5_0
          have hl6_1 := lt_heap hr5_1
          have hr6_1 := (hb6.block _ (lt_heap hr5_1)).trans hr5_1
          have hl6_2 := lt_heap hr5_2
          have hr6_2 := (hb6.block _ (lt_heap hr5_2)).trans hr5_2
          have hr6_3 := hN
          clear hN
          have HU6 := Lib.hid (HU5.out.trans (hb6.mono HU5.out.size))
          refine hK.out _ _ ((hb6.block _ (lt_heap hS5c)).trans hS5c) (fun hS6a => ?_)
          clear hK K
          refine wpAnyH_ready (rs := [8]) (by kernel_rfl) (by simp) ?_
          refine AllReadyH.cons rfl (fun K hK => ?_) AllReadyH.nil
          refine step_store_row rfl 67 (.tmp 3) (.tmp 12) rfl #[.int .i64 0, .int .i64 0, .int .i64 0, .int .i64 0, .int .i64 0, .int .i64 0] #[.int .i64 (Pl.sub (min a2 (min a5 a8)) 8192), .int .i64 (Pl.sub (min a3 (min a6 a9)) 8192), .int .i64 (Pl.sub (min a4 (min a7 a10)) 8192), .int .i64 (Pl.add (max a2 (max a5 a8)) 8192), .int .i64 (Pl.add (max a3 (max a6 a9)) 8192), .int .i64 (Pl.add (max a4 (max a7 a10)) 8192)] _ 67 hr6_3 rfl (by first | rfl | (go_simp; done) | (go_simp; rfl)) (by kernel_rfl) rfl (by simp [Value.oneCell']) ?_
          have hN := setRow_heap _ (y5.heap.size) _ #[.int .i64 (Pl.sub (min a2 (min a5 a8)) 8192), .int .i64 (Pl.sub (min a3 (min a6 a9)) 8192), .int .i64 (Pl.sub (min a4 (min a7 a10)) 8192), .int .i64 (Pl.add (max a2 (max a5 a8)) 8192), .int .i64 (Pl.add (max a3 (max a6 a9)) 8192), .int .i64 (Pl.add (max a4 (max a7 a10)) 8192)] _ _ hr6_3
          have hsz := HU6.out.size
          have HUx := below_setRow (g := y5.heap.size) HU6.out (by first | omega | (simp at *; omega)) #[.int .i64 (Pl.sub (min a2 (min a5 a8)) 8192), .int .i64 (Pl.sub (min a3 (min a6 a9)) 8192), .int .i64 (Pl.sub (min a4 (min a7 a10)) 8192), .int .i64 (Pl.add (max a2 (max a5 a8)) 8192), .int .i64 (Pl.add (max a3 (max a6 a9)) 8192), .int .i64 (Pl.add (max a4 (max a7 a10)) 8192)]
          obtain ⟨y7, hy7⟩ : ∃ y, y6.setRow (y5.heap.size) #[.int .i64 (Pl.sub (min a2 (min a5 a8)) 8192), .int .i64 (Pl.sub (min a3 (min a6 a9)) 8192), .int .i64 (Pl.sub (min a4 (min a7 a10)) 8192), .int .i64 (Pl.add (max a2 (max a5 a8)) 8192), .int .i64 (Pl.add (max a3 (max a6 a9)) 8192), .int .i64 (Pl.add (max a4 (max a7 a10)) 8192)] = y := ⟨_, rfl⟩
          have hO : ∀ k, k ≠ y5.heap.size → y7.heap[k]? = y6.heap[k]? := fun k hk => by rw [← hy7]; exact setRow_other _ _ _ _ hk
          rw [hy7] at hN HUx ⊢
          clear hy7
          have HU7 := Lib.hid HUx
          clear HUx
          have hr7_0 := (hO _ (by omega)).trans hr6_0
          have hr7_1 := (hO _ (by omega)).trans hr6_1
          have hr7_2 := (hO _ (by omega)).trans hr6_2
          have hr7_3 := hN
          clear hN
          refine hK.out _ _ ((hO _ (by omega)).trans hS6a) (fun hS7s => ?_)
          clear hK K
          refine wpAnyH_ready (rs := [9]) (by kernel_rfl) (by simp) ?_
          refine AllReadyH.cons rfl (fun K hK => ?_) AllReadyH.nil
          refine step_store_row rfl 67 (.tmp 4) (.tmp 15) rfl #[.int .i64 0, .int .i64 0, .int .i64 0, .int .i64 0, .int .i64 0, .int .i64 0] #[.int .i64 (Pl.sub (min a14 (min a17 a20)) 8192), .int .i64 (Pl.sub (min a15 (min a18 a21)) 8192), .int .i64 (Pl.sub (min a16 (min a19 a22)) 8192), .int .i64 (Pl.add (max a14 (max a17 a20)) 8192), .int .i64 (Pl.add (max a15 (max a18 a21)) 8192), .int .i64 (Pl.add (max a16 (max a19 a22)) 8192)] _ 67 hr7_2 rfl (by first | rfl | (go_simp; done) | (go_simp; rfl)) (by kernel_rfl) rfl (by simp [Value.oneCell']) ?_
          have hN := setRow_heap _ (y2.heap.size) _ #[.int .i64 (Pl.sub (min a14 (min a17 a20)) 8192), .int .i64 (Pl.sub (min a15 (min a18 a21)) 8192), .int .i64 (Pl.sub (min a16 (min a19 a22)) 8192), .int .i64 (Pl.add (max a14 (max a17 a20)) 8192), .int .i64 (Pl.add (max a15 (max a18 a21)) 8192), .int .i64 (Pl.add (max a16 (max a19 a22)) 8192)] _ _ hr7_2
          have hsz := HU7.out.size
          have HUx := below_setRow (g := y2.heap.size) HU7.out (by first | omega | (simp at *; omega)) #[.int .i64 (Pl.sub (min a14 (min a17 a20)) 8192), .int .i64 (Pl.sub (min a15 (min a18 a21)) 8192), .int .i64 (Pl.sub (min a16 (min a19 a22)) 8192), .int .i64 (Pl.add (max a14 (max a17 a20)) 8192), .int .i64 (Pl.add (max a15 (max a18 a21)) 8192), .int .i64 (Pl.add (max a16 (max a19 a22)) 8192)]
          obtain ⟨y8, hy8⟩ : ∃ y, y7.setRow (y2.heap.size) #[.int .i64 (Pl.sub (min a14 (min a17 a20)) 8192), .int .i64 (Pl.sub (min a15 (min a18 a21)) 8192), .int .i64 (Pl.sub (min a16 (min a19 a22)) 8192), .int .i64 (Pl.add (max a14 (max a17 a20)) 8192), .int .i64 (Pl.add (max a15 (max a18 a21)) 8192), .int .i64 (Pl.add (max a16 (max a19 a22)) 8192)] = y := ⟨_, rfl⟩
          have hO : ∀ k, k ≠ y2.heap.size → y8.heap[k]? = y7.heap[k]? := fun k hk => by rw [← hy8]; exact setRow_other _ _ _ _ hk
          rw [hy8] at hN HUx ⊢
          clear hy8
          have HU8 := Lib.hid HUx
          clear HUx
          have hr8_0 := (hO _ (by omega)).trans hr7_0
          have hr8_1 := (hO _ (by omega)).trans hr7_1
          have hr8_2 := hN
          have hr8_3 := (hO _ (by omega)).trans hr7_3
          clear hN
          refine hK.out _ _ ((hO _ (by omega)).trans hS7s) (fun hS8s => ?_)
          clear hK K
          refine wpAnyH_done (by kernel_rfl) ?_ _
          go_wp2_with fail
          go_meet
          exact ⟨_, _, rfl, rfl, by omega, by omega, hr8_3, hr8_2, hr8_0, hr8_1, HU8⟩
        · skip
          go_simp
          have hb5 := below_n1 y4 (.cells #[.int .i64 0, .int .i64 0, .int .i64 0, .int .i64 0, .int .i64 0, .int .i64 0] 67)
          have hN := heap_alloc_last y4 (.cells #[.int .i64 0, .int .i64 0, .int .i64 0, .int .i64 0, .int .i64 0, .int .i64 0] 67)
          obtain ⟨y5, hy5⟩ : ∃ y, y4.alloc (.cells #[.int .i64 0, .int .i64 0, .int .i64 0, .int .i64 0, .int .i64 0, .int .i64 0] 67) = y := ⟨_, rfl⟩
          rw [hy5] at hb5 hN ⊢
          clear hy5
          have hl5_0 := lt_heap hr4_0
          have hr5_0 := (hb5.block _ (lt_heap hr4_0)).trans hr4_0
          have hl5_1 := lt_heap hr4_1
          have hr5_1 := (hb5.block _ (lt_heap hr4_1)).trans hr4_1
          have hl5_2 := lt_heap hr4_2
          have hr5_2 := (hb5.block _ (lt_heap hr4_2)).trans hr4_2
          have hr5_3 := hN
          clear hN
          have HU5 := Lib.hid (HU4.out.trans (hb5.mono HU4.out.size))
          refine hK.out _ _ ((hb5.block _ (lt_heap hS4c)).trans hS4c) (fun hS5a => ?_)
          clear hK K
          refine wpAnyH_ready (rs := [5]) (by kernel_rfl) (by simp) ?_
          refine AllReadyH.cons rfl (fun K hK => ?_) AllReadyH.nil
          go_simp
          go_wp2_with (go_at_call 73; refine (raround_faceR _ _ _ _ _ _ _ _ _ _ _ _ hk _).mono ?_; rintro e y6 ⟨rfl, hb6⟩)
          have hr6_0 := (hb6.block _ (lt_heap hr5_0)).trans hr5_0
          have hr6_1 := (hb6.block _ (lt_heap hr5_1)).trans hr5_1
          have hr6_2 := (hb6.block _ (lt_heap hr5_2)).trans hr5_2
          have hr6_3 := (hb6.block _ (lt_heap hr5_3)).trans hr5_3
          have HU6 := Lib.hid (HU5.out.trans (hb6.mono HU5.out.size))
          refine hK.out _ _ ((hb6.block _ (lt_heap hS5a)).trans hS5a) (fun hS6c => ?_)
          clear hK K
          refine wpAnyH_ready (rs := [8]) (by kernel_rfl) (by simp) ?_
          refine AllReadyH.cons rfl (fun K hK => ?_) AllReadyH.nil
          refine step_store_row rfl 67 (.tmp 3) (.tmp 12) rfl #[.int .i64 0, .int .i64 0, .int .i64 0, .int .i64 0, .int .i64 0, .int .i64 0] #[.int .i64 (Pl.sub (min a2 (min a5 a8)) 8192), .int .i64 (Pl.sub (min a3 (min a6 a9)) 8192), .int .i64 (Pl.sub (min a4 (min a7 a10)) 8192), .int .i64 (Pl.add (max a2 (max a5 a8)) 8192), .int .i64 (Pl.add (max a3 (max a6 a9)) 8192), .int .i64 (Pl.add (max a4 (max a7 a10)) 8192)] _ 67 hr6_3 rfl (by first | rfl | (go_simp; done) | (go_simp; rfl)) (by kernel_rfl) rfl (by simp [Value.oneCell']) ?_
          have hN := setRow_heap _ (y4.heap.size) _ #[.int .i64 (Pl.sub (min a2 (min a5 a8)) 8192), .int .i64 (Pl.sub (min a3 (min a6 a9)) 8192), .int .i64 (Pl.sub (min a4 (min a7 a10)) 8192), .int .i64 (Pl.add (max a2 (max a5 a8)) 8192), .int .i64 (Pl.add (max a3 (max a6 a9)) 8192), .int .i64 (Pl.add (max a4 (max a7 a10)) 8192)] _ _ hr6_3
          have hsz := HU6.out.size
          have HUx := below_setRow (g := y4.heap.size) HU6.out (by first | omega | (simp at *; omega)) #[.int .i64 (Pl.sub (min a2 (min a5 a8)) 8192), .int .i64 (Pl.sub (min a3 (min a6 a9)) 8192), .int .i64 (Pl.sub (min a4 (min a7 a10)) 8192), .int .i64 (Pl.add (max a2 (max a5 a8)) 8192), .int .i64 (Pl.add (max a3 (max a6 a9)) 8192), .int .i64 (Pl.add (max a4 (max a7 a10)) 8192)]
          obtain ⟨y7, hy7⟩ : ∃ y, y6.setRow (y4.heap.size) #[.int .i64 (Pl.sub (min a2 (min a5 a8)) 8192), .int .i64 (Pl.sub (min a3 (min a6 a9)) 8192), .int .i64 (Pl.sub (min a4 (min a7 a10)) 8192), .int .i64 (Pl.add (max a2 (max a5 a8)) 8192), .int .i64 (Pl.add (max a3 (max a6 a9)) 8192), .int .i64 (Pl.add (max a4 (max a7 a10)) 8192)] = y := ⟨_, rfl⟩
          have hO : ∀ k, k ≠ y4.heap.size → y7.heap[k]? = y6.heap[k]? := fun k hk => by rw [← hy7]; exact setRow_other _ _ _ _ hk
          rw [hy7] at hN HUx ⊢
          clear hy7
          have HU7 := Lib.hid HUx
          clear HUx
          have hr7_0 := (hO _ (by omega)).trans hr6_0
          have hr7_1 := (hO _ (by omega)).trans hr6_1
          have hr7_2 := (hO _ (by omega)).trans hr6_2
          have hr7_3 := hN
          clear hN
          refine hK.out _ _ ((hO _ (by omega)).trans hS6c) (fun hS7s => ?_)
          clear hK K
          refine wpAnyH_ready (rs := [9]) (by kernel_rfl) (by simp) ?_
          refine AllReadyH.cons rfl (fun K hK => ?_) AllReadyH.nil
          refine step_store_row rfl 67 (.tmp 4) (.tmp 15) rfl #[.int .i64 0, .int .i64 0, .int .i64 0, .int .i64 0, .int .i64 0, .int .i64 0] #[.int .i64 (Pl.sub (min a14 (min a17 a20)) 8192), .int .i64 (Pl.sub (min a15 (min a18 a21)) 8192), .int .i64 (Pl.sub (min a16 (min a19 a22)) 8192), .int .i64 (Pl.add (max a14 (max a17 a20)) 8192), .int .i64 (Pl.add (max a15 (max a18 a21)) 8192), .int .i64 (Pl.add (max a16 (max a19 a22)) 8192)] _ 67 hr7_2 rfl (by first | rfl | (go_simp; done) | (go_simp; rfl)) (by kernel_rfl) rfl (by simp [Value.oneCell']) ?_
          have hN := setRow_heap _ (y2.heap.size) _ #[.int .i64 (Pl.sub (min a14 (min a17 a20)) 8192), .int .i64 (Pl.sub (min a15 (min a18 a21)) 8192), .int .i64 (Pl.sub (min a16 (min a19 a22)) 8192), .int .i64 (Pl.add (max a14 (max a17 a20)) 8192), .int .i64 (Pl.add (max a15 (max a18 a21)) 8192), .int .i64 (Pl.add (max a16 (max a19 a22)) 8192)] _ _ hr7_2
          have hsz := HU7.out.size
          have HUx := below_setRow (g := y2.heap.size) HU7.out (by first | omega | (simp at *; omega)) #[.int .i64 (Pl.sub (min a14 (min a17 a20)) 8192), .int .i64 (Pl.sub (min a15 (min a18 a21)) 8192), .int .i64 (Pl.sub (min a16 (min a19 a22)) 8192), .int .i64 (Pl.add (max a14 (max a17 a20)) 8192), .int .i64 (Pl.add (max a15 (max a18 a21)) 8192), .int .i64 (Pl.add (max a16 (max a19 a22)) 8192)]
          obtain ⟨y8, hy8⟩ : ∃ y, y7.setRow (y2.heap.size) #[.int .i64 (Pl.sub (min a14 (min a17 a20)) 8192), .int .i64 (Pl.sub (min a15 (min a18 a21)) 8192), .int .i64 (Pl.sub (min a16 (min a19 a22)) 8192), .int .i64 (Pl.add (max a14 (max a17 a20)) 8192), .int .i64 (Pl.add (max a15 (max a18 a21)) 8192), .int .i64 (Pl.add (max a16 (max a19 a22)) 8192)] = y := ⟨_, rfl⟩
          have hO : ∀ k, k ≠ y2.heap.size → y8.heap[k]? = y7.heap[k]? := fun k hk => by rw [← hy8]; exact setRow_other _ _ _ _ hk
          rw [hy8] at hN HUx ⊢
          clear hy8
          have HU8 := Lib.hid HUx
          clear HUx
          have hr8_0 := (hO _ (by omega)).trans hr7_0
          have hr8_1 := (hO _ (by omega)).trans hr7_1
          have hr8_2 := hN
          have hr8_3 := (hO _ (by omega)).trans hr7_3
          clear hN
          refine hK.out _ _ ((hO _ (by omega)).trans hS7s) (fun hS8s => ?_)
          clear hK K
          refine wpAnyH_done (by kernel_rfl) ?_ _
          go_wp2_with fail
          go_meet
          exact ⟨_, _, rfl, rfl, by omega, by omega, hr8_3, hr8_2, hr8_0, hr8_1, HU8⟩
      · skip
        go_simp
        have hb4 := below_n1 y3 (.cells #[.int .i64 0, .int .i64 0, .int .i64 0, .int .i64 0, .int .i64 0, .int .i64 0] 67)
        have hN := heap_alloc_last y3 (.cells #[.int .i64 0, .int .i64 0, .int .i64 0, .int .i64 0, .int .i64 0, .int .i64 0] 67)
        obtain ⟨y4, hy4⟩ : ∃ y, y3.alloc (.cells #[.int .i64 0, .int .i64 0, .int .i64 0, .int .i64 0, .int .i64 0, .int .i64 0] 67) = y := ⟨_, rfl⟩
        rw [hy4] at hb4 hN ⊢
        clear hy4
        have hl4_0 := lt_heap hr3_0
        have hr4_0 := (hb4.block _ (lt_heap hr3_0)).trans hr3_0
        have hl4_1 := lt_heap hr3_1
        have hr4_1 := (hb4.block _ (lt_heap hr3_1)).trans hr3_1
        have hl4_2 := lt_heap hr3_2
        have hr4_2 := (hb4.block _ (lt_heap hr3_2)).trans hr3_2
        have hr4_3 := hN
        clear hN
        have HU4 := Lib.hid (HU3.out.trans (hb4.mono HU3.out.size))
        refine hK.out _ _ ((hb4.block _ (lt_heap hS3a)).trans hS3a) (fun hS4a => ?_)
        clear hK K
        refine wpAnyH_ready (rs := [2]) (by kernel_rfl) (by simp) ?_
        refine AllReadyH.cons rfl (fun K hK => ?_) AllReadyH.nil
        go_simp
        go_wp2_with (go_at_call 73; refine (raround_faceR _ _ _ _ _ _ _ _ _ _ _ _ hk _).mono ?_; rintro e y5 ⟨rfl, hb5⟩)
        have hr5_0 := (hb5.block _ (lt_heap hr4_0)).trans hr4_0
        have hr5_1 := (hb5.block _ (lt_heap hr4_1)).trans hr4_1
        have hr5_2 := (hb5.block _ (lt_heap hr4_2)).trans hr4_2
        have hr5_3 := (hb5.block _ (lt_heap hr4_3)).trans hr4_3
        have HU5 := Lib.hid (HU4.out.trans (hb5.mono HU4.out.size))
        refine hK.out _ _ ((hb5.block _ (lt_heap hS4a)).trans hS4a) (fun hS5c => ?_)
        clear hK K
        refine wpAnyH_ready (rs := [5]) (by kernel_rfl) (by simp) ?_
        refine AllReadyH.cons rfl (fun K hK => ?_) AllReadyH.nil
        go_simp
        go_wp2_with (go_at_call 73; refine (raround_faceR _ _ _ _ _ _ _ _ _ _ _ _ hk _).mono ?_; rintro e y6 ⟨rfl, hb6⟩)
        have hr6_0 := (hb6.block _ (lt_heap hr5_0)).trans hr5_0
        have hr6_1 := (hb6.block _ (lt_heap hr5_1)).trans hr5_1
        have hr6_2 := (hb6.block _ (lt_heap hr5_2)).trans hr5_2
        have hr6_3 := (hb6.block _ (lt_heap hr5_3)).trans hr5_3
        have HU6 := Lib.hid (HU5.out.trans (hb6.mono HU5.out.size))
        refine hK.out _ _ ((hb6.block _ (lt_heap hS5c)).trans hS5c) (fun hS6c => ?_)
        clear hK K
        refine wpAnyH_ready (rs := [8]) (by kernel_rfl) (by simp) ?_
        refine AllReadyH.cons rfl (fun K hK => ?_) AllReadyH.nil
        refine step_store_row rfl 67 (.tmp 3) (.tmp 12) rfl #[.int .i64 0, .int .i64 0, .int .i64 0, .int .i64 0, .int .i64 0, .int .i64 0] #[.int .i64 (Pl.sub (min a2 (min a5 a8)) 8192), .int .i64 (Pl.sub (min a3 (min a6 a9)) 8192), .int .i64 (Pl.sub (min a4 (min a7 a10)) 8192), .int .i64 (Pl.add (max a2 (max a5 a8)) 8192), .int .i64 (Pl.add (max a3 (max a6 a9)) 8192), .int .i64 (Pl.add (max a4 (max a7 a10)) 8192)] _ 67 hr6_3 rfl (by first | rfl | (go_simp; done) | (go_simp; rfl)) (by kernel_rfl) rfl (by simp [Value.oneCell']) ?_
        have hN := setRow_heap _ (y3.heap.size) _ #[.int .i64 (Pl.sub (min a2 (min a5 a8)) 8192), .int .i64 (Pl.sub (min a3 (min a6 a9)) 8192), .int .i64 (Pl.sub (min a4 (min a7 a10)) 8192), .int .i64 (Pl.add (max a2 (max a5 a8)) 8192), .int .i64 (Pl.add (max a3 (max a6 a9)) 8192), .int .i64 (Pl.add (max a4 (max a7 a10)) 8192)] _ _ hr6_3
        have hsz := HU6.out.size
        have HUx := below_setRow (g := y3.heap.size) HU6.out (by first | omega | (simp at *; omega)) #[.int .i64 (Pl.sub (min a2 (min a5 a8)) 8192), .int .i64 (Pl.sub (min a3 (min a6 a9)) 8192), .int .i64 (Pl.sub (min a4 (min a7 a10)) 8192), .int .i64 (Pl.add (max a2 (max a5 a8)) 8192), .int .i64 (Pl.add (max a3 (max a6 a9)) 8192), .int .i64 (Pl.add (max a4 (max a7 a10)) 8192)]
        obtain ⟨y7, hy7⟩ : ∃ y, y6.setRow (y3.heap.size) #[.int .i64 (Pl.sub (min a2 (min a5 a8)) 8192), .int .i64 (Pl.sub (min a3 (min a6 a9)) 8192), .int .i64 (Pl.sub (min a4 (min a7 a10)) 8192), .int .i64 (Pl.add (max a2 (max a5 a8)) 8192), .int .i64 (Pl.add (max a3 (max a6 a9)) 8192), .int .i64 (Pl.add (max a4 (max a7 a10)) 8192)] = y := ⟨_, rfl⟩
        have hO : ∀ k, k ≠ y3.heap.size → y7.heap[k]? = y6.heap[k]? := fun k hk => by rw [← hy7]; exact setRow_other _ _ _ _ hk
        rw [hy7] at hN HUx ⊢
        clear hy7
        have HU7 := Lib.hid HUx
        clear HUx
        have hr7_0 := (hO _ (by omega)).trans hr6_0
        have hr7_1 := (hO _ (by omega)).trans hr6_1
        have hr7_2 := (hO _ (by omega)).trans hr6_2
        have hr7_3 := hN
        clear hN
        refine hK.out _ _ ((hO _ (by omega)).trans hS6c) (fun hS7s => ?_)
        clear hK K
        refine wpAnyH_ready (rs := [9]) (by kernel_rfl) (by simp) ?_
        refine AllReadyH.cons rfl (fun K hK => ?_) AllReadyH.nil
        refine step_store_row rfl 67 (.tmp 4) (.tmp 15) rfl #[.int .i64 0, .int .i64 0, .int .i64 0, .int .i64 0, .int .i64 0, .int .i64 0] #[.int .i64 (Pl.sub (min a14 (min a17 a20)) 8192), .int .i64 (Pl.sub (min a15 (min a18 a21)) 8192), .int .i64 (Pl.sub (min a16 (min a19 a22)) 8192), .int .i64 (Pl.add (max a14 (max a17 a20)) 8192), .int .i64 (Pl.add (max a15 (max a18 a21)) 8192), .int .i64 (Pl.add (max a16 (max a19 a22)) 8192)] _ 67 hr7_2 rfl (by first | rfl | (go_simp; done) | (go_simp; rfl)) (by kernel_rfl) rfl (by simp [Value.oneCell']) ?_
        have hN := setRow_heap _ (y2.heap.size) _ #[.int .i64 (Pl.sub (min a14 (min a17 a20)) 8192), .int .i64 (Pl.sub (min a15 (min a18 a21)) 8192), .int .i64 (Pl.sub (min a16 (min a19 a22)) 8192), .int .i64 (Pl.add (max a14 (max a17 a20)) 8192), .int .i64 (Pl.add (max a15 (max a18 a21)) 8192), .int .i64 (Pl.add (max a16 (max a19 a22)) 8192)] _ _ hr7_2
        have hsz := HU7.out.size
        have HUx := below_setRow (g := y2.heap.size) HU7.out (by first | omega | (simp at *; omega)) #[.int .i64 (Pl.sub (min a14 (min a17 a20)) 8192), .int .i64 (Pl.sub (min a15 (min a18 a21)) 8192), .int .i64 (Pl.sub (min a16 (min a19 a22)) 8192), .int .i64 (Pl.add (max a14 (max a17 a20)) 8192), .int .i64 (Pl.add (max a15 (max a18 a21)) 8192), .int .i64 (Pl.add (max a16 (max a19 a22)) 8192)]
        obtain ⟨y8, hy8⟩ : ∃ y, y7.setRow (y2.heap.size) #[.int .i64 (Pl.sub (min a14 (min a17 a20)) 8192), .int .i64 (Pl.sub (min a15 (min a18 a21)) 8192), .int .i64 (Pl.sub (min a16 (min a19 a22)) 8192), .int .i64 (Pl.add (max a14 (max a17 a20)) 8192), .int .i64 (Pl.add (max a15 (max a18 a21)) 8192), .int .i64 (Pl.add (max a16 (max a19 a22)) 8192)] = y := ⟨_, rfl⟩
        have hO : ∀ k, k ≠ y2.heap.size → y8.heap[k]? = y7.heap[k]? := fun k hk => by rw [← hy8]; exact setRow_other _ _ _ _ hk
        rw [hy8] at hN HUx ⊢
        clear hy8
        have HU8 := Lib.hid HUx
        clear HUx
        have hr8_0 := (hO _ (by omega)).trans hr7_0
        have hr8_1 := (hO _ (by omega)).trans hr7_1
        have hr8_2 := hN
        have hr8_3 := (hO _ (by omega)).trans hr7_3
        clear hN
        refine hK.out _ _ ((hO _ (by omega)).trans hS7s) (fun hS8s => ?_)
        clear hK K
        refine wpAnyH_done (by kernel_rfl) ?_ _
        go_wp2_with fail
        go_meet
        exact ⟨_, _, rfl, rfl, by omega, by omega, hr8_3, hr8_2, hr8_0, hr8_1, HU8⟩
  case rest =>
    obtain ⟨p, q, rfl, rfl, hgp, hgq, hr5_2, hr5_3, hr5_0, hr5_1, HU5⟩ := hcut
    rename World => y5
    obtain ⟨v0, hv0⟩ : ∃ v, (ends6 (Pl.sub (min a2 (min a5 a8)) 8192) (Pl.sub (min a3 (min a6 a9)) 8192) (Pl.sub (min a4 (min a7 a10)) 8192) (Pl.add (max a2 (max a5 a8)) 8192) (Pl.add (max a3 (max a6 a9)) 8192) (Pl.add (max a4 (max a7 a10)) 8192)) = v := ⟨_, rfl⟩
    obtain ⟨v1, hv1⟩ : ∃ v, (ends6 (Pl.sub (min a14 (min a17 a20)) 8192) (Pl.sub (min a15 (min a18 a21)) 8192) (Pl.sub (min a16 (min a19 a22)) 8192) (Pl.add (max a14 (max a17 a20)) 8192) (Pl.add (max a15 (max a18 a21)) 8192) (Pl.add (max a16 (max a19 a22)) 8192)) = v := ⟨_, rfl⟩
    obtain ⟨v2, hv2⟩ : ∃ v, (decide (Pl.add a11 8192 = 2147483648)) = v := ⟨_, rfl⟩
    obtain ⟨v3, hv3⟩ : ∃ v, (decide (Pl.add a23 8192 = 2147483648)) = v := ⟨_, rfl⟩
    have hb2 : (Pl.add a11 8192 == 2147483648) = v2 := hv2
    have hb3 : (Pl.add a23 8192 == 2147483648) = v3 := hv3
    cases v0
    · skip
      cases v1
      · skip
        cases v2
        · skip
          cases v3
          · skip
            have c0_0 := cell_of_row _ _ 0 _ _ _ hr5_0
            have c0_1 := cell_of_row _ _ 1 _ _ _ hr5_0
            have c0_2 := cell_of_row _ _ 2 _ _ _ hr5_0
            have c0_3 := cell_of_row _ _ 3 _ _ _ hr5_0
            have c0_4 := cell_of_row _ _ 4 _ _ _ hr5_0
            have c0_5 := cell_of_row _ _ 5 _ _ _ hr5_0
            have c0_6 := cell_of_row _ _ 6 _ _ _ hr5_0
            have c0_7 := cell_of_row _ _ 7 _ _ _ hr5_0
            have c0_8 := cell_of_row _ _ 8 _ _ _ hr5_0
            have c0_9 := cell_of_row _ _ 9 _ _ _ hr5_0
            have c0_10 := cell_of_row _ _ 10 _ _ _ hr5_0
            have c0_11 := cell_of_row _ _ 11 _ _ _ hr5_0
            have c0_12 := cell_of_row _ _ 12 _ _ _ hr5_0
            have c0_13 := cell_of_row _ _ 13 _ _ _ hr5_0
            have c0_14 := cell_of_row _ _ 14 _ _ _ hr5_0
            have c0_15 := cell_of_row _ _ 15 _ _ _ hr5_0
            have c0_16 := cell_of_row _ _ 16 _ _ _ hr5_0
            have c0_17 := cell_of_row _ _ 17 _ _ _ hr5_0
            have c0_18 := cell_of_row _ _ 18 _ _ _ hr5_0
            have c0_19 := cell_of_row _ _ 19 _ _ _ hr5_0
            have c0_20 := cell_of_row _ _ 20 _ _ _ hr5_0
            have c0_21 := cell_of_row _ _ 21 _ _ _ hr5_0
            have c0_22 := cell_of_row _ _ 22 _ _ _ hr5_0
            have c0_23 := cell_of_row _ _ 23 _ _ _ hr5_0
            have c1_0 := cell_of_row _ _ 0 _ _ _ hr5_1
            have c1_1 := cell_of_row _ _ 1 _ _ _ hr5_1
            have c1_2 := cell_of_row _ _ 2 _ _ _ hr5_1
            have c1_3 := cell_of_row _ _ 3 _ _ _ hr5_1
            have c1_4 := cell_of_row _ _ 4 _ _ _ hr5_1
            have c1_5 := cell_of_row _ _ 5 _ _ _ hr5_1
            have c1_6 := cell_of_row _ _ 6 _ _ _ hr5_1
            have c1_7 := cell_of_row _ _ 7 _ _ _ hr5_1
            have c1_8 := cell_of_row _ _ 8 _ _ _ hr5_1
            have c1_9 := cell_of_row _ _ 9 _ _ _ hr5_1
            have c1_10 := cell_of_row _ _ 10 _ _ _ hr5_1
            have c1_11 := cell_of_row _ _ 11 _ _ _ hr5_1
            have c2_0 := cell_of_row _ _ 0 _ _ _ hr5_2
            have c2_1 := cell_of_row _ _ 1 _ _ _ hr5_2
            have c2_2 := cell_of_row _ _ 2 _ _ _ hr5_2
            have c2_3 := cell_of_row _ _ 3 _ _ _ hr5_2
            have c2_4 := cell_of_row _ _ 4 _ _ _ hr5_2
            have c2_5 := cell_of_row _ _ 5 _ _ _ hr5_2
            have c3_0 := cell_of_row _ _ 0 _ _ _ hr5_3
            have c3_1 := cell_of_row _ _ 1 _ _ _ hr5_3
            have c3_2 := cell_of_row _ _ 2 _ _ _ hr5_3
            have c3_3 := cell_of_row _ _ 3 _ _ _ hr5_3
            have c3_4 := cell_of_row _ _ 4 _ _ _ hr5_3
            have c3_5 := cell_of_row _ _ 5 _ _ _ hr5_3
            simp at c0_0 c0_1 c0_2 c0_3 c0_4 c0_5 c0_6 c0_7 c0_8 c0_9 c0_10 c0_11 c0_12 c0_13 c0_14 c0_15 c0_16 c0_17 c0_18 c0_19 c0_20 c0_21 c0_22 c0_23 c1_0 c1_1 c1_2 c1_3 c1_4 c1_5 c1_6 c1_7 c1_8 c1_9 c1_10 c1_11 c2_0 c2_1 c2_2 c2_3 c2_4 c2_5 c3_0 c3_1 c3_2 c3_3 c3_4 c3_5
            go_wp2_with fail
            refine (rends_any _ _ _ _ _ _ _).mono ?_
            rintro e y6 ⟨rfl, hb6⟩
            clear c0_0 c0_1 c0_2 c0_3 c0_4 c0_5 c0_6 c0_7 c0_8 c0_9 c0_10 c0_11 c0_12 c0_13 c0_14 c0_15 c0_16 c0_17 c0_18 c0_19 c0_20 c0_21 c0_22 c0_23 c1_0 c1_1 c1_2 c1_3 c1_4 c1_5 c1_6 c1_7 c1_8 c1_9 c1_10 c1_11 c2_0 c2_1 c2_2 c2_3 c2_4 c2_5 c3_0 c3_1 c3_2 c3_3 c3_4 c3_5
            have hr6_0 := (hb6.block _ (lt_heap hr5_0)).trans hr5_0
            have hr6_1 := (hb6.block _ (lt_heap hr5_1)).trans hr5_1
            have hr6_2 := (hb6.block _ (lt_heap hr5_2)).trans hr5_2
            have hr6_3 := (hb6.block _ (lt_heap hr5_3)).trans hr5_3
            have HU6 := Lib.hid (HU5.out.trans (hb6.mono HU5.out.size))
            clear hr5_0 hr5_1 hr5_2 hr5_3 HU5
            rw [hv0]
            have c0_0 := cell_of_row _ _ 0 _ _ _ hr6_0
            have c0_1 := cell_of_row _ _ 1 _ _ _ hr6_0
            have c0_2 := cell_of_row _ _ 2 _ _ _ hr6_0
            have c0_3 := cell_of_row _ _ 3 _ _ _ hr6_0
            have c0_4 := cell_of_row _ _ 4 _ _ _ hr6_0
            have c0_5 := cell_of_row _ _ 5 _ _ _ hr6_0
            have c0_6 := cell_of_row _ _ 6 _ _ _ hr6_0
            have c0_7 := cell_of_row _ _ 7 _ _ _ hr6_0
            have c0_8 := cell_of_row _ _ 8 _ _ _ hr6_0
            have c0_9 := cell_of_row _ _ 9 _ _ _ hr6_0
            have c0_10 := cell_of_row _ _ 10 _ _ _ hr6_0
            have c0_11 := cell_of_row _ _ 11 _ _ _ hr6_0
            have c0_12 := cell_of_row _ _ 12 _ _ _ hr6_0
            have c0_13 := cell_of_row _ _ 13 _ _ _ hr6_0
            have c0_14 := cell_of_row _ _ 14 _ _ _ hr6_0
            have c0_15 := cell_of_row _ _ 15 _ _ _ hr6_0
            have c0_16 := cell_of_row _ _ 16 _ _ _ hr6_0
            have c0_17 := cell_of_row _ _ 17 _ _ _ hr6_0
            have c0_18 := cell_of_row _ _ 18 _ _ _ hr6_0
            have c0_19 := cell_of_row _ _ 19 _ _ _ hr6_0
            have c0_20 := cell_of_row _ _ 20 _ _ _ hr6_0
            have c0_21 := cell_of_row _ _ 21 _ _ _ hr6_0
            have c0_22 := cell_of_row _ _ 22 _ _ _ hr6_0
            have c0_23 := cell_of_row _ _ 23 _ _ _ hr6_0
            have c1_0 := cell_of_row _ _ 0 _ _ _ hr6_1
            have c1_1 := cell_of_row _ _ 1 _ _ _ hr6_1
            have c1_2 := cell_of_row _ _ 2 _ _ _ hr6_1
            have c1_3 := cell_of_row _ _ 3 _ _ _ hr6_1
            have c1_4 := cell_of_row _ _ 4 _ _ _ hr6_1
            have c1_5 := cell_of_row _ _ 5 _ _ _ hr6_1
            have c1_6 := cell_of_row _ _ 6 _ _ _ hr6_1
            have c1_7 := cell_of_row _ _ 7 _ _ _ hr6_1
            have c1_8 := cell_of_row _ _ 8 _ _ _ hr6_1
            have c1_9 := cell_of_row _ _ 9 _ _ _ hr6_1
            have c1_10 := cell_of_row _ _ 10 _ _ _ hr6_1
            have c1_11 := cell_of_row _ _ 11 _ _ _ hr6_1
            have c2_0 := cell_of_row _ _ 0 _ _ _ hr6_2
            have c2_1 := cell_of_row _ _ 1 _ _ _ hr6_2
            have c2_2 := cell_of_row _ _ 2 _ _ _ hr6_2
            have c2_3 := cell_of_row _ _ 3 _ _ _ hr6_2
            have c2_4 := cell_of_row _ _ 4 _ _ _ hr6_2
            have c2_5 := cell_of_row _ _ 5 _ _ _ hr6_2
            have c3_0 := cell_of_row _ _ 0 _ _ _ hr6_3
            have c3_1 := cell_of_row _ _ 1 _ _ _ hr6_3
            have c3_2 := cell_of_row _ _ 2 _ _ _ hr6_3
            have c3_3 := cell_of_row _ _ 3 _ _ _ hr6_3
            have c3_4 := cell_of_row _ _ 4 _ _ _ hr6_3
            have c3_5 := cell_of_row _ _ 5 _ _ _ hr6_3
            simp at c0_0 c0_1 c0_2 c0_3 c0_4 c0_5 c0_6 c0_7 c0_8 c0_9 c0_10 c0_11 c0_12 c0_13 c0_14 c0_15 c0_16 c0_17 c0_18 c0_19 c0_20 c0_21 c0_22 c0_23 c1_0 c1_1 c1_2 c1_3 c1_4 c1_5 c1_6 c1_7 c1_8 c1_9 c1_10 c1_11 c2_0 c2_1 c2_2 c2_3 c2_4 c2_5 c3_0 c3_1 c3_2 c3_3 c3_4 c3_5
            go_wp2_with fail
            refine (rends_any _ _ _ _ _ _ _).mono ?_
            rintro e y7 ⟨rfl, hb7⟩
            clear c0_0 c0_1 c0_2 c0_3 c0_4 c0_5 c0_6 c0_7 c0_8 c0_9 c0_10 c0_11 c0_12 c0_13 c0_14 c0_15 c0_16 c0_17 c0_18 c0_19 c0_20 c0_21 c0_22 c0_23 c1_0 c1_1 c1_2 c1_3 c1_4 c1_5 c1_6 c1_7 c1_8 c1_9 c1_10 c1_11 c2_0 c2_1 c2_2 c2_3 c2_4 c2_5 c3_0 c3_1 c3_2 c3_3 c3_4 c3_5
            have hr7_0 := (hb7.block _ (lt_heap hr6_0)).trans hr6_0
            have hr7_1 := (hb7.block _ (lt_heap hr6_1)).trans hr6_1
            have hr7_2 := (hb7.block _ (lt_heap hr6_2)).trans hr6_2
            have hr7_3 := (hb7.block _ (lt_heap hr6_3)).trans hr6_3
            have HU7 := Lib.hid (HU6.out.trans (hb7.mono HU6.out.size))
            clear hr6_0 hr6_1 hr6_2 hr6_3 HU6
            rw [hv1]
            have c0_0 := cell_of_row _ _ 0 _ _ _ hr7_0
            have c0_1 := cell_of_row _ _ 1 _ _ _ hr7_0
            have c0_2 := cell_of_row _ _ 2 _ _ _ hr7_0
            have c0_3 := cell_of_row _ _ 3 _ _ _ hr7_0
            have c0_4 := cell_of_row _ _ 4 _ _ _ hr7_0
            have c0_5 := cell_of_row _ _ 5 _ _ _ hr7_0
            have c0_6 := cell_of_row _ _ 6 _ _ _ hr7_0
            have c0_7 := cell_of_row _ _ 7 _ _ _ hr7_0
            have c0_8 := cell_of_row _ _ 8 _ _ _ hr7_0
            have c0_9 := cell_of_row _ _ 9 _ _ _ hr7_0
            have c0_10 := cell_of_row _ _ 10 _ _ _ hr7_0
            have c0_11 := cell_of_row _ _ 11 _ _ _ hr7_0
            have c0_12 := cell_of_row _ _ 12 _ _ _ hr7_0
            have c0_13 := cell_of_row _ _ 13 _ _ _ hr7_0
            have c0_14 := cell_of_row _ _ 14 _ _ _ hr7_0
            have c0_15 := cell_of_row _ _ 15 _ _ _ hr7_0
            have c0_16 := cell_of_row _ _ 16 _ _ _ hr7_0
            have c0_17 := cell_of_row _ _ 17 _ _ _ hr7_0
            have c0_18 := cell_of_row _ _ 18 _ _ _ hr7_0
            have c0_19 := cell_of_row _ _ 19 _ _ _ hr7_0
            have c0_20 := cell_of_row _ _ 20 _ _ _ hr7_0
            have c0_21 := cell_of_row _ _ 21 _ _ _ hr7_0
            have c0_22 := cell_of_row _ _ 22 _ _ _ hr7_0
            have c0_23 := cell_of_row _ _ 23 _ _ _ hr7_0
            have c1_0 := cell_of_row _ _ 0 _ _ _ hr7_1
            have c1_1 := cell_of_row _ _ 1 _ _ _ hr7_1
            have c1_2 := cell_of_row _ _ 2 _ _ _ hr7_1
            have c1_3 := cell_of_row _ _ 3 _ _ _ hr7_1
            have c1_4 := cell_of_row _ _ 4 _ _ _ hr7_1
            have c1_5 := cell_of_row _ _ 5 _ _ _ hr7_1
            have c1_6 := cell_of_row _ _ 6 _ _ _ hr7_1
            have c1_7 := cell_of_row _ _ 7 _ _ _ hr7_1
            have c1_8 := cell_of_row _ _ 8 _ _ _ hr7_1
            have c1_9 := cell_of_row _ _ 9 _ _ _ hr7_1
            have c1_10 := cell_of_row _ _ 10 _ _ _ hr7_1
            have c1_11 := cell_of_row _ _ 11 _ _ _ hr7_1
            have c2_0 := cell_of_row _ _ 0 _ _ _ hr7_2
            have c2_1 := cell_of_row _ _ 1 _ _ _ hr7_2
            have c2_2 := cell_of_row _ _ 2 _ _ _ hr7_2
            have c2_3 := cell_of_row _ _ 3 _ _ _ hr7_2
            have c2_4 := cell_of_row _ _ 4 _ _ _ hr7_2
            have c2_5 := cell_of_row _ _ 5 _ _ _ hr7_2
            have c3_0 := cell_of_row _ _ 0 _ _ _ hr7_3
            have c3_1 := cell_of_row _ _ 1 _ _ _ hr7_3
            have c3_2 := cell_of_row _ _ 2 _ _ _ hr7_3
            have c3_3 := cell_of_row _ _ 3 _ _ _ hr7_3
            have c3_4 := cell_of_row _ _ 4 _ _ _ hr7_3
            have c3_5 := cell_of_row _ _ 5 _ _ _ hr7_3
            simp at c0_0 c0_1 c0_2 c0_3 c0_4 c0_5 c0_6 c0_7 c0_8 c0_9 c0_10 c0_11 c0_12 c0_13 c0_14 c0_15 c0_16 c0_17 c0_18 c0_19 c0_20 c0_21 c0_22 c0_23 c1_0 c1_1 c1_2 c1_3 c1_4 c1_5 c1_6 c1_7 c1_8 c1_9 c1_10 c1_11 c2_0 c2_1 c2_2 c2_3 c2_4 c2_5 c3_0 c3_1 c3_2 c3_3 c3_4 c3_5
            go_wp2_with fail
            refine (refAdd_any _ _ _).mono ?_
            rintro e ww ⟨rfl, rfl⟩
            go_wp2_with fail
            refine (refAdd_any _ _ _).mono ?_
            rintro e ww ⟨rfl, rfl⟩
            clear c0_0 c0_1 c0_2 c0_3 c0_4 c0_5 c0_6 c0_7 c0_8 c0_9 c0_10 c0_11 c0_12 c0_13 c0_14 c0_15 c0_16 c0_17 c0_18 c0_19 c0_20 c0_21 c0_22 c0_23 c1_0 c1_1 c1_2 c1_3 c1_4 c1_5 c1_6 c1_7 c1_8 c1_9 c1_10 c1_11 c2_0 c2_1 c2_2 c2_3 c2_4 c2_5 c3_0 c3_1 c3_2 c3_3 c3_4 c3_5
            have c2_0 := cell_of_row _ _ 0 _ _ _ hr7_2
            have c2_1 := cell_of_row _ _ 1 _ _ _ hr7_2
            have c2_2 := cell_of_row _ _ 2 _ _ _ hr7_2
            have c2_3 := cell_of_row _ _ 3 _ _ _ hr7_2
            have c2_4 := cell_of_row _ _ 4 _ _ _ hr7_2
            have c2_5 := cell_of_row _ _ 5 _ _ _ hr7_2
            have c3_0 := cell_of_row _ _ 0 _ _ _ hr7_3
            have c3_1 := cell_of_row _ _ 1 _ _ _ hr7_3
            have c3_2 := cell_of_row _ _ 2 _ _ _ hr7_3
            have c3_3 := cell_of_row _ _ 3 _ _ _ hr7_3
            have c3_4 := cell_of_row _ _ 4 _ _ _ hr7_3
            have c3_5 := cell_of_row _ _ 5 _ _ _ hr7_3
            simp at c2_0 c2_1 c2_2 c2_3 c2_4 c2_5 c3_0 c3_1 c3_2 c3_3 c3_4 c3_5
            have hHr := Lib.hid hr7_1
            have hHi := Lib.hid (show (Try.prog.info? 69).map (·.size) = some (#[.int .i64 (Pl.sub (min a2 (min a5 a8)) 8192), .int .i64 (Pl.sub (min a3 (min a6 a9)) 8192), .int .i64 (Pl.sub (min a4 (min a7 a10)) 8192), .int .i64 (Pl.add (max a2 (max a5 a8)) 8192), .int .i64 (Pl.add (max a3 (max a6 a9)) 8192), .int .i64 (Pl.add (max a4 (max a7 a10)) 8192), .int .i64 (Pl.sub (min a14 (min a17 a20)) 8192), .int .i64 (Pl.sub (min a15 (min a18 a21)) 8192), .int .i64 (Pl.sub (min a16 (min a19 a22)) 8192), .int .i64 (Pl.add (max a14 (max a17 a20)) 8192), .int .i64 (Pl.add (max a15 (max a18 a21)) 8192), .int .i64 (Pl.add (max a16 (max a19 a22)) 8192)] : Array Value).size by kernel_rfl)
            have hHz := Lib.hid (show (#[.int .i64 0, .int .i64 0, .int .i64 0, .int .i64 0, .int .i64 0, .int .i64 0, .int .i64 0, .int .i64 0, .int .i64 0, .int .i64 0, .int .i64 0, .int .i64 0] : Array Value).size = (#[.int .i64 (Pl.sub (min a2 (min a5 a8)) 8192), .int .i64 (Pl.sub (min a3 (min a6 a9)) 8192), .int .i64 (Pl.sub (min a4 (min a7 a10)) 8192), .int .i64 (Pl.add (max a2 (max a5 a8)) 8192), .int .i64 (Pl.add (max a3 (max a6 a9)) 8192), .int .i64 (Pl.add (max a4 (max a7 a10)) 8192), .int .i64 (Pl.sub (min a14 (min a17 a20)) 8192), .int .i64 (Pl.sub (min a15 (min a18 a21)) 8192), .int .i64 (Pl.sub (min a16 (min a19 a22)) 8192), .int .i64 (Pl.add (max a14 (max a17 a20)) 8192), .int .i64 (Pl.add (max a15 (max a18 a21)) 8192), .int .i64 (Pl.add (max a16 (max a19 a22)) 8192)] : Array Value).size from rfl)
            have hHo := Lib.hid (show (#[.int .i64 (Pl.sub (min a2 (min a5 a8)) 8192), .int .i64 (Pl.sub (min a3 (min a6 a9)) 8192), .int .i64 (Pl.sub (min a4 (min a7 a10)) 8192), .int .i64 (Pl.add (max a2 (max a5 a8)) 8192), .int .i64 (Pl.add (max a3 (max a6 a9)) 8192), .int .i64 (Pl.add (max a4 (max a7 a10)) 8192), .int .i64 (Pl.sub (min a14 (min a17 a20)) 8192), .int .i64 (Pl.sub (min a15 (min a18 a21)) 8192), .int .i64 (Pl.sub (min a16 (min a19 a22)) 8192), .int .i64 (Pl.add (max a14 (max a17 a20)) 8192), .int .i64 (Pl.add (max a15 (max a18 a21)) 8192), .int .i64 (Pl.add (max a16 (max a19 a22)) 8192)] : Array Value).all (·.oneCell') = true by simp [Value.oneCell'])
            go_wp2_with (first | (refine Au.wpList_store_row rfl 69 (.tmp 2) (.tmp 41) rfl y7 #[.int .i64 0, .int .i64 0, .int .i64 0, .int .i64 0, .int .i64 0, .int .i64 0, .int .i64 0, .int .i64 0, .int .i64 0, .int .i64 0, .int .i64 0, .int .i64 0] #[.int .i64 (Pl.sub (min a2 (min a5 a8)) 8192), .int .i64 (Pl.sub (min a3 (min a6 a9)) 8192), .int .i64 (Pl.sub (min a4 (min a7 a10)) 8192), .int .i64 (Pl.add (max a2 (max a5 a8)) 8192), .int .i64 (Pl.add (max a3 (max a6 a9)) 8192), .int .i64 (Pl.add (max a4 (max a7 a10)) 8192), .int .i64 (Pl.sub (min a14 (min a17 a20)) 8192), .int .i64 (Pl.sub (min a15 (min a18 a21)) 8192), .int .i64 (Pl.sub (min a16 (min a19 a22)) 8192), .int .i64 (Pl.add (max a14 (max a17 a20)) 8192), .int .i64 (Pl.add (max a15 (max a18 a21)) 8192), .int .i64 (Pl.add (max a16 (max a19 a22)) 8192)] (w.heap.size + 1) 69 hHr.out rfl rfl hHi.out hHz.out hHo.out ?_))
            all_goals
              clear c2_0 c2_1 c2_2 c2_3 c2_4 c2_5 c3_0 c3_1 c3_2 c3_3 c3_4 c3_5
              clear hHr hHi hHz hHo
              have hN := setRow_heap _ (w.heap.size + 1) _ #[.int .i64 (Pl.sub (min a2 (min a5 a8)) 8192), .int .i64 (Pl.sub (min a3 (min a6 a9)) 8192), .int .i64 (Pl.sub (min a4 (min a7 a10)) 8192), .int .i64 (Pl.add (max a2 (max a5 a8)) 8192), .int .i64 (Pl.add (max a3 (max a6 a9)) 8192), .int .i64 (Pl.add (max a4 (max a7 a10)) 8192), .int .i64 (Pl.sub (min a14 (min a17 a20)) 8192), .int .i64 (Pl.sub (min a15 (min a18 a21)) 8192), .int .i64 (Pl.sub (min a16 (min a19 a22)) 8192), .int .i64 (Pl.add (max a14 (max a17 a20)) 8192), .int .i64 (Pl.add (max a15 (max a18 a21)) 8192), .int .i64 (Pl.add (max a16 (max a19 a22)) 8192)] _ _ hr7_1
              have hsz := HU7.out.size
              have HUx := below_setRow (g := w.heap.size + 1) HU7.out (by first | omega | (simp at *; omega)) #[.int .i64 (Pl.sub (min a2 (min a5 a8)) 8192), .int .i64 (Pl.sub (min a3 (min a6 a9)) 8192), .int .i64 (Pl.sub (min a4 (min a7 a10)) 8192), .int .i64 (Pl.add (max a2 (max a5 a8)) 8192), .int .i64 (Pl.add (max a3 (max a6 a9)) 8192), .int .i64 (Pl.add (max a4 (max a7 a10)) 8192), .int .i64 (Pl.sub (min a14 (min a17 a20)) 8192), .int .i64 (Pl.sub (min a15 (min a18 a21)) 8192), .int .i64 (Pl.sub (min a16 (min a19 a22)) 8192), .int .i64 (Pl.add (max a14 (max a17 a20)) 8192), .int .i64 (Pl.add (max a15 (max a18 a21)) 8192), .int .i64 (Pl.add (max a16 (max a19 a22)) 8192)]
              have hO : ∀ kk, kk ≠ w.heap.size + 1 → (y7.setRow (w.heap.size + 1) #[.int .i64 (Pl.sub (min a2 (min a5 a8)) 8192), .int .i64 (Pl.sub (min a3 (min a6 a9)) 8192), .int .i64 (Pl.sub (min a4 (min a7 a10)) 8192), .int .i64 (Pl.add (max a2 (max a5 a8)) 8192), .int .i64 (Pl.add (max a3 (max a6 a9)) 8192), .int .i64 (Pl.add (max a4 (max a7 a10)) 8192), .int .i64 (Pl.sub (min a14 (min a17 a20)) 8192), .int .i64 (Pl.sub (min a15 (min a18 a21)) 8192), .int .i64 (Pl.sub (min a16 (min a19 a22)) 8192), .int .i64 (Pl.add (max a14 (max a17 a20)) 8192), .int .i64 (Pl.add (max a15 (max a18 a21)) 8192), .int .i64 (Pl.add (max a16 (max a19 a22)) 8192)]).heap[kk]? = y7.heap[kk]? := fun kk hk => setRow_other _ _ _ _ hk
              obtain ⟨y8, hy8⟩ : ∃ y, y7.setRow (w.heap.size + 1) #[.int .i64 (Pl.sub (min a2 (min a5 a8)) 8192), .int .i64 (Pl.sub (min a3 (min a6 a9)) 8192), .int .i64 (Pl.sub (min a4 (min a7 a10)) 8192), .int .i64 (Pl.add (max a2 (max a5 a8)) 8192), .int .i64 (Pl.add (max a3 (max a6 a9)) 8192), .int .i64 (Pl.add (max a4 (max a7 a10)) 8192), .int .i64 (Pl.sub (min a14 (min a17 a20)) 8192), .int .i64 (Pl.sub (min a15 (min a18 a21)) 8192), .int .i64 (Pl.sub (min a16 (min a19 a22)) 8192), .int .i64 (Pl.add (max a14 (max a17 a20)) 8192), .int .i64 (Pl.add (max a15 (max a18 a21)) 8192), .int .i64 (Pl.add (max a16 (max a19 a22)) 8192)] = y := ⟨_, rfl⟩
              rw [hy8] at hN HUx hO ⊢
              clear hy8 hsz
              have HU8 := Lib.hid HUx
              clear HUx
              have hr8_0 := (hO _ (by omega)).trans hr7_0
              have hr8_1 := hN
              have hr8_2 := (hO _ (by omega)).trans hr7_2
              have hr8_3 := (hO _ (by omega)).trans hr7_3
              clear hN hO
              clear hr7_0 hr7_1 hr7_2 hr7_3 HU7
              go_wp2
              all_goals exact bodyPost_ret (v := .agg #[.int .i64 (Pl.sub (min a2 (min a5 a8)) 8192), .int .i64 (Pl.sub (min a3 (min a6 a9)) 8192), .int .i64 (Pl.sub (min a4 (min a7 a10)) 8192), .int .i64 (Pl.add (max a2 (max a5 a8)) 8192), .int .i64 (Pl.add (max a3 (max a6 a9)) 8192), .int .i64 (Pl.add (max a4 (max a7 a10)) 8192), .int .i64 (Pl.sub (min a14 (min a17 a20)) 8192), .int .i64 (Pl.sub (min a15 (min a18 a21)) 8192), .int .i64 (Pl.sub (min a16 (min a19 a22)) 8192), .int .i64 (Pl.add (max a14 (max a17 a20)) 8192), .int .i64 (Pl.add (max a15 (max a18 a21)) 8192), .int .i64 (Pl.add (max a16 (max a19 a22)) 8192)]) (results_row (t := 69) Try.results26 rfl hr8_1 Try.underlying69 rfl (by kernel_rfl)) rfl ⟨by first | rfl | simp [hv0, hv1, hv2, hv3], HU8.out⟩
          · skip
            have c0_0 := cell_of_row _ _ 0 _ _ _ hr5_0
            have c0_1 := cell_of_row _ _ 1 _ _ _ hr5_0
            have c0_2 := cell_of_row _ _ 2 _ _ _ hr5_0
            have c0_3 := cell_of_row _ _ 3 _ _ _ hr5_0
            have c0_4 := cell_of_row _ _ 4 _ _ _ hr5_0
            have c0_5 := cell_of_row _ _ 5 _ _ _ hr5_0
            have c0_6 := cell_of_row _ _ 6 _ _ _ hr5_0
            have c0_7 := cell_of_row _ _ 7 _ _ _ hr5_0
            have c0_8 := cell_of_row _ _ 8 _ _ _ hr5_0
            have c0_9 := cell_of_row _ _ 9 _ _ _ hr5_0
            have c0_10 := cell_of_row _ _ 10 _ _ _ hr5_0
            have c0_11 := cell_of_row _ _ 11 _ _ _ hr5_0
            have c0_12 := cell_of_row _ _ 12 _ _ _ hr5_0
            have c0_13 := cell_of_row _ _ 13 _ _ _ hr5_0
            have c0_14 := cell_of_row _ _ 14 _ _ _ hr5_0
            have c0_15 := cell_of_row _ _ 15 _ _ _ hr5_0
            have c0_16 := cell_of_row _ _ 16 _ _ _ hr5_0
            have c0_17 := cell_of_row _ _ 17 _ _ _ hr5_0
            have c0_18 := cell_of_row _ _ 18 _ _ _ hr5_0
            have c0_19 := cell_of_row _ _ 19 _ _ _ hr5_0
            have c0_20 := cell_of_row _ _ 20 _ _ _ hr5_0
            have c0_21 := cell_of_row _ _ 21 _ _ _ hr5_0
            have c0_22 := cell_of_row _ _ 22 _ _ _ hr5_0
            have c0_23 := cell_of_row _ _ 23 _ _ _ hr5_0
            have c1_0 := cell_of_row _ _ 0 _ _ _ hr5_1
            have c1_1 := cell_of_row _ _ 1 _ _ _ hr5_1
            have c1_2 := cell_of_row _ _ 2 _ _ _ hr5_1
            have c1_3 := cell_of_row _ _ 3 _ _ _ hr5_1
            have c1_4 := cell_of_row _ _ 4 _ _ _ hr5_1
            have c1_5 := cell_of_row _ _ 5 _ _ _ hr5_1
            have c1_6 := cell_of_row _ _ 6 _ _ _ hr5_1
            have c1_7 := cell_of_row _ _ 7 _ _ _ hr5_1
            have c1_8 := cell_of_row _ _ 8 _ _ _ hr5_1
            have c1_9 := cell_of_row _ _ 9 _ _ _ hr5_1
            have c1_10 := cell_of_row _ _ 10 _ _ _ hr5_1
            have c1_11 := cell_of_row _ _ 11 _ _ _ hr5_1
            have c2_0 := cell_of_row _ _ 0 _ _ _ hr5_2
            have c2_1 := cell_of_row _ _ 1 _ _ _ hr5_2
            have c2_2 := cell_of_row _ _ 2 _ _ _ hr5_2
            have c2_3 := cell_of_row _ _ 3 _ _ _ hr5_2
            have c2_4 := cell_of_row _ _ 4 _ _ _ hr5_2
            have c2_5 := cell_of_row _ _ 5 _ _ _ hr5_2
            have c3_0 := cell_of_row _ _ 0 _ _ _ hr5_3
            have c3_1 := cell_of_row _ _ 1 _ _ _ hr5_3
            have c3_2 := cell_of_row _ _ 2 _ _ _ hr5_3
            have c3_3 := cell_of_row _ _ 3 _ _ _ hr5_3
            have c3_4 := cell_of_row _ _ 4 _ _ _ hr5_3
            have c3_5 := cell_of_row _ _ 5 _ _ _ hr5_3
            simp at c0_0 c0_1 c0_2 c0_3 c0_4 c0_5 c0_6 c0_7 c0_8 c0_9 c0_10 c0_11 c0_12 c0_13 c0_14 c0_15 c0_16 c0_17 c0_18 c0_19 c0_20 c0_21 c0_22 c0_23 c1_0 c1_1 c1_2 c1_3 c1_4 c1_5 c1_6 c1_7 c1_8 c1_9 c1_10 c1_11 c2_0 c2_1 c2_2 c2_3 c2_4 c2_5 c3_0 c3_1 c3_2 c3_3 c3_4 c3_5
            go_wp2_with fail
            refine (rends_any _ _ _ _ _ _ _).mono ?_
            rintro e y6 ⟨rfl, hb6⟩
            clear c0_0 c0_1 c0_2 c0_3 c0_4 c0_5 c0_6 c0_7 c0_8 c0_9 c0_10 c0_11 c0_12 c0_13 c0_14 c0_15 c0_16 c0_17 c0_18 c0_19 c0_20 c0_21 c0_22 c0_23 c1_0 c1_1 c1_2 c1_3 c1_4 c1_5 c1_6 c1_7 c1_8 c1_9 c1_10 c1_11 c2_0 c2_1 c2_2 c2_3 c2_4 c2_5 c3_0 c3_1 c3_2 c3_3 c3_4 c3_5
            have hr6_0 := (hb6.block _ (lt_heap hr5_0)).trans hr5_0
            have hr6_1 := (hb6.block _ (lt_heap hr5_1)).trans hr5_1
            have hr6_2 := (hb6.block _ (lt_heap hr5_2)).trans hr5_2
            have hr6_3 := (hb6.block _ (lt_heap hr5_3)).trans hr5_3
            have HU6 := Lib.hid (HU5.out.trans (hb6.mono HU5.out.size))
            clear hr5_0 hr5_1 hr5_2 hr5_3 HU5
            rw [hv0]
            have c0_0 := cell_of_row _ _ 0 _ _ _ hr6_0
            have c0_1 := cell_of_row _ _ 1 _ _ _ hr6_0
            have c0_2 := cell_of_row _ _ 2 _ _ _ hr6_0
            have c0_3 := cell_of_row _ _ 3 _ _ _ hr6_0
            have c0_4 := cell_of_row _ _ 4 _ _ _ hr6_0
            have c0_5 := cell_of_row _ _ 5 _ _ _ hr6_0
            have c0_6 := cell_of_row _ _ 6 _ _ _ hr6_0
            have c0_7 := cell_of_row _ _ 7 _ _ _ hr6_0
            have c0_8 := cell_of_row _ _ 8 _ _ _ hr6_0
            have c0_9 := cell_of_row _ _ 9 _ _ _ hr6_0
            have c0_10 := cell_of_row _ _ 10 _ _ _ hr6_0
            have c0_11 := cell_of_row _ _ 11 _ _ _ hr6_0
            have c0_12 := cell_of_row _ _ 12 _ _ _ hr6_0
            have c0_13 := cell_of_row _ _ 13 _ _ _ hr6_0
            have c0_14 := cell_of_row _ _ 14 _ _ _ hr6_0
            have c0_15 := cell_of_row _ _ 15 _ _ _ hr6_0
            have c0_16 := cell_of_row _ _ 16 _ _ _ hr6_0
            have c0_17 := cell_of_row _ _ 17 _ _ _ hr6_0
            have c0_18 := cell_of_row _ _ 18 _ _ _ hr6_0
            have c0_19 := cell_of_row _ _ 19 _ _ _ hr6_0
            have c0_20 := cell_of_row _ _ 20 _ _ _ hr6_0
            have c0_21 := cell_of_row _ _ 21 _ _ _ hr6_0
            have c0_22 := cell_of_row _ _ 22 _ _ _ hr6_0
            have c0_23 := cell_of_row _ _ 23 _ _ _ hr6_0
            have c1_0 := cell_of_row _ _ 0 _ _ _ hr6_1
            have c1_1 := cell_of_row _ _ 1 _ _ _ hr6_1
            have c1_2 := cell_of_row _ _ 2 _ _ _ hr6_1
            have c1_3 := cell_of_row _ _ 3 _ _ _ hr6_1
            have c1_4 := cell_of_row _ _ 4 _ _ _ hr6_1
            have c1_5 := cell_of_row _ _ 5 _ _ _ hr6_1
            have c1_6 := cell_of_row _ _ 6 _ _ _ hr6_1
            have c1_7 := cell_of_row _ _ 7 _ _ _ hr6_1
            have c1_8 := cell_of_row _ _ 8 _ _ _ hr6_1
            have c1_9 := cell_of_row _ _ 9 _ _ _ hr6_1
            have c1_10 := cell_of_row _ _ 10 _ _ _ hr6_1
            have c1_11 := cell_of_row _ _ 11 _ _ _ hr6_1
            have c2_0 := cell_of_row _ _ 0 _ _ _ hr6_2
            have c2_1 := cell_of_row _ _ 1 _ _ _ hr6_2
            have c2_2 := cell_of_row _ _ 2 _ _ _ hr6_2
            have c2_3 := cell_of_row _ _ 3 _ _ _ hr6_2
            have c2_4 := cell_of_row _ _ 4 _ _ _ hr6_2
            have c2_5 := cell_of_row _ _ 5 _ _ _ hr6_2
            have c3_0 := cell_of_row _ _ 0 _ _ _ hr6_3
            have c3_1 := cell_of_row _ _ 1 _ _ _ hr6_3
            have c3_2 := cell_of_row _ _ 2 _ _ _ hr6_3
            have c3_3 := cell_of_row _ _ 3 _ _ _ hr6_3
            have c3_4 := cell_of_row _ _ 4 _ _ _ hr6_3
            have c3_5 := cell_of_row _ _ 5 _ _ _ hr6_3
            simp at c0_0 c0_1 c0_2 c0_3 c0_4 c0_5 c0_6 c0_7 c0_8 c0_9 c0_10 c0_11 c0_12 c0_13 c0_14 c0_15 c0_16 c0_17 c0_18 c0_19 c0_20 c0_21 c0_22 c0_23 c1_0 c1_1 c1_2 c1_3 c1_4 c1_5 c1_6 c1_7 c1_8 c1_9 c1_10 c1_11 c2_0 c2_1 c2_2 c2_3 c2_4 c2_5 c3_0 c3_1 c3_2 c3_3 c3_4 c3_5
            go_wp2_with fail
            refine (rends_any _ _ _ _ _ _ _).mono ?_
            rintro e y7 ⟨rfl, hb7⟩
            clear c0_0 c0_1 c0_2 c0_3 c0_4 c0_5 c0_6 c0_7 c0_8 c0_9 c0_10 c0_11 c0_12 c0_13 c0_14 c0_15 c0_16 c0_17 c0_18 c0_19 c0_20 c0_21 c0_22 c0_23 c1_0 c1_1 c1_2 c1_3 c1_4 c1_5 c1_6 c1_7 c1_8 c1_9 c1_10 c1_11 c2_0 c2_1 c2_2 c2_3 c2_4 c2_5 c3_0 c3_1 c3_2 c3_3 c3_4 c3_5
            have hr7_0 := (hb7.block _ (lt_heap hr6_0)).trans hr6_0
            have hr7_1 := (hb7.block _ (lt_heap hr6_1)).trans hr6_1
            have hr7_2 := (hb7.block _ (lt_heap hr6_2)).trans hr6_2
            have hr7_3 := (hb7.block _ (lt_heap hr6_3)).trans hr6_3
            have HU7 := Lib.hid (HU6.out.trans (hb7.mono HU6.out.size))
            clear hr6_0 hr6_1 hr6_2 hr6_3 HU6
            rw [hv1]
            have c0_0 := cell_of_row _ _ 0 _ _ _ hr7_0
            have c0_1 := cell_of_row _ _ 1 _ _ _ hr7_0
            have c0_2 := cell_of_row _ _ 2 _ _ _ hr7_0
            have c0_3 := cell_of_row _ _ 3 _ _ _ hr7_0
            have c0_4 := cell_of_row _ _ 4 _ _ _ hr7_0
            have c0_5 := cell_of_row _ _ 5 _ _ _ hr7_0
            have c0_6 := cell_of_row _ _ 6 _ _ _ hr7_0
            have c0_7 := cell_of_row _ _ 7 _ _ _ hr7_0
            have c0_8 := cell_of_row _ _ 8 _ _ _ hr7_0
            have c0_9 := cell_of_row _ _ 9 _ _ _ hr7_0
            have c0_10 := cell_of_row _ _ 10 _ _ _ hr7_0
            have c0_11 := cell_of_row _ _ 11 _ _ _ hr7_0
            have c0_12 := cell_of_row _ _ 12 _ _ _ hr7_0
            have c0_13 := cell_of_row _ _ 13 _ _ _ hr7_0
            have c0_14 := cell_of_row _ _ 14 _ _ _ hr7_0
            have c0_15 := cell_of_row _ _ 15 _ _ _ hr7_0
            have c0_16 := cell_of_row _ _ 16 _ _ _ hr7_0
            have c0_17 := cell_of_row _ _ 17 _ _ _ hr7_0
            have c0_18 := cell_of_row _ _ 18 _ _ _ hr7_0
            have c0_19 := cell_of_row _ _ 19 _ _ _ hr7_0
            have c0_20 := cell_of_row _ _ 20 _ _ _ hr7_0
            have c0_21 := cell_of_row _ _ 21 _ _ _ hr7_0
            have c0_22 := cell_of_row _ _ 22 _ _ _ hr7_0
            have c0_23 := cell_of_row _ _ 23 _ _ _ hr7_0
            have c1_0 := cell_of_row _ _ 0 _ _ _ hr7_1
            have c1_1 := cell_of_row _ _ 1 _ _ _ hr7_1
            have c1_2 := cell_of_row _ _ 2 _ _ _ hr7_1
            have c1_3 := cell_of_row _ _ 3 _ _ _ hr7_1
            have c1_4 := cell_of_row _ _ 4 _ _ _ hr7_1
            have c1_5 := cell_of_row _ _ 5 _ _ _ hr7_1
            have c1_6 := cell_of_row _ _ 6 _ _ _ hr7_1
            have c1_7 := cell_of_row _ _ 7 _ _ _ hr7_1
            have c1_8 := cell_of_row _ _ 8 _ _ _ hr7_1
            have c1_9 := cell_of_row _ _ 9 _ _ _ hr7_1
            have c1_10 := cell_of_row _ _ 10 _ _ _ hr7_1
            have c1_11 := cell_of_row _ _ 11 _ _ _ hr7_1
            have c2_0 := cell_of_row _ _ 0 _ _ _ hr7_2
            have c2_1 := cell_of_row _ _ 1 _ _ _ hr7_2
            have c2_2 := cell_of_row _ _ 2 _ _ _ hr7_2
            have c2_3 := cell_of_row _ _ 3 _ _ _ hr7_2
            have c2_4 := cell_of_row _ _ 4 _ _ _ hr7_2
            have c2_5 := cell_of_row _ _ 5 _ _ _ hr7_2
            have c3_0 := cell_of_row _ _ 0 _ _ _ hr7_3
            have c3_1 := cell_of_row _ _ 1 _ _ _ hr7_3
            have c3_2 := cell_of_row _ _ 2 _ _ _ hr7_3
            have c3_3 := cell_of_row _ _ 3 _ _ _ hr7_3
            have c3_4 := cell_of_row _ _ 4 _ _ _ hr7_3
            have c3_5 := cell_of_row _ _ 5 _ _ _ hr7_3
            simp at c0_0 c0_1 c0_2 c0_3 c0_4 c0_5 c0_6 c0_7 c0_8 c0_9 c0_10 c0_11 c0_12 c0_13 c0_14 c0_15 c0_16 c0_17 c0_18 c0_19 c0_20 c0_21 c0_22 c0_23 c1_0 c1_1 c1_2 c1_3 c1_4 c1_5 c1_6 c1_7 c1_8 c1_9 c1_10 c1_11 c2_0 c2_1 c2_2 c2_3 c2_4 c2_5 c3_0 c3_1 c3_2 c3_3 c3_4 c3_5
            go_wp2_with fail
            refine (refAdd_any _ _ _).mono ?_
            rintro e ww ⟨rfl, rfl⟩
            go_wp2_with fail
            refine (refAdd_any _ _ _).mono ?_
            rintro e ww ⟨rfl, rfl⟩
            go_wp2_with fail
            clear c0_0 c0_1 c0_2 c0_3 c0_4 c0_5 c0_6 c0_7 c0_8 c0_9 c0_10 c0_11 c0_12 c0_13 c0_14 c0_15 c0_16 c0_17 c0_18 c0_19 c0_20 c0_21 c0_22 c0_23 c1_0 c1_1 c1_2 c1_3 c1_4 c1_5 c1_6 c1_7 c1_8 c1_9 c1_10 c1_11 c2_0 c2_1 c2_2 c2_3 c2_4 c2_5 c3_0 c3_1 c3_2 c3_3 c3_4 c3_5
            refine (rall_any _).mono ?_
            rintro e y8 ⟨rfl, hb8⟩
            have hr8_0 := (hb8.block _ (lt_heap hr7_0)).trans hr7_0
            have hr8_1 := (hb8.block _ (lt_heap hr7_1)).trans hr7_1
            have hr8_2 := (hb8.block _ (lt_heap hr7_2)).trans hr7_2
            have hr8_3 := (hb8.block _ (lt_heap hr7_3)).trans hr7_3
            have HU8 := Lib.hid (HU7.out.trans (hb8.mono HU7.out.size))
            clear hr7_0 hr7_1 hr7_2 hr7_3 HU7
            go_wp2_with fail
            refine (rall_any _).mono ?_
            rintro e y9 ⟨rfl, hb9⟩
            have hr9_0 := (hb9.block _ (lt_heap hr8_0)).trans hr8_0
            have hr9_1 := (hb9.block _ (lt_heap hr8_1)).trans hr8_1
            have hr9_2 := (hb9.block _ (lt_heap hr8_2)).trans hr8_2
            have hr9_3 := (hb9.block _ (lt_heap hr8_3)).trans hr8_3
            have HU9 := Lib.hid (HU8.out.trans (hb9.mono HU8.out.size))
            clear hr8_0 hr8_1 hr8_2 hr8_3 HU8
            have hHr := Lib.hid hr9_1
            have hHi := Lib.hid (show (Try.prog.info? 69).map (·.size) = some (#[.int .i64 (-2147483648), .int .i64 (-2147483648), .int .i64 (-2147483648), .int .i64 2147483648, .int .i64 2147483648, .int .i64 2147483648, .int .i64 (-2147483648), .int .i64 (-2147483648), .int .i64 (-2147483648), .int .i64 2147483648, .int .i64 2147483648, .int .i64 2147483648] : Array Value).size by kernel_rfl)
            have hHz := Lib.hid (show (#[.int .i64 0, .int .i64 0, .int .i64 0, .int .i64 0, .int .i64 0, .int .i64 0, .int .i64 0, .int .i64 0, .int .i64 0, .int .i64 0, .int .i64 0, .int .i64 0] : Array Value).size = (#[.int .i64 (-2147483648), .int .i64 (-2147483648), .int .i64 (-2147483648), .int .i64 2147483648, .int .i64 2147483648, .int .i64 2147483648, .int .i64 (-2147483648), .int .i64 (-2147483648), .int .i64 (-2147483648), .int .i64 2147483648, .int .i64 2147483648, .int .i64 2147483648] : Array Value).size from rfl)
            have hHo := Lib.hid (show (#[.int .i64 (-2147483648), .int .i64 (-2147483648), .int .i64 (-2147483648), .int .i64 2147483648, .int .i64 2147483648, .int .i64 2147483648, .int .i64 (-2147483648), .int .i64 (-2147483648), .int .i64 (-2147483648), .int .i64 2147483648, .int .i64 2147483648, .int .i64 2147483648] : Array Value).all (·.oneCell') = true by simp [Value.oneCell'])
            go_wp2_with (first | (refine Au.wpList_store_row rfl 69 (.tmp 2) (.tmp 38) rfl y9 #[.int .i64 0, .int .i64 0, .int .i64 0, .int .i64 0, .int .i64 0, .int .i64 0, .int .i64 0, .int .i64 0, .int .i64 0, .int .i64 0, .int .i64 0, .int .i64 0] #[.int .i64 (-2147483648), .int .i64 (-2147483648), .int .i64 (-2147483648), .int .i64 2147483648, .int .i64 2147483648, .int .i64 2147483648, .int .i64 (-2147483648), .int .i64 (-2147483648), .int .i64 (-2147483648), .int .i64 2147483648, .int .i64 2147483648, .int .i64 2147483648] (w.heap.size + 1) 69 hHr.out rfl rfl hHi.out hHz.out hHo.out ?_))
            all_goals
              clear hHr hHi hHz hHo
              have hN := setRow_heap _ (w.heap.size + 1) _ #[.int .i64 (-2147483648), .int .i64 (-2147483648), .int .i64 (-2147483648), .int .i64 2147483648, .int .i64 2147483648, .int .i64 2147483648, .int .i64 (-2147483648), .int .i64 (-2147483648), .int .i64 (-2147483648), .int .i64 2147483648, .int .i64 2147483648, .int .i64 2147483648] _ _ hr9_1
              have hsz := HU9.out.size
              have HUx := below_setRow (g := w.heap.size + 1) HU9.out (by first | omega | (simp at *; omega)) #[.int .i64 (-2147483648), .int .i64 (-2147483648), .int .i64 (-2147483648), .int .i64 2147483648, .int .i64 2147483648, .int .i64 2147483648, .int .i64 (-2147483648), .int .i64 (-2147483648), .int .i64 (-2147483648), .int .i64 2147483648, .int .i64 2147483648, .int .i64 2147483648]
              have hO : ∀ kk, kk ≠ w.heap.size + 1 → (y9.setRow (w.heap.size + 1) #[.int .i64 (-2147483648), .int .i64 (-2147483648), .int .i64 (-2147483648), .int .i64 2147483648, .int .i64 2147483648, .int .i64 2147483648, .int .i64 (-2147483648), .int .i64 (-2147483648), .int .i64 (-2147483648), .int .i64 2147483648, .int .i64 2147483648, .int .i64 2147483648]).heap[kk]? = y9.heap[kk]? := fun kk hk => setRow_other _ _ _ _ hk
              obtain ⟨y10, hy10⟩ : ∃ y, y9.setRow (w.heap.size + 1) #[.int .i64 (-2147483648), .int .i64 (-2147483648), .int .i64 (-2147483648), .int .i64 2147483648, .int .i64 2147483648, .int .i64 2147483648, .int .i64 (-2147483648), .int .i64 (-2147483648), .int .i64 (-2147483648), .int .i64 2147483648, .int .i64 2147483648, .int .i64 2147483648] = y := ⟨_, rfl⟩
              rw [hy10] at hN HUx hO ⊢
              clear hy10 hsz
              have HU10 := Lib.hid HUx
              clear HUx
              have hr10_0 := (hO _ (by omega)).trans hr9_0
              have hr10_1 := hN
              have hr10_2 := (hO _ (by omega)).trans hr9_2
              have hr10_3 := (hO _ (by omega)).trans hr9_3
              clear hN hO
              clear hr9_0 hr9_1 hr9_2 hr9_3 HU9
              go_wp2
              all_goals exact bodyPost_ret (v := .agg #[.int .i64 (-2147483648), .int .i64 (-2147483648), .int .i64 (-2147483648), .int .i64 2147483648, .int .i64 2147483648, .int .i64 2147483648, .int .i64 (-2147483648), .int .i64 (-2147483648), .int .i64 (-2147483648), .int .i64 2147483648, .int .i64 2147483648, .int .i64 2147483648]) (results_row (t := 69) Try.results26 rfl hr10_1 Try.underlying69 rfl (by kernel_rfl)) rfl ⟨by first | rfl | simp [hv0, hv1, hv2, hv3], HU10.out⟩
        · skip
          have c0_0 := cell_of_row _ _ 0 _ _ _ hr5_0
          have c0_1 := cell_of_row _ _ 1 _ _ _ hr5_0
          have c0_2 := cell_of_row _ _ 2 _ _ _ hr5_0
          have c0_3 := cell_of_row _ _ 3 _ _ _ hr5_0
          have c0_4 := cell_of_row _ _ 4 _ _ _ hr5_0
          have c0_5 := cell_of_row _ _ 5 _ _ _ hr5_0
          have c0_6 := cell_of_row _ _ 6 _ _ _ hr5_0
          have c0_7 := cell_of_row _ _ 7 _ _ _ hr5_0
          have c0_8 := cell_of_row _ _ 8 _ _ _ hr5_0
          have c0_9 := cell_of_row _ _ 9 _ _ _ hr5_0
          have c0_10 := cell_of_row _ _ 10 _ _ _ hr5_0
          have c0_11 := cell_of_row _ _ 11 _ _ _ hr5_0
          have c0_12 := cell_of_row _ _ 12 _ _ _ hr5_0
          have c0_13 := cell_of_row _ _ 13 _ _ _ hr5_0
          have c0_14 := cell_of_row _ _ 14 _ _ _ hr5_0
          have c0_15 := cell_of_row _ _ 15 _ _ _ hr5_0
          have c0_16 := cell_of_row _ _ 16 _ _ _ hr5_0
          have c0_17 := cell_of_row _ _ 17 _ _ _ hr5_0
          have c0_18 := cell_of_row _ _ 18 _ _ _ hr5_0
          have c0_19 := cell_of_row _ _ 19 _ _ _ hr5_0
          have c0_20 := cell_of_row _ _ 20 _ _ _ hr5_0
          have c0_21 := cell_of_row _ _ 21 _ _ _ hr5_0
          have c0_22 := cell_of_row _ _ 22 _ _ _ hr5_0
          have c0_23 := cell_of_row _ _ 23 _ _ _ hr5_0
          have c1_0 := cell_of_row _ _ 0 _ _ _ hr5_1
          have c1_1 := cell_of_row _ _ 1 _ _ _ hr5_1
          have c1_2 := cell_of_row _ _ 2 _ _ _ hr5_1
          have c1_3 := cell_of_row _ _ 3 _ _ _ hr5_1
          have c1_4 := cell_of_row _ _ 4 _ _ _ hr5_1
          have c1_5 := cell_of_row _ _ 5 _ _ _ hr5_1
          have c1_6 := cell_of_row _ _ 6 _ _ _ hr5_1
          have c1_7 := cell_of_row _ _ 7 _ _ _ hr5_1
          have c1_8 := cell_of_row _ _ 8 _ _ _ hr5_1
          have c1_9 := cell_of_row _ _ 9 _ _ _ hr5_1
          have c1_10 := cell_of_row _ _ 10 _ _ _ hr5_1
          have c1_11 := cell_of_row _ _ 11 _ _ _ hr5_1
          have c2_0 := cell_of_row _ _ 0 _ _ _ hr5_2
          have c2_1 := cell_of_row _ _ 1 _ _ _ hr5_2
          have c2_2 := cell_of_row _ _ 2 _ _ _ hr5_2
          have c2_3 := cell_of_row _ _ 3 _ _ _ hr5_2
          have c2_4 := cell_of_row _ _ 4 _ _ _ hr5_2
          have c2_5 := cell_of_row _ _ 5 _ _ _ hr5_2
          have c3_0 := cell_of_row _ _ 0 _ _ _ hr5_3
          have c3_1 := cell_of_row _ _ 1 _ _ _ hr5_3
          have c3_2 := cell_of_row _ _ 2 _ _ _ hr5_3
          have c3_3 := cell_of_row _ _ 3 _ _ _ hr5_3
          have c3_4 := cell_of_row _ _ 4 _ _ _ hr5_3
          have c3_5 := cell_of_row _ _ 5 _ _ _ hr5_3
          simp at c0_0 c0_1 c0_2 c0_3 c0_4 c0_5 c0_6 c0_7 c0_8 c0_9 c0_10 c0_11 c0_12 c0_13 c0_14 c0_15 c0_16 c0_17 c0_18 c0_19 c0_20 c0_21 c0_22 c0_23 c1_0 c1_1 c1_2 c1_3 c1_4 c1_5 c1_6 c1_7 c1_8 c1_9 c1_10 c1_11 c2_0 c2_1 c2_2 c2_3 c2_4 c2_5 c3_0 c3_1 c3_2 c3_3 c3_4 c3_5
          go_wp2_with fail
          refine (rends_any _ _ _ _ _ _ _).mono ?_
          rintro e y6 ⟨rfl, hb6⟩
          clear c0_0 c0_1 c0_2 c0_3 c0_4 c0_5 c0_6 c0_7 c0_8 c0_9 c0_10 c0_11 c0_12 c0_13 c0_14 c0_15 c0_16 c0_17 c0_18 c0_19 c0_20 c0_21 c0_22 c0_23 c1_0 c1_1 c1_2 c1_3 c1_4 c1_5 c1_6 c1_7 c1_8 c1_9 c1_10 c1_11 c2_0 c2_1 c2_2 c2_3 c2_4 c2_5 c3_0 c3_1 c3_2 c3_3 c3_4 c3_5
          have hr6_0 := (hb6.block _ (lt_heap hr5_0)).trans hr5_0
          have hr6_1 := (hb6.block _ (lt_heap hr5_1)).trans hr5_1
          have hr6_2 := (hb6.block _ (lt_heap hr5_2)).trans hr5_2
          have hr6_3 := (hb6.block _ (lt_heap hr5_3)).trans hr5_3
          have HU6 := Lib.hid (HU5.out.trans (hb6.mono HU5.out.size))
          clear hr5_0 hr5_1 hr5_2 hr5_3 HU5
          rw [hv0]
          have c0_0 := cell_of_row _ _ 0 _ _ _ hr6_0
          have c0_1 := cell_of_row _ _ 1 _ _ _ hr6_0
          have c0_2 := cell_of_row _ _ 2 _ _ _ hr6_0
          have c0_3 := cell_of_row _ _ 3 _ _ _ hr6_0
          have c0_4 := cell_of_row _ _ 4 _ _ _ hr6_0
          have c0_5 := cell_of_row _ _ 5 _ _ _ hr6_0
          have c0_6 := cell_of_row _ _ 6 _ _ _ hr6_0
          have c0_7 := cell_of_row _ _ 7 _ _ _ hr6_0
          have c0_8 := cell_of_row _ _ 8 _ _ _ hr6_0
          have c0_9 := cell_of_row _ _ 9 _ _ _ hr6_0
          have c0_10 := cell_of_row _ _ 10 _ _ _ hr6_0
          have c0_11 := cell_of_row _ _ 11 _ _ _ hr6_0
          have c0_12 := cell_of_row _ _ 12 _ _ _ hr6_0
          have c0_13 := cell_of_row _ _ 13 _ _ _ hr6_0
          have c0_14 := cell_of_row _ _ 14 _ _ _ hr6_0
          have c0_15 := cell_of_row _ _ 15 _ _ _ hr6_0
          have c0_16 := cell_of_row _ _ 16 _ _ _ hr6_0
          have c0_17 := cell_of_row _ _ 17 _ _ _ hr6_0
          have c0_18 := cell_of_row _ _ 18 _ _ _ hr6_0
          have c0_19 := cell_of_row _ _ 19 _ _ _ hr6_0
          have c0_20 := cell_of_row _ _ 20 _ _ _ hr6_0
          have c0_21 := cell_of_row _ _ 21 _ _ _ hr6_0
          have c0_22 := cell_of_row _ _ 22 _ _ _ hr6_0
          have c0_23 := cell_of_row _ _ 23 _ _ _ hr6_0
          have c1_0 := cell_of_row _ _ 0 _ _ _ hr6_1
          have c1_1 := cell_of_row _ _ 1 _ _ _ hr6_1
          have c1_2 := cell_of_row _ _ 2 _ _ _ hr6_1
          have c1_3 := cell_of_row _ _ 3 _ _ _ hr6_1
          have c1_4 := cell_of_row _ _ 4 _ _ _ hr6_1
          have c1_5 := cell_of_row _ _ 5 _ _ _ hr6_1
          have c1_6 := cell_of_row _ _ 6 _ _ _ hr6_1
          have c1_7 := cell_of_row _ _ 7 _ _ _ hr6_1
          have c1_8 := cell_of_row _ _ 8 _ _ _ hr6_1
          have c1_9 := cell_of_row _ _ 9 _ _ _ hr6_1
          have c1_10 := cell_of_row _ _ 10 _ _ _ hr6_1
          have c1_11 := cell_of_row _ _ 11 _ _ _ hr6_1
          have c2_0 := cell_of_row _ _ 0 _ _ _ hr6_2
          have c2_1 := cell_of_row _ _ 1 _ _ _ hr6_2
          have c2_2 := cell_of_row _ _ 2 _ _ _ hr6_2
          have c2_3 := cell_of_row _ _ 3 _ _ _ hr6_2
          have c2_4 := cell_of_row _ _ 4 _ _ _ hr6_2
          have c2_5 := cell_of_row _ _ 5 _ _ _ hr6_2
          have c3_0 := cell_of_row _ _ 0 _ _ _ hr6_3
          have c3_1 := cell_of_row _ _ 1 _ _ _ hr6_3
          have c3_2 := cell_of_row _ _ 2 _ _ _ hr6_3
          have c3_3 := cell_of_row _ _ 3 _ _ _ hr6_3
          have c3_4 := cell_of_row _ _ 4 _ _ _ hr6_3
          have c3_5 := cell_of_row _ _ 5 _ _ _ hr6_3
          simp at c0_0 c0_1 c0_2 c0_3 c0_4 c0_5 c0_6 c0_7 c0_8 c0_9 c0_10 c0_11 c0_12 c0_13 c0_14 c0_15 c0_16 c0_17 c0_18 c0_19 c0_20 c0_21 c0_22 c0_23 c1_0 c1_1 c1_2 c1_3 c1_4 c1_5 c1_6 c1_7 c1_8 c1_9 c1_10 c1_11 c2_0 c2_1 c2_2 c2_3 c2_4 c2_5 c3_0 c3_1 c3_2 c3_3 c3_4 c3_5
          go_wp2_with fail
          refine (rends_any _ _ _ _ _ _ _).mono ?_
          rintro e y7 ⟨rfl, hb7⟩
          clear c0_0 c0_1 c0_2 c0_3 c0_4 c0_5 c0_6 c0_7 c0_8 c0_9 c0_10 c0_11 c0_12 c0_13 c0_14 c0_15 c0_16 c0_17 c0_18 c0_19 c0_20 c0_21 c0_22 c0_23 c1_0 c1_1 c1_2 c1_3 c1_4 c1_5 c1_6 c1_7 c1_8 c1_9 c1_10 c1_11 c2_0 c2_1 c2_2 c2_3 c2_4 c2_5 c3_0 c3_1 c3_2 c3_3 c3_4 c3_5
          have hr7_0 := (hb7.block _ (lt_heap hr6_0)).trans hr6_0
          have hr7_1 := (hb7.block _ (lt_heap hr6_1)).trans hr6_1
          have hr7_2 := (hb7.block _ (lt_heap hr6_2)).trans hr6_2
          have hr7_3 := (hb7.block _ (lt_heap hr6_3)).trans hr6_3
          have HU7 := Lib.hid (HU6.out.trans (hb7.mono HU6.out.size))
          clear hr6_0 hr6_1 hr6_2 hr6_3 HU6
          rw [hv1]
          have c0_0 := cell_of_row _ _ 0 _ _ _ hr7_0
          have c0_1 := cell_of_row _ _ 1 _ _ _ hr7_0
          have c0_2 := cell_of_row _ _ 2 _ _ _ hr7_0
          have c0_3 := cell_of_row _ _ 3 _ _ _ hr7_0
          have c0_4 := cell_of_row _ _ 4 _ _ _ hr7_0
          have c0_5 := cell_of_row _ _ 5 _ _ _ hr7_0
          have c0_6 := cell_of_row _ _ 6 _ _ _ hr7_0
          have c0_7 := cell_of_row _ _ 7 _ _ _ hr7_0
          have c0_8 := cell_of_row _ _ 8 _ _ _ hr7_0
          have c0_9 := cell_of_row _ _ 9 _ _ _ hr7_0
          have c0_10 := cell_of_row _ _ 10 _ _ _ hr7_0
          have c0_11 := cell_of_row _ _ 11 _ _ _ hr7_0
          have c0_12 := cell_of_row _ _ 12 _ _ _ hr7_0
          have c0_13 := cell_of_row _ _ 13 _ _ _ hr7_0
          have c0_14 := cell_of_row _ _ 14 _ _ _ hr7_0
          have c0_15 := cell_of_row _ _ 15 _ _ _ hr7_0
          have c0_16 := cell_of_row _ _ 16 _ _ _ hr7_0
          have c0_17 := cell_of_row _ _ 17 _ _ _ hr7_0
          have c0_18 := cell_of_row _ _ 18 _ _ _ hr7_0
          have c0_19 := cell_of_row _ _ 19 _ _ _ hr7_0
          have c0_20 := cell_of_row _ _ 20 _ _ _ hr7_0
          have c0_21 := cell_of_row _ _ 21 _ _ _ hr7_0
          have c0_22 := cell_of_row _ _ 22 _ _ _ hr7_0
          have c0_23 := cell_of_row _ _ 23 _ _ _ hr7_0
          have c1_0 := cell_of_row _ _ 0 _ _ _ hr7_1
          have c1_1 := cell_of_row _ _ 1 _ _ _ hr7_1
          have c1_2 := cell_of_row _ _ 2 _ _ _ hr7_1
          have c1_3 := cell_of_row _ _ 3 _ _ _ hr7_1
          have c1_4 := cell_of_row _ _ 4 _ _ _ hr7_1
          have c1_5 := cell_of_row _ _ 5 _ _ _ hr7_1
          have c1_6 := cell_of_row _ _ 6 _ _ _ hr7_1
          have c1_7 := cell_of_row _ _ 7 _ _ _ hr7_1
          have c1_8 := cell_of_row _ _ 8 _ _ _ hr7_1
          have c1_9 := cell_of_row _ _ 9 _ _ _ hr7_1
          have c1_10 := cell_of_row _ _ 10 _ _ _ hr7_1
          have c1_11 := cell_of_row _ _ 11 _ _ _ hr7_1
          have c2_0 := cell_of_row _ _ 0 _ _ _ hr7_2
          have c2_1 := cell_of_row _ _ 1 _ _ _ hr7_2
          have c2_2 := cell_of_row _ _ 2 _ _ _ hr7_2
          have c2_3 := cell_of_row _ _ 3 _ _ _ hr7_2
          have c2_4 := cell_of_row _ _ 4 _ _ _ hr7_2
          have c2_5 := cell_of_row _ _ 5 _ _ _ hr7_2
          have c3_0 := cell_of_row _ _ 0 _ _ _ hr7_3
          have c3_1 := cell_of_row _ _ 1 _ _ _ hr7_3
          have c3_2 := cell_of_row _ _ 2 _ _ _ hr7_3
          have c3_3 := cell_of_row _ _ 3 _ _ _ hr7_3
          have c3_4 := cell_of_row _ _ 4 _ _ _ hr7_3
          have c3_5 := cell_of_row _ _ 5 _ _ _ hr7_3
          simp at c0_0 c0_1 c0_2 c0_3 c0_4 c0_5 c0_6 c0_7 c0_8 c0_9 c0_10 c0_11 c0_12 c0_13 c0_14 c0_15 c0_16 c0_17 c0_18 c0_19 c0_20 c0_21 c0_22 c0_23 c1_0 c1_1 c1_2 c1_3 c1_4 c1_5 c1_6 c1_7 c1_8 c1_9 c1_10 c1_11 c2_0 c2_1 c2_2 c2_3 c2_4 c2_5 c3_0 c3_1 c3_2 c3_3 c3_4 c3_5
          go_wp2_with fail
          refine (refAdd_any _ _ _).mono ?_
          rintro e ww ⟨rfl, rfl⟩
          go_wp2_with fail
          clear c0_0 c0_1 c0_2 c0_3 c0_4 c0_5 c0_6 c0_7 c0_8 c0_9 c0_10 c0_11 c0_12 c0_13 c0_14 c0_15 c0_16 c0_17 c0_18 c0_19 c0_20 c0_21 c0_22 c0_23 c1_0 c1_1 c1_2 c1_3 c1_4 c1_5 c1_6 c1_7 c1_8 c1_9 c1_10 c1_11 c2_0 c2_1 c2_2 c2_3 c2_4 c2_5 c3_0 c3_1 c3_2 c3_3 c3_4 c3_5
          refine (rall_any _).mono ?_
          rintro e y8 ⟨rfl, hb8⟩
          have hr8_0 := (hb8.block _ (lt_heap hr7_0)).trans hr7_0
          have hr8_1 := (hb8.block _ (lt_heap hr7_1)).trans hr7_1
          have hr8_2 := (hb8.block _ (lt_heap hr7_2)).trans hr7_2
          have hr8_3 := (hb8.block _ (lt_heap hr7_3)).trans hr7_3
          have HU8 := Lib.hid (HU7.out.trans (hb8.mono HU7.out.size))
          clear hr7_0 hr7_1 hr7_2 hr7_3 HU7
          go_wp2_with fail
          refine (rall_any _).mono ?_
          rintro e y9 ⟨rfl, hb9⟩
          have hr9_0 := (hb9.block _ (lt_heap hr8_0)).trans hr8_0
          have hr9_1 := (hb9.block _ (lt_heap hr8_1)).trans hr8_1
          have hr9_2 := (hb9.block _ (lt_heap hr8_2)).trans hr8_2
          have hr9_3 := (hb9.block _ (lt_heap hr8_3)).trans hr8_3
          have HU9 := Lib.hid (HU8.out.trans (hb9.mono HU8.out.size))
          clear hr8_0 hr8_1 hr8_2 hr8_3 HU8
          have hHr := Lib.hid hr9_1
          have hHi := Lib.hid (show (Try.prog.info? 69).map (·.size) = some (#[.int .i64 (-2147483648), .int .i64 (-2147483648), .int .i64 (-2147483648), .int .i64 2147483648, .int .i64 2147483648, .int .i64 2147483648, .int .i64 (-2147483648), .int .i64 (-2147483648), .int .i64 (-2147483648), .int .i64 2147483648, .int .i64 2147483648, .int .i64 2147483648] : Array Value).size by kernel_rfl)
          have hHz := Lib.hid (show (#[.int .i64 0, .int .i64 0, .int .i64 0, .int .i64 0, .int .i64 0, .int .i64 0, .int .i64 0, .int .i64 0, .int .i64 0, .int .i64 0, .int .i64 0, .int .i64 0] : Array Value).size = (#[.int .i64 (-2147483648), .int .i64 (-2147483648), .int .i64 (-2147483648), .int .i64 2147483648, .int .i64 2147483648, .int .i64 2147483648, .int .i64 (-2147483648), .int .i64 (-2147483648), .int .i64 (-2147483648), .int .i64 2147483648, .int .i64 2147483648, .int .i64 2147483648] : Array Value).size from rfl)
          have hHo := Lib.hid (show (#[.int .i64 (-2147483648), .int .i64 (-2147483648), .int .i64 (-2147483648), .int .i64 2147483648, .int .i64 2147483648, .int .i64 2147483648, .int .i64 (-2147483648), .int .i64 (-2147483648), .int .i64 (-2147483648), .int .i64 2147483648, .int .i64 2147483648, .int .i64 2147483648] : Array Value).all (·.oneCell') = true by simp [Value.oneCell'])
          go_wp2_with (first | (refine Au.wpList_store_row rfl 69 (.tmp 2) (.tmp 38) rfl y9 #[.int .i64 0, .int .i64 0, .int .i64 0, .int .i64 0, .int .i64 0, .int .i64 0, .int .i64 0, .int .i64 0, .int .i64 0, .int .i64 0, .int .i64 0, .int .i64 0] #[.int .i64 (-2147483648), .int .i64 (-2147483648), .int .i64 (-2147483648), .int .i64 2147483648, .int .i64 2147483648, .int .i64 2147483648, .int .i64 (-2147483648), .int .i64 (-2147483648), .int .i64 (-2147483648), .int .i64 2147483648, .int .i64 2147483648, .int .i64 2147483648] (w.heap.size + 1) 69 hHr.out rfl rfl hHi.out hHz.out hHo.out ?_))
          all_goals
            clear hHr hHi hHz hHo
            have hN := setRow_heap _ (w.heap.size + 1) _ #[.int .i64 (-2147483648), .int .i64 (-2147483648), .int .i64 (-2147483648), .int .i64 2147483648, .int .i64 2147483648, .int .i64 2147483648, .int .i64 (-2147483648), .int .i64 (-2147483648), .int .i64 (-2147483648), .int .i64 2147483648, .int .i64 2147483648, .int .i64 2147483648] _ _ hr9_1
            have hsz := HU9.out.size
            have HUx := below_setRow (g := w.heap.size + 1) HU9.out (by first | omega | (simp at *; omega)) #[.int .i64 (-2147483648), .int .i64 (-2147483648), .int .i64 (-2147483648), .int .i64 2147483648, .int .i64 2147483648, .int .i64 2147483648, .int .i64 (-2147483648), .int .i64 (-2147483648), .int .i64 (-2147483648), .int .i64 2147483648, .int .i64 2147483648, .int .i64 2147483648]
            have hO : ∀ kk, kk ≠ w.heap.size + 1 → (y9.setRow (w.heap.size + 1) #[.int .i64 (-2147483648), .int .i64 (-2147483648), .int .i64 (-2147483648), .int .i64 2147483648, .int .i64 2147483648, .int .i64 2147483648, .int .i64 (-2147483648), .int .i64 (-2147483648), .int .i64 (-2147483648), .int .i64 2147483648, .int .i64 2147483648, .int .i64 2147483648]).heap[kk]? = y9.heap[kk]? := fun kk hk => setRow_other _ _ _ _ hk
            obtain ⟨y10, hy10⟩ : ∃ y, y9.setRow (w.heap.size + 1) #[.int .i64 (-2147483648), .int .i64 (-2147483648), .int .i64 (-2147483648), .int .i64 2147483648, .int .i64 2147483648, .int .i64 2147483648, .int .i64 (-2147483648), .int .i64 (-2147483648), .int .i64 (-2147483648), .int .i64 2147483648, .int .i64 2147483648, .int .i64 2147483648] = y := ⟨_, rfl⟩
            rw [hy10] at hN HUx hO ⊢
            clear hy10 hsz
            have HU10 := Lib.hid HUx
            clear HUx
            have hr10_0 := (hO _ (by omega)).trans hr9_0
            have hr10_1 := hN
            have hr10_2 := (hO _ (by omega)).trans hr9_2
            have hr10_3 := (hO _ (by omega)).trans hr9_3
            clear hN hO
            clear hr9_0 hr9_1 hr9_2 hr9_3 HU9
            go_wp2
            all_goals exact bodyPost_ret (v := .agg #[.int .i64 (-2147483648), .int .i64 (-2147483648), .int .i64 (-2147483648), .int .i64 2147483648, .int .i64 2147483648, .int .i64 2147483648, .int .i64 (-2147483648), .int .i64 (-2147483648), .int .i64 (-2147483648), .int .i64 2147483648, .int .i64 2147483648, .int .i64 2147483648]) (results_row (t := 69) Try.results26 rfl hr10_1 Try.underlying69 rfl (by kernel_rfl)) rfl ⟨by first | rfl | simp [hv0, hv1, hv2, hv3], HU10.out⟩
      · skip
        have c0_0 := cell_of_row _ _ 0 _ _ _ hr5_0
        have c0_1 := cell_of_row _ _ 1 _ _ _ hr5_0
        have c0_2 := cell_of_row _ _ 2 _ _ _ hr5_0
        have c0_3 := cell_of_row _ _ 3 _ _ _ hr5_0
        have c0_4 := cell_of_row _ _ 4 _ _ _ hr5_0
        have c0_5 := cell_of_row _ _ 5 _ _ _ hr5_0
        have c0_6 := cell_of_row _ _ 6 _ _ _ hr5_0
        have c0_7 := cell_of_row _ _ 7 _ _ _ hr5_0
        have c0_8 := cell_of_row _ _ 8 _ _ _ hr5_0
        have c0_9 := cell_of_row _ _ 9 _ _ _ hr5_0
        have c0_10 := cell_of_row _ _ 10 _ _ _ hr5_0
        have c0_11 := cell_of_row _ _ 11 _ _ _ hr5_0
        have c0_12 := cell_of_row _ _ 12 _ _ _ hr5_0
        have c0_13 := cell_of_row _ _ 13 _ _ _ hr5_0
        have c0_14 := cell_of_row _ _ 14 _ _ _ hr5_0
        have c0_15 := cell_of_row _ _ 15 _ _ _ hr5_0
        have c0_16 := cell_of_row _ _ 16 _ _ _ hr5_0
        have c0_17 := cell_of_row _ _ 17 _ _ _ hr5_0
        have c0_18 := cell_of_row _ _ 18 _ _ _ hr5_0
        have c0_19 := cell_of_row _ _ 19 _ _ _ hr5_0
        have c0_20 := cell_of_row _ _ 20 _ _ _ hr5_0
        have c0_21 := cell_of_row _ _ 21 _ _ _ hr5_0
        have c0_22 := cell_of_row _ _ 22 _ _ _ hr5_0
        have c0_23 := cell_of_row _ _ 23 _ _ _ hr5_0
        have c1_0 := cell_of_row _ _ 0 _ _ _ hr5_1
        have c1_1 := cell_of_row _ _ 1 _ _ _ hr5_1
        have c1_2 := cell_of_row _ _ 2 _ _ _ hr5_1
        have c1_3 := cell_of_row _ _ 3 _ _ _ hr5_1
        have c1_4 := cell_of_row _ _ 4 _ _ _ hr5_1
        have c1_5 := cell_of_row _ _ 5 _ _ _ hr5_1
        have c1_6 := cell_of_row _ _ 6 _ _ _ hr5_1
        have c1_7 := cell_of_row _ _ 7 _ _ _ hr5_1
        have c1_8 := cell_of_row _ _ 8 _ _ _ hr5_1
        have c1_9 := cell_of_row _ _ 9 _ _ _ hr5_1
        have c1_10 := cell_of_row _ _ 10 _ _ _ hr5_1
        have c1_11 := cell_of_row _ _ 11 _ _ _ hr5_1
        have c2_0 := cell_of_row _ _ 0 _ _ _ hr5_2
        have c2_1 := cell_of_row _ _ 1 _ _ _ hr5_2
        have c2_2 := cell_of_row _ _ 2 _ _ _ hr5_2
        have c2_3 := cell_of_row _ _ 3 _ _ _ hr5_2
        have c2_4 := cell_of_row _ _ 4 _ _ _ hr5_2
        have c2_5 := cell_of_row _ _ 5 _ _ _ hr5_2
        have c3_0 := cell_of_row _ _ 0 _ _ _ hr5_3
        have c3_1 := cell_of_row _ _ 1 _ _ _ hr5_3
        have c3_2 := cell_of_row _ _ 2 _ _ _ hr5_3
        have c3_3 := cell_of_row _ _ 3 _ _ _ hr5_3
        have c3_4 := cell_of_row _ _ 4 _ _ _ hr5_3
        have c3_5 := cell_of_row _ _ 5 _ _ _ hr5_3
        simp at c0_0 c0_1 c0_2 c0_3 c0_4 c0_5 c0_6 c0_7 c0_8 c0_9 c0_10 c0_11 c0_12 c0_13 c0_14 c0_15 c0_16 c0_17 c0_18 c0_19 c0_20 c0_21 c0_22 c0_23 c1_0 c1_1 c1_2 c1_3 c1_4 c1_5 c1_6 c1_7 c1_8 c1_9 c1_10 c1_11 c2_0 c2_1 c2_2 c2_3 c2_4 c2_5 c3_0 c3_1 c3_2 c3_3 c3_4 c3_5
        go_wp2_with fail
        refine (rends_any _ _ _ _ _ _ _).mono ?_
        rintro e y6 ⟨rfl, hb6⟩
        clear c0_0 c0_1 c0_2 c0_3 c0_4 c0_5 c0_6 c0_7 c0_8 c0_9 c0_10 c0_11 c0_12 c0_13 c0_14 c0_15 c0_16 c0_17 c0_18 c0_19 c0_20 c0_21 c0_22 c0_23 c1_0 c1_1 c1_2 c1_3 c1_4 c1_5 c1_6 c1_7 c1_8 c1_9 c1_10 c1_11 c2_0 c2_1 c2_2 c2_3 c2_4 c2_5 c3_0 c3_1 c3_2 c3_3 c3_4 c3_5
        have hr6_0 := (hb6.block _ (lt_heap hr5_0)).trans hr5_0
        have hr6_1 := (hb6.block _ (lt_heap hr5_1)).trans hr5_1
        have hr6_2 := (hb6.block _ (lt_heap hr5_2)).trans hr5_2
        have hr6_3 := (hb6.block _ (lt_heap hr5_3)).trans hr5_3
        have HU6 := Lib.hid (HU5.out.trans (hb6.mono HU5.out.size))
        clear hr5_0 hr5_1 hr5_2 hr5_3 HU5
        rw [hv0]
        have c0_0 := cell_of_row _ _ 0 _ _ _ hr6_0
        have c0_1 := cell_of_row _ _ 1 _ _ _ hr6_0
        have c0_2 := cell_of_row _ _ 2 _ _ _ hr6_0
        have c0_3 := cell_of_row _ _ 3 _ _ _ hr6_0
        have c0_4 := cell_of_row _ _ 4 _ _ _ hr6_0
        have c0_5 := cell_of_row _ _ 5 _ _ _ hr6_0
        have c0_6 := cell_of_row _ _ 6 _ _ _ hr6_0
        have c0_7 := cell_of_row _ _ 7 _ _ _ hr6_0
        have c0_8 := cell_of_row _ _ 8 _ _ _ hr6_0
        have c0_9 := cell_of_row _ _ 9 _ _ _ hr6_0
        have c0_10 := cell_of_row _ _ 10 _ _ _ hr6_0
        have c0_11 := cell_of_row _ _ 11 _ _ _ hr6_0
        have c0_12 := cell_of_row _ _ 12 _ _ _ hr6_0
        have c0_13 := cell_of_row _ _ 13 _ _ _ hr6_0
        have c0_14 := cell_of_row _ _ 14 _ _ _ hr6_0
        have c0_15 := cell_of_row _ _ 15 _ _ _ hr6_0
        have c0_16 := cell_of_row _ _ 16 _ _ _ hr6_0
        have c0_17 := cell_of_row _ _ 17 _ _ _ hr6_0
        have c0_18 := cell_of_row _ _ 18 _ _ _ hr6_0
        have c0_19 := cell_of_row _ _ 19 _ _ _ hr6_0
        have c0_20 := cell_of_row _ _ 20 _ _ _ hr6_0
        have c0_21 := cell_of_row _ _ 21 _ _ _ hr6_0
        have c0_22 := cell_of_row _ _ 22 _ _ _ hr6_0
        have c0_23 := cell_of_row _ _ 23 _ _ _ hr6_0
        have c1_0 := cell_of_row _ _ 0 _ _ _ hr6_1
        have c1_1 := cell_of_row _ _ 1 _ _ _ hr6_1
        have c1_2 := cell_of_row _ _ 2 _ _ _ hr6_1
        have c1_3 := cell_of_row _ _ 3 _ _ _ hr6_1
        have c1_4 := cell_of_row _ _ 4 _ _ _ hr6_1
        have c1_5 := cell_of_row _ _ 5 _ _ _ hr6_1
        have c1_6 := cell_of_row _ _ 6 _ _ _ hr6_1
        have c1_7 := cell_of_row _ _ 7 _ _ _ hr6_1
        have c1_8 := cell_of_row _ _ 8 _ _ _ hr6_1
        have c1_9 := cell_of_row _ _ 9 _ _ _ hr6_1
        have c1_10 := cell_of_row _ _ 10 _ _ _ hr6_1
        have c1_11 := cell_of_row _ _ 11 _ _ _ hr6_1
        have c2_0 := cell_of_row _ _ 0 _ _ _ hr6_2
        have c2_1 := cell_of_row _ _ 1 _ _ _ hr6_2
        have c2_2 := cell_of_row _ _ 2 _ _ _ hr6_2
        have c2_3 := cell_of_row _ _ 3 _ _ _ hr6_2
        have c2_4 := cell_of_row _ _ 4 _ _ _ hr6_2
        have c2_5 := cell_of_row _ _ 5 _ _ _ hr6_2
        have c3_0 := cell_of_row _ _ 0 _ _ _ hr6_3
        have c3_1 := cell_of_row _ _ 1 _ _ _ hr6_3
        have c3_2 := cell_of_row _ _ 2 _ _ _ hr6_3
        have c3_3 := cell_of_row _ _ 3 _ _ _ hr6_3
        have c3_4 := cell_of_row _ _ 4 _ _ _ hr6_3
        have c3_5 := cell_of_row _ _ 5 _ _ _ hr6_3
        simp at c0_0 c0_1 c0_2 c0_3 c0_4 c0_5 c0_6 c0_7 c0_8 c0_9 c0_10 c0_11 c0_12 c0_13 c0_14 c0_15 c0_16 c0_17 c0_18 c0_19 c0_20 c0_21 c0_22 c0_23 c1_0 c1_1 c1_2 c1_3 c1_4 c1_5 c1_6 c1_7 c1_8 c1_9 c1_10 c1_11 c2_0 c2_1 c2_2 c2_3 c2_4 c2_5 c3_0 c3_1 c3_2 c3_3 c3_4 c3_5
        go_wp2_with fail
        refine (rends_any _ _ _ _ _ _ _).mono ?_
        rintro e y7 ⟨rfl, hb7⟩
        clear c0_0 c0_1 c0_2 c0_3 c0_4 c0_5 c0_6 c0_7 c0_8 c0_9 c0_10 c0_11 c0_12 c0_13 c0_14 c0_15 c0_16 c0_17 c0_18 c0_19 c0_20 c0_21 c0_22 c0_23 c1_0 c1_1 c1_2 c1_3 c1_4 c1_5 c1_6 c1_7 c1_8 c1_9 c1_10 c1_11 c2_0 c2_1 c2_2 c2_3 c2_4 c2_5 c3_0 c3_1 c3_2 c3_3 c3_4 c3_5
        have hr7_0 := (hb7.block _ (lt_heap hr6_0)).trans hr6_0
        have hr7_1 := (hb7.block _ (lt_heap hr6_1)).trans hr6_1
        have hr7_2 := (hb7.block _ (lt_heap hr6_2)).trans hr6_2
        have hr7_3 := (hb7.block _ (lt_heap hr6_3)).trans hr6_3
        have HU7 := Lib.hid (HU6.out.trans (hb7.mono HU6.out.size))
        clear hr6_0 hr6_1 hr6_2 hr6_3 HU6
        rw [hv1]
        have c0_0 := cell_of_row _ _ 0 _ _ _ hr7_0
        have c0_1 := cell_of_row _ _ 1 _ _ _ hr7_0
        have c0_2 := cell_of_row _ _ 2 _ _ _ hr7_0
        have c0_3 := cell_of_row _ _ 3 _ _ _ hr7_0
        have c0_4 := cell_of_row _ _ 4 _ _ _ hr7_0
        have c0_5 := cell_of_row _ _ 5 _ _ _ hr7_0
        have c0_6 := cell_of_row _ _ 6 _ _ _ hr7_0
        have c0_7 := cell_of_row _ _ 7 _ _ _ hr7_0
        have c0_8 := cell_of_row _ _ 8 _ _ _ hr7_0
        have c0_9 := cell_of_row _ _ 9 _ _ _ hr7_0
        have c0_10 := cell_of_row _ _ 10 _ _ _ hr7_0
        have c0_11 := cell_of_row _ _ 11 _ _ _ hr7_0
        have c0_12 := cell_of_row _ _ 12 _ _ _ hr7_0
        have c0_13 := cell_of_row _ _ 13 _ _ _ hr7_0
        have c0_14 := cell_of_row _ _ 14 _ _ _ hr7_0
        have c0_15 := cell_of_row _ _ 15 _ _ _ hr7_0
        have c0_16 := cell_of_row _ _ 16 _ _ _ hr7_0
        have c0_17 := cell_of_row _ _ 17 _ _ _ hr7_0
        have c0_18 := cell_of_row _ _ 18 _ _ _ hr7_0
        have c0_19 := cell_of_row _ _ 19 _ _ _ hr7_0
        have c0_20 := cell_of_row _ _ 20 _ _ _ hr7_0
        have c0_21 := cell_of_row _ _ 21 _ _ _ hr7_0
        have c0_22 := cell_of_row _ _ 22 _ _ _ hr7_0
        have c0_23 := cell_of_row _ _ 23 _ _ _ hr7_0
        have c1_0 := cell_of_row _ _ 0 _ _ _ hr7_1
        have c1_1 := cell_of_row _ _ 1 _ _ _ hr7_1
        have c1_2 := cell_of_row _ _ 2 _ _ _ hr7_1
        have c1_3 := cell_of_row _ _ 3 _ _ _ hr7_1
        have c1_4 := cell_of_row _ _ 4 _ _ _ hr7_1
        have c1_5 := cell_of_row _ _ 5 _ _ _ hr7_1
        have c1_6 := cell_of_row _ _ 6 _ _ _ hr7_1
        have c1_7 := cell_of_row _ _ 7 _ _ _ hr7_1
        have c1_8 := cell_of_row _ _ 8 _ _ _ hr7_1
        have c1_9 := cell_of_row _ _ 9 _ _ _ hr7_1
        have c1_10 := cell_of_row _ _ 10 _ _ _ hr7_1
        have c1_11 := cell_of_row _ _ 11 _ _ _ hr7_1
        have c2_0 := cell_of_row _ _ 0 _ _ _ hr7_2
        have c2_1 := cell_of_row _ _ 1 _ _ _ hr7_2
        have c2_2 := cell_of_row _ _ 2 _ _ _ hr7_2
        have c2_3 := cell_of_row _ _ 3 _ _ _ hr7_2
        have c2_4 := cell_of_row _ _ 4 _ _ _ hr7_2
        have c2_5 := cell_of_row _ _ 5 _ _ _ hr7_2
        have c3_0 := cell_of_row _ _ 0 _ _ _ hr7_3
        have c3_1 := cell_of_row _ _ 1 _ _ _ hr7_3
        have c3_2 := cell_of_row _ _ 2 _ _ _ hr7_3
        have c3_3 := cell_of_row _ _ 3 _ _ _ hr7_3
        have c3_4 := cell_of_row _ _ 4 _ _ _ hr7_3
        have c3_5 := cell_of_row _ _ 5 _ _ _ hr7_3
        simp at c0_0 c0_1 c0_2 c0_3 c0_4 c0_5 c0_6 c0_7 c0_8 c0_9 c0_10 c0_11 c0_12 c0_13 c0_14 c0_15 c0_16 c0_17 c0_18 c0_19 c0_20 c0_21 c0_22 c0_23 c1_0 c1_1 c1_2 c1_3 c1_4 c1_5 c1_6 c1_7 c1_8 c1_9 c1_10 c1_11 c2_0 c2_1 c2_2 c2_3 c2_4 c2_5 c3_0 c3_1 c3_2 c3_3 c3_4 c3_5
        go_wp2_with fail
        clear c0_0 c0_1 c0_2 c0_3 c0_4 c0_5 c0_6 c0_7 c0_8 c0_9 c0_10 c0_11 c0_12 c0_13 c0_14 c0_15 c0_16 c0_17 c0_18 c0_19 c0_20 c0_21 c0_22 c0_23 c1_0 c1_1 c1_2 c1_3 c1_4 c1_5 c1_6 c1_7 c1_8 c1_9 c1_10 c1_11 c2_0 c2_1 c2_2 c2_3 c2_4 c2_5 c3_0 c3_1 c3_2 c3_3 c3_4 c3_5
        refine (rall_any _).mono ?_
        rintro e y8 ⟨rfl, hb8⟩
        have hr8_0 := (hb8.block _ (lt_heap hr7_0)).trans hr7_0
        have hr8_1 := (hb8.block _ (lt_heap hr7_1)).trans hr7_1
        have hr8_2 := (hb8.block _ (lt_heap hr7_2)).trans hr7_2
        have hr8_3 := (hb8.block _ (lt_heap hr7_3)).trans hr7_3
        have HU8 := Lib.hid (HU7.out.trans (hb8.mono HU7.out.size))
        clear hr7_0 hr7_1 hr7_2 hr7_3 HU7
        go_wp2_with fail
        refine (rall_any _).mono ?_
        rintro e y9 ⟨rfl, hb9⟩
        have hr9_0 := (hb9.block _ (lt_heap hr8_0)).trans hr8_0
        have hr9_1 := (hb9.block _ (lt_heap hr8_1)).trans hr8_1
        have hr9_2 := (hb9.block _ (lt_heap hr8_2)).trans hr8_2
        have hr9_3 := (hb9.block _ (lt_heap hr8_3)).trans hr8_3
        have HU9 := Lib.hid (HU8.out.trans (hb9.mono HU8.out.size))
        clear hr8_0 hr8_1 hr8_2 hr8_3 HU8
        have hHr := Lib.hid hr9_1
        have hHi := Lib.hid (show (Try.prog.info? 69).map (·.size) = some (#[.int .i64 (-2147483648), .int .i64 (-2147483648), .int .i64 (-2147483648), .int .i64 2147483648, .int .i64 2147483648, .int .i64 2147483648, .int .i64 (-2147483648), .int .i64 (-2147483648), .int .i64 (-2147483648), .int .i64 2147483648, .int .i64 2147483648, .int .i64 2147483648] : Array Value).size by kernel_rfl)
        have hHz := Lib.hid (show (#[.int .i64 0, .int .i64 0, .int .i64 0, .int .i64 0, .int .i64 0, .int .i64 0, .int .i64 0, .int .i64 0, .int .i64 0, .int .i64 0, .int .i64 0, .int .i64 0] : Array Value).size = (#[.int .i64 (-2147483648), .int .i64 (-2147483648), .int .i64 (-2147483648), .int .i64 2147483648, .int .i64 2147483648, .int .i64 2147483648, .int .i64 (-2147483648), .int .i64 (-2147483648), .int .i64 (-2147483648), .int .i64 2147483648, .int .i64 2147483648, .int .i64 2147483648] : Array Value).size from rfl)
        have hHo := Lib.hid (show (#[.int .i64 (-2147483648), .int .i64 (-2147483648), .int .i64 (-2147483648), .int .i64 2147483648, .int .i64 2147483648, .int .i64 2147483648, .int .i64 (-2147483648), .int .i64 (-2147483648), .int .i64 (-2147483648), .int .i64 2147483648, .int .i64 2147483648, .int .i64 2147483648] : Array Value).all (·.oneCell') = true by simp [Value.oneCell'])
        go_wp2_with (first | (refine Au.wpList_store_row rfl 69 (.tmp 2) (.tmp 38) rfl y9 #[.int .i64 0, .int .i64 0, .int .i64 0, .int .i64 0, .int .i64 0, .int .i64 0, .int .i64 0, .int .i64 0, .int .i64 0, .int .i64 0, .int .i64 0, .int .i64 0] #[.int .i64 (-2147483648), .int .i64 (-2147483648), .int .i64 (-2147483648), .int .i64 2147483648, .int .i64 2147483648, .int .i64 2147483648, .int .i64 (-2147483648), .int .i64 (-2147483648), .int .i64 (-2147483648), .int .i64 2147483648, .int .i64 2147483648, .int .i64 2147483648] (w.heap.size + 1) 69 hHr.out rfl rfl hHi.out hHz.out hHo.out ?_))
        all_goals
          clear hHr hHi hHz hHo
          have hN := setRow_heap _ (w.heap.size + 1) _ #[.int .i64 (-2147483648), .int .i64 (-2147483648), .int .i64 (-2147483648), .int .i64 2147483648, .int .i64 2147483648, .int .i64 2147483648, .int .i64 (-2147483648), .int .i64 (-2147483648), .int .i64 (-2147483648), .int .i64 2147483648, .int .i64 2147483648, .int .i64 2147483648] _ _ hr9_1
          have hsz := HU9.out.size
          have HUx := below_setRow (g := w.heap.size + 1) HU9.out (by first | omega | (simp at *; omega)) #[.int .i64 (-2147483648), .int .i64 (-2147483648), .int .i64 (-2147483648), .int .i64 2147483648, .int .i64 2147483648, .int .i64 2147483648, .int .i64 (-2147483648), .int .i64 (-2147483648), .int .i64 (-2147483648), .int .i64 2147483648, .int .i64 2147483648, .int .i64 2147483648]
          have hO : ∀ kk, kk ≠ w.heap.size + 1 → (y9.setRow (w.heap.size + 1) #[.int .i64 (-2147483648), .int .i64 (-2147483648), .int .i64 (-2147483648), .int .i64 2147483648, .int .i64 2147483648, .int .i64 2147483648, .int .i64 (-2147483648), .int .i64 (-2147483648), .int .i64 (-2147483648), .int .i64 2147483648, .int .i64 2147483648, .int .i64 2147483648]).heap[kk]? = y9.heap[kk]? := fun kk hk => setRow_other _ _ _ _ hk
          obtain ⟨y10, hy10⟩ : ∃ y, y9.setRow (w.heap.size + 1) #[.int .i64 (-2147483648), .int .i64 (-2147483648), .int .i64 (-2147483648), .int .i64 2147483648, .int .i64 2147483648, .int .i64 2147483648, .int .i64 (-2147483648), .int .i64 (-2147483648), .int .i64 (-2147483648), .int .i64 2147483648, .int .i64 2147483648, .int .i64 2147483648] = y := ⟨_, rfl⟩
          rw [hy10] at hN HUx hO ⊢
          clear hy10 hsz
          have HU10 := Lib.hid HUx
          clear HUx
          have hr10_0 := (hO _ (by omega)).trans hr9_0
          have hr10_1 := hN
          have hr10_2 := (hO _ (by omega)).trans hr9_2
          have hr10_3 := (hO _ (by omega)).trans hr9_3
          clear hN hO
          clear hr9_0 hr9_1 hr9_2 hr9_3 HU9
          go_wp2
          all_goals exact bodyPost_ret (v := .agg #[.int .i64 (-2147483648), .int .i64 (-2147483648), .int .i64 (-2147483648), .int .i64 2147483648, .int .i64 2147483648, .int .i64 2147483648, .int .i64 (-2147483648), .int .i64 (-2147483648), .int .i64 (-2147483648), .int .i64 2147483648, .int .i64 2147483648, .int .i64 2147483648]) (results_row (t := 69) Try.results26 rfl hr10_1 Try.underlying69 rfl (by kernel_rfl)) rfl ⟨by first | rfl | simp [hv0, hv1, hv2, hv3], HU10.out⟩
    · skip
      have c0_0 := cell_of_row _ _ 0 _ _ _ hr5_0
      have c0_1 := cell_of_row _ _ 1 _ _ _ hr5_0
      have c0_2 := cell_of_row _ _ 2 _ _ _ hr5_0
      have c0_3 := cell_of_row _ _ 3 _ _ _ hr5_0
      have c0_4 := cell_of_row _ _ 4 _ _ _ hr5_0
      have c0_5 := cell_of_row _ _ 5 _ _ _ hr5_0
      have c0_6 := cell_of_row _ _ 6 _ _ _ hr5_0
      have c0_7 := cell_of_row _ _ 7 _ _ _ hr5_0
      have c0_8 := cell_of_row _ _ 8 _ _ _ hr5_0
      have c0_9 := cell_of_row _ _ 9 _ _ _ hr5_0
      have c0_10 := cell_of_row _ _ 10 _ _ _ hr5_0
      have c0_11 := cell_of_row _ _ 11 _ _ _ hr5_0
      have c0_12 := cell_of_row _ _ 12 _ _ _ hr5_0
      have c0_13 := cell_of_row _ _ 13 _ _ _ hr5_0
      have c0_14 := cell_of_row _ _ 14 _ _ _ hr5_0
      have c0_15 := cell_of_row _ _ 15 _ _ _ hr5_0
      have c0_16 := cell_of_row _ _ 16 _ _ _ hr5_0
      have c0_17 := cell_of_row _ _ 17 _ _ _ hr5_0
      have c0_18 := cell_of_row _ _ 18 _ _ _ hr5_0
      have c0_19 := cell_of_row _ _ 19 _ _ _ hr5_0
      have c0_20 := cell_of_row _ _ 20 _ _ _ hr5_0
      have c0_21 := cell_of_row _ _ 21 _ _ _ hr5_0
      have c0_22 := cell_of_row _ _ 22 _ _ _ hr5_0
      have c0_23 := cell_of_row _ _ 23 _ _ _ hr5_0
      have c1_0 := cell_of_row _ _ 0 _ _ _ hr5_1
      have c1_1 := cell_of_row _ _ 1 _ _ _ hr5_1
      have c1_2 := cell_of_row _ _ 2 _ _ _ hr5_1
      have c1_3 := cell_of_row _ _ 3 _ _ _ hr5_1
      have c1_4 := cell_of_row _ _ 4 _ _ _ hr5_1
      have c1_5 := cell_of_row _ _ 5 _ _ _ hr5_1
      have c1_6 := cell_of_row _ _ 6 _ _ _ hr5_1
      have c1_7 := cell_of_row _ _ 7 _ _ _ hr5_1
      have c1_8 := cell_of_row _ _ 8 _ _ _ hr5_1
      have c1_9 := cell_of_row _ _ 9 _ _ _ hr5_1
      have c1_10 := cell_of_row _ _ 10 _ _ _ hr5_1
      have c1_11 := cell_of_row _ _ 11 _ _ _ hr5_1
      have c2_0 := cell_of_row _ _ 0 _ _ _ hr5_2
      have c2_1 := cell_of_row _ _ 1 _ _ _ hr5_2
      have c2_2 := cell_of_row _ _ 2 _ _ _ hr5_2
      have c2_3 := cell_of_row _ _ 3 _ _ _ hr5_2
      have c2_4 := cell_of_row _ _ 4 _ _ _ hr5_2
      have c2_5 := cell_of_row _ _ 5 _ _ _ hr5_2
      have c3_0 := cell_of_row _ _ 0 _ _ _ hr5_3
      have c3_1 := cell_of_row _ _ 1 _ _ _ hr5_3
      have c3_2 := cell_of_row _ _ 2 _ _ _ hr5_3
      have c3_3 := cell_of_row _ _ 3 _ _ _ hr5_3
      have c3_4 := cell_of_row _ _ 4 _ _ _ hr5_3
      have c3_5 := cell_of_row _ _ 5 _ _ _ hr5_3
      simp at c0_0 c0_1 c0_2 c0_3 c0_4 c0_5 c0_6 c0_7 c0_8 c0_9 c0_10 c0_11 c0_12 c0_13 c0_14 c0_15 c0_16 c0_17 c0_18 c0_19 c0_20 c0_21 c0_22 c0_23 c1_0 c1_1 c1_2 c1_3 c1_4 c1_5 c1_6 c1_7 c1_8 c1_9 c1_10 c1_11 c2_0 c2_1 c2_2 c2_3 c2_4 c2_5 c3_0 c3_1 c3_2 c3_3 c3_4 c3_5
      go_wp2_with fail
      refine (rends_any _ _ _ _ _ _ _).mono ?_
      rintro e y6 ⟨rfl, hb6⟩
      clear c0_0 c0_1 c0_2 c0_3 c0_4 c0_5 c0_6 c0_7 c0_8 c0_9 c0_10 c0_11 c0_12 c0_13 c0_14 c0_15 c0_16 c0_17 c0_18 c0_19 c0_20 c0_21 c0_22 c0_23 c1_0 c1_1 c1_2 c1_3 c1_4 c1_5 c1_6 c1_7 c1_8 c1_9 c1_10 c1_11 c2_0 c2_1 c2_2 c2_3 c2_4 c2_5 c3_0 c3_1 c3_2 c3_3 c3_4 c3_5
      have hr6_0 := (hb6.block _ (lt_heap hr5_0)).trans hr5_0
      have hr6_1 := (hb6.block _ (lt_heap hr5_1)).trans hr5_1
      have hr6_2 := (hb6.block _ (lt_heap hr5_2)).trans hr5_2
      have hr6_3 := (hb6.block _ (lt_heap hr5_3)).trans hr5_3
      have HU6 := Lib.hid (HU5.out.trans (hb6.mono HU5.out.size))
      clear hr5_0 hr5_1 hr5_2 hr5_3 HU5
      rw [hv0]
      have c0_0 := cell_of_row _ _ 0 _ _ _ hr6_0
      have c0_1 := cell_of_row _ _ 1 _ _ _ hr6_0
      have c0_2 := cell_of_row _ _ 2 _ _ _ hr6_0
      have c0_3 := cell_of_row _ _ 3 _ _ _ hr6_0
      have c0_4 := cell_of_row _ _ 4 _ _ _ hr6_0
      have c0_5 := cell_of_row _ _ 5 _ _ _ hr6_0
      have c0_6 := cell_of_row _ _ 6 _ _ _ hr6_0
      have c0_7 := cell_of_row _ _ 7 _ _ _ hr6_0
      have c0_8 := cell_of_row _ _ 8 _ _ _ hr6_0
      have c0_9 := cell_of_row _ _ 9 _ _ _ hr6_0
      have c0_10 := cell_of_row _ _ 10 _ _ _ hr6_0
      have c0_11 := cell_of_row _ _ 11 _ _ _ hr6_0
      have c0_12 := cell_of_row _ _ 12 _ _ _ hr6_0
      have c0_13 := cell_of_row _ _ 13 _ _ _ hr6_0
      have c0_14 := cell_of_row _ _ 14 _ _ _ hr6_0
      have c0_15 := cell_of_row _ _ 15 _ _ _ hr6_0
      have c0_16 := cell_of_row _ _ 16 _ _ _ hr6_0
      have c0_17 := cell_of_row _ _ 17 _ _ _ hr6_0
      have c0_18 := cell_of_row _ _ 18 _ _ _ hr6_0
      have c0_19 := cell_of_row _ _ 19 _ _ _ hr6_0
      have c0_20 := cell_of_row _ _ 20 _ _ _ hr6_0
      have c0_21 := cell_of_row _ _ 21 _ _ _ hr6_0
      have c0_22 := cell_of_row _ _ 22 _ _ _ hr6_0
      have c0_23 := cell_of_row _ _ 23 _ _ _ hr6_0
      have c1_0 := cell_of_row _ _ 0 _ _ _ hr6_1
      have c1_1 := cell_of_row _ _ 1 _ _ _ hr6_1
      have c1_2 := cell_of_row _ _ 2 _ _ _ hr6_1
      have c1_3 := cell_of_row _ _ 3 _ _ _ hr6_1
      have c1_4 := cell_of_row _ _ 4 _ _ _ hr6_1
      have c1_5 := cell_of_row _ _ 5 _ _ _ hr6_1
      have c1_6 := cell_of_row _ _ 6 _ _ _ hr6_1
      have c1_7 := cell_of_row _ _ 7 _ _ _ hr6_1
      have c1_8 := cell_of_row _ _ 8 _ _ _ hr6_1
      have c1_9 := cell_of_row _ _ 9 _ _ _ hr6_1
      have c1_10 := cell_of_row _ _ 10 _ _ _ hr6_1
      have c1_11 := cell_of_row _ _ 11 _ _ _ hr6_1
      have c2_0 := cell_of_row _ _ 0 _ _ _ hr6_2
      have c2_1 := cell_of_row _ _ 1 _ _ _ hr6_2
      have c2_2 := cell_of_row _ _ 2 _ _ _ hr6_2
      have c2_3 := cell_of_row _ _ 3 _ _ _ hr6_2
      have c2_4 := cell_of_row _ _ 4 _ _ _ hr6_2
      have c2_5 := cell_of_row _ _ 5 _ _ _ hr6_2
      have c3_0 := cell_of_row _ _ 0 _ _ _ hr6_3
      have c3_1 := cell_of_row _ _ 1 _ _ _ hr6_3
      have c3_2 := cell_of_row _ _ 2 _ _ _ hr6_3
      have c3_3 := cell_of_row _ _ 3 _ _ _ hr6_3
      have c3_4 := cell_of_row _ _ 4 _ _ _ hr6_3
      have c3_5 := cell_of_row _ _ 5 _ _ _ hr6_3
      simp at c0_0 c0_1 c0_2 c0_3 c0_4 c0_5 c0_6 c0_7 c0_8 c0_9 c0_10 c0_11 c0_12 c0_13 c0_14 c0_15 c0_16 c0_17 c0_18 c0_19 c0_20 c0_21 c0_22 c0_23 c1_0 c1_1 c1_2 c1_3 c1_4 c1_5 c1_6 c1_7 c1_8 c1_9 c1_10 c1_11 c2_0 c2_1 c2_2 c2_3 c2_4 c2_5 c3_0 c3_1 c3_2 c3_3 c3_4 c3_5
      go_wp2_with fail
      clear c0_0 c0_1 c0_2 c0_3 c0_4 c0_5 c0_6 c0_7 c0_8 c0_9 c0_10 c0_11 c0_12 c0_13 c0_14 c0_15 c0_16 c0_17 c0_18 c0_19 c0_20 c0_21 c0_22 c0_23 c1_0 c1_1 c1_2 c1_3 c1_4 c1_5 c1_6 c1_7 c1_8 c1_9 c1_10 c1_11 c2_0 c2_1 c2_2 c2_3 c2_4 c2_5 c3_0 c3_1 c3_2 c3_3 c3_4 c3_5
      refine (rall_any _).mono ?_
      rintro e y7 ⟨rfl, hb7⟩
      have hr7_0 := (hb7.block _ (lt_heap hr6_0)).trans hr6_0
      have hr7_1 := (hb7.block _ (lt_heap hr6_1)).trans hr6_1
      have hr7_2 := (hb7.block _ (lt_heap hr6_2)).trans hr6_2
      have hr7_3 := (hb7.block _ (lt_heap hr6_3)).trans hr6_3
      have HU7 := Lib.hid (HU6.out.trans (hb7.mono HU6.out.size))
      clear hr6_0 hr6_1 hr6_2 hr6_3 HU6
      go_wp2_with fail
      refine (rall_any _).mono ?_
      rintro e y8 ⟨rfl, hb8⟩
      have hr8_0 := (hb8.block _ (lt_heap hr7_0)).trans hr7_0
      have hr8_1 := (hb8.block _ (lt_heap hr7_1)).trans hr7_1
      have hr8_2 := (hb8.block _ (lt_heap hr7_2)).trans hr7_2
      have hr8_3 := (hb8.block _ (lt_heap hr7_3)).trans hr7_3
      have HU8 := Lib.hid (HU7.out.trans (hb8.mono HU7.out.size))
      clear hr7_0 hr7_1 hr7_2 hr7_3 HU7
      have hHr := Lib.hid hr8_1
      have hHi := Lib.hid (show (Try.prog.info? 69).map (·.size) = some (#[.int .i64 (-2147483648), .int .i64 (-2147483648), .int .i64 (-2147483648), .int .i64 2147483648, .int .i64 2147483648, .int .i64 2147483648, .int .i64 (-2147483648), .int .i64 (-2147483648), .int .i64 (-2147483648), .int .i64 2147483648, .int .i64 2147483648, .int .i64 2147483648] : Array Value).size by kernel_rfl)
      have hHz := Lib.hid (show (#[.int .i64 0, .int .i64 0, .int .i64 0, .int .i64 0, .int .i64 0, .int .i64 0, .int .i64 0, .int .i64 0, .int .i64 0, .int .i64 0, .int .i64 0, .int .i64 0] : Array Value).size = (#[.int .i64 (-2147483648), .int .i64 (-2147483648), .int .i64 (-2147483648), .int .i64 2147483648, .int .i64 2147483648, .int .i64 2147483648, .int .i64 (-2147483648), .int .i64 (-2147483648), .int .i64 (-2147483648), .int .i64 2147483648, .int .i64 2147483648, .int .i64 2147483648] : Array Value).size from rfl)
      have hHo := Lib.hid (show (#[.int .i64 (-2147483648), .int .i64 (-2147483648), .int .i64 (-2147483648), .int .i64 2147483648, .int .i64 2147483648, .int .i64 2147483648, .int .i64 (-2147483648), .int .i64 (-2147483648), .int .i64 (-2147483648), .int .i64 2147483648, .int .i64 2147483648, .int .i64 2147483648] : Array Value).all (·.oneCell') = true by simp [Value.oneCell'])
      go_wp2_with (first | (refine Au.wpList_store_row rfl 69 (.tmp 2) (.tmp 38) rfl y8 #[.int .i64 0, .int .i64 0, .int .i64 0, .int .i64 0, .int .i64 0, .int .i64 0, .int .i64 0, .int .i64 0, .int .i64 0, .int .i64 0, .int .i64 0, .int .i64 0] #[.int .i64 (-2147483648), .int .i64 (-2147483648), .int .i64 (-2147483648), .int .i64 2147483648, .int .i64 2147483648, .int .i64 2147483648, .int .i64 (-2147483648), .int .i64 (-2147483648), .int .i64 (-2147483648), .int .i64 2147483648, .int .i64 2147483648, .int .i64 2147483648] (w.heap.size + 1) 69 hHr.out rfl rfl hHi.out hHz.out hHo.out ?_))
      all_goals
        clear hHr hHi hHz hHo
        have hN := setRow_heap _ (w.heap.size + 1) _ #[.int .i64 (-2147483648), .int .i64 (-2147483648), .int .i64 (-2147483648), .int .i64 2147483648, .int .i64 2147483648, .int .i64 2147483648, .int .i64 (-2147483648), .int .i64 (-2147483648), .int .i64 (-2147483648), .int .i64 2147483648, .int .i64 2147483648, .int .i64 2147483648] _ _ hr8_1
        have hsz := HU8.out.size
        have HUx := below_setRow (g := w.heap.size + 1) HU8.out (by first | omega | (simp at *; omega)) #[.int .i64 (-2147483648), .int .i64 (-2147483648), .int .i64 (-2147483648), .int .i64 2147483648, .int .i64 2147483648, .int .i64 2147483648, .int .i64 (-2147483648), .int .i64 (-2147483648), .int .i64 (-2147483648), .int .i64 2147483648, .int .i64 2147483648, .int .i64 2147483648]
        have hO : ∀ kk, kk ≠ w.heap.size + 1 → (y8.setRow (w.heap.size + 1) #[.int .i64 (-2147483648), .int .i64 (-2147483648), .int .i64 (-2147483648), .int .i64 2147483648, .int .i64 2147483648, .int .i64 2147483648, .int .i64 (-2147483648), .int .i64 (-2147483648), .int .i64 (-2147483648), .int .i64 2147483648, .int .i64 2147483648, .int .i64 2147483648]).heap[kk]? = y8.heap[kk]? := fun kk hk => setRow_other _ _ _ _ hk
        obtain ⟨y9, hy9⟩ : ∃ y, y8.setRow (w.heap.size + 1) #[.int .i64 (-2147483648), .int .i64 (-2147483648), .int .i64 (-2147483648), .int .i64 2147483648, .int .i64 2147483648, .int .i64 2147483648, .int .i64 (-2147483648), .int .i64 (-2147483648), .int .i64 (-2147483648), .int .i64 2147483648, .int .i64 2147483648, .int .i64 2147483648] = y := ⟨_, rfl⟩
        rw [hy9] at hN HUx hO ⊢
        clear hy9 hsz
        have HU9 := Lib.hid HUx
        clear HUx
        have hr9_0 := (hO _ (by omega)).trans hr8_0
        have hr9_1 := hN
        have hr9_2 := (hO _ (by omega)).trans hr8_2
        have hr9_3 := (hO _ (by omega)).trans hr8_3
        clear hN hO
        clear hr8_0 hr8_1 hr8_2 hr8_3 HU8
        go_wp2
        all_goals exact bodyPost_ret (v := .agg #[.int .i64 (-2147483648), .int .i64 (-2147483648), .int .i64 (-2147483648), .int .i64 2147483648, .int .i64 2147483648, .int .i64 2147483648, .int .i64 (-2147483648), .int .i64 (-2147483648), .int .i64 (-2147483648), .int .i64 2147483648, .int .i64 2147483648, .int .i64 2147483648]) (results_row (t := 69) Try.results26 rfl hr9_1 Try.underlying69 rfl (by kernel_rfl)) rfl ⟨by first | rfl | simp [hv0, hv1, hv2, hv3], HU9.out⟩

end Go.Proofs.Ythlcfhnlkpobhaa.Bx
