/- WarpBlends: the walk. -/
import Derived.Test.YtgpbnpnnbipfpaaE52
import Derived.Test.YtgpbnpnnbipfpaaG1
namespace Go.Proofs.Ytgpbnpnnbipfpaa.warpBlendsW
open Go Go.RowKit Go.Proofs.Ytgpbnpnnbipfpaa Go.Proofs.Ytgpbnpnnbipfpaa.Rp Go.Proofs.Ytgpbnpnnbipfpaa.Re Go.Proofs.Ytgpbnpnnbipfpaa.Au Go.Proofs.Ytgpbnpnnbipfpaa.Jw Go.Proofs.Ytgpbnpnnbipfpaa.Fm
set_option linter.unusedVariables false
set_option linter.unusedSimpArgs false


set_option maxHeartbeats 16000000 in
set_option maxRecDepth 100000 in
theorem go_on (W H : Int) (al ad an ab ax af : Option Addr) (cl cd cn cb cx cf nl nd nn nb ns nf : Nat) (L D N B S F : Nat → Int) (W2 H2 : Int) (al2 ad2 an2 ab2 ax2 af2 : Option Addr) (cl2 cd2 cn2 cb2 cx2 cf2 nl2 nd2 nn2 nb2 ns2 nf2 : Nat) (L2 D2 N2 B2 S2 F2 : Nat → Int) (W3 H3 : Int) (am : Option Addr) (nm cm : Nat) (M : Nat → Int) (w : World) (hc : Came w (⟨W, H, nl, nd, nn, nb, ns, nf, L, D, N, B, S, F⟩ : Flm) (⟨al, cl, ad, cd, an, cn, ab, cb, ax, cx, af, cf⟩ : Pl)) (hc2 : Came w (⟨W2, H2, nl2, nd2, nn2, nb2, ns2, nf2, L2, D2, N2, B2, S2, F2⟩ : Flm) (⟨al2, cl2, ad2, cd2, an2, cn2, ab2, cb2, ax2, cx2, af2, cf2⟩ : Pl)) (hm : Rw 3 w am nm M) (hm24 : nm * 24 ≤ 140737488351232) (k0 : ¬ 5000 < nl) (k1 : ¬ 5000 < ns) (k2 : ¬ 5000 < nf) (k3 : ¬ 5000 < nl2) (k4 : ¬ 5000 < ns2) (k5 : ¬ 5000 < nf2) (k6 : ¬ 5000 < nm) (BW BH BE KK : Int) (BN : Nat) (LB : Nat → Int) (hbn : BN ≤ 5000) (hBl : ∀ (W' : World) (p q : Pl) (am : Option Addr) (cm : Nat), FAt W' (⟨W, H, nl, nd, nn, nb, ns, nf, L, D, N, B, S, F⟩ : Flm) p → FAt W' (⟨W2, H2, nl2, nd2, nn2, nb2, ns2, nf2, L2, D2, N2, B2, S2, F2⟩ : Flm) q → Rw 3 W' am nm M → Calls Try.prog 8 #[.agg (FC (⟨W, H, nl, nd, nn, nb, ns, nf, L, D, N, B, S, F⟩ : Flm) p), .agg (FC (⟨W2, H2, nl2, nd2, nn2, nb2, ns2, nf2, L2, D2, N2, B2, S2, F2⟩ : Flm) q), .agg #[.int .i64 W3, .int .i64 H3, .slice am nm cm]] W' fun e' w' => (∃ a c, e' = .returned (.tuple #[.agg #[.int .i64 BW, .int .i64 BH, .slice a BN c], .int .i64 BE]) ∧ RwP (fun b => W'.heap.size ≤ b) 3 w' a BN LB) ∧ Below W'.heap.size W' w') (hDb : ∀ (W' : World) (p q : Pl) (am : Option Addr) (cm : Nat), FAt W' (⟨W, H, nl, nd, nn, nb, ns, nf, L, D, N, B, S, F⟩ : Flm) p → FAt W' (⟨W2, H2, nl2, nd2, nn2, nb2, ns2, nf2, L2, D2, N2, B2, S2, F2⟩ : Flm) q → Rw 3 W' am nm M → Calls Try.prog 10 #[.agg (FC (⟨W, H, nl, nd, nn, nb, ns, nf, L, D, N, B, S, F⟩ : Flm) p), .agg (FC (⟨W2, H2, nl2, nd2, nn2, nb2, ns2, nf2, L2, D2, N2, B2, S2, F2⟩ : Flm) q), .agg #[.int .i64 W3, .int .i64 H3, .slice am nm cm]] W' fun e' w' => (∃ a c, e' = .returned (.tuple #[.agg #[.int .i64 BW, .int .i64 BH, .slice a BN c], .int .i64 BE]) ∧ RwP (fun b => W'.heap.size ≤ b) 3 w' a BN LB) ∧ Below W'.heap.size W' w') (hKp : ∀ (W' : World) (p q : Pl), FAt W' (⟨W, H, nl, nd, nn, nb, ns, nf, L, D, N, B, S, F⟩ : Flm) p → FAt W' (⟨W2, H2, nl2, nd2, nn2, nb2, ns2, nf2, L2, D2, N2, B2, S2, F2⟩ : Flm) q → Calls Try.prog 15 #[.agg (FC (⟨W, H, nl, nd, nn, nb, ns, nf, L, D, N, B, S, F⟩ : Flm) p), .agg (FC (⟨W2, H2, nl2, nd2, nn2, nb2, ns2, nf2, L2, D2, N2, B2, S2, F2⟩ : Flm) q)] W' fun e' w' => e' = .returned (.int .i64 KK) ∧ Below W'.heap.size W' w') (hKd : ∀ (W' : World) (p q : Pl), FAt W' (⟨W, H, nl, nd, nn, nb, ns, nf, L, D, N, B, S, F⟩ : Flm) p → FAt W' (⟨W2, H2, nl2, nd2, nn2, nb2, ns2, nf2, L2, D2, N2, B2, S2, F2⟩ : Flm) q → Calls Try.prog 16 #[.agg (FC (⟨W, H, nl, nd, nn, nb, ns, nf, L, D, N, B, S, F⟩ : Flm) p), .agg (FC (⟨W2, H2, nl2, nd2, nn2, nb2, ns2, nf2, L2, D2, N2, B2, S2, F2⟩ : Flm) q)] W' fun e' w' => e' = .returned (.int .i64 KK) ∧ Below W'.heap.size W' w') : Calls Try.prog 3 #[.agg #[.int .i64 W, .int .i64 H, .slice al nl cl, .slice ad nd cd, .slice an nn cn, .slice ab nb cb, .slice ax ns cx, .slice af nf cf], .agg #[.int .i64 W2, .int .i64 H2, .slice al2 nl2 cl2, .slice ad2 nd2 cd2, .slice an2 nn2 cn2, .slice ab2 nb2 cb2, .slice ax2 ns2 cx2, .slice af2 nf2 cf2], .agg #[.int .i64 W3, .int .i64 H3, .slice am nm cm]] w fun e' w' => e' = .returned (.bool true) ∧ Below w.heap.size w w' := by
  have HC := Lib.hid hc
  have HC2 := Lib.hid hc2
  have HM := Lib.hid hm
  clear hc hc2 hm
  have d6 := decide_eq_false (show ¬ (5000 : Int) < (nm : Int) by omega)
  have HBL := Lib.hid hBl
  have HDB := Lib.hid hDb
  have HKP := Lib.hid hKp
  have HKD := Lib.hid hKd
  clear hBl hDb hKp hKd
  go_enter Try.func3, Try.ntmps3
  go_upto_region 1 with fail
  have hR := Au.rows3 w (.cells #[.int .i64 W, .int .i64 H, .slice al nl cl, .slice ad nd cd, .slice an nn cn, .slice ab nb cb, .slice ax ns cx, .slice af nf cf] 29) (.cells #[.int .i64 W2, .int .i64 H2, .slice al2 nl2 cl2, .slice ad2 nd2 cd2, .slice an2 nn2 cn2, .slice ab2 nb2 cb2, .slice ax2 ns2 cx2, .slice af2 nf2 cf2] 29) (.cells #[.int .i64 W3, .int .i64 H3, .slice am nm cm] 24)
  have HUx := Ve.below_n3 w (.cells #[.int .i64 W, .int .i64 H, .slice al nl cl, .slice ad nd cd, .slice an nn cn, .slice ab nb cb, .slice ax ns cx, .slice af nf cf] 29) (.cells #[.int .i64 W2, .int .i64 H2, .slice al2 nl2 cl2, .slice ad2 nd2 cd2, .slice an2 nn2 cn2, .slice ab2 nb2 cb2, .slice ax2 ns2 cx2, .slice af2 nf2 cf2] 29) (.cells #[.int .i64 W3, .int .i64 H3, .slice am nm cm] 24)
  obtain ⟨y0, hy0⟩ : ∃ y0, ((w.alloc (.cells #[.int .i64 W, .int .i64 H, .slice al nl cl, .slice ad nd cd, .slice an nn cn, .slice ab nb cb, .slice ax ns cx, .slice af nf cf] 29)).alloc (.cells #[.int .i64 W2, .int .i64 H2, .slice al2 nl2 cl2, .slice ad2 nd2 cd2, .slice an2 nn2 cn2, .slice ab2 nb2 cb2, .slice ax2 ns2 cx2, .slice af2 nf2 cf2] 29)).alloc (.cells #[.int .i64 W3, .int .i64 H3, .slice am nm cm] 24) = y0 := ⟨_, rfl⟩
  rw [hy0] at hR HUx ⊢
  clear hy0
  have HU0 := Lib.hid HUx
  clear HUx
  obtain ⟨hr0_0, hr0_1, hr0_2⟩ := hR
  have c0_0 := cell_of_row _ _ 0 _ _ _ hr0_0
  have c0_1 := cell_of_row _ _ 1 _ _ _ hr0_0
  have c0_2 := cell_of_row _ _ 2 _ _ _ hr0_0
  have c0_3 := cell_of_row _ _ 3 _ _ _ hr0_0
  have c0_4 := cell_of_row _ _ 4 _ _ _ hr0_0
  have c0_5 := cell_of_row _ _ 5 _ _ _ hr0_0
  have c0_6 := cell_of_row _ _ 6 _ _ _ hr0_0
  have c0_7 := cell_of_row _ _ 7 _ _ _ hr0_0
  have c1_0 := cell_of_row _ _ 0 _ _ _ hr0_1
  have c1_1 := cell_of_row _ _ 1 _ _ _ hr0_1
  have c1_2 := cell_of_row _ _ 2 _ _ _ hr0_1
  have c1_3 := cell_of_row _ _ 3 _ _ _ hr0_1
  have c1_4 := cell_of_row _ _ 4 _ _ _ hr0_1
  have c1_5 := cell_of_row _ _ 5 _ _ _ hr0_1
  have c1_6 := cell_of_row _ _ 6 _ _ _ hr0_1
  have c1_7 := cell_of_row _ _ 7 _ _ _ hr0_1
  simp at c0_0 c0_1 c0_2 c0_3 c0_4 c0_5 c0_6 c0_7 c1_0 c1_1 c1_2 c1_3 c1_4 c1_5 c1_6 c1_7
  go_wp2_with fail
  clear c0_0 c0_1 c0_2 c0_3 c0_4 c0_5 c0_6 c0_7 c1_0 c1_1 c1_2 c1_3 c1_4 c1_5 c1_6 c1_7
  have hb1 := Ve.below_n1 y0 (.cells #[.int .i64 W, .int .i64 H, .slice al nl cl, .slice ad nd cd, .slice an nn cn, .slice ab nb cb, .slice ax ns cx, .slice af nf cf, .int .i64 W2, .int .i64 H2, .slice al2 nl2 cl2, .slice ad2 nd2 cd2, .slice an2 nn2 cn2, .slice ab2 nb2 cb2, .slice ax2 ns2 cx2, .slice af2 nf2 cf2] 29)
  have hN := heap_alloc_last y0 (.cells #[.int .i64 W, .int .i64 H, .slice al nl cl, .slice ad nd cd, .slice an nn cn, .slice ab nb cb, .slice ax ns cx, .slice af nf cf, .int .i64 W2, .int .i64 H2, .slice al2 nl2 cl2, .slice ad2 nd2 cd2, .slice an2 nn2 cn2, .slice ab2 nb2 cb2, .slice ax2 ns2 cx2, .slice af2 nf2 cf2] 29)
  obtain ⟨y1, hy1⟩ : ∃ y, y0.alloc (.cells #[.int .i64 W, .int .i64 H, .slice al nl cl, .slice ad nd cd, .slice an nn cn, .slice ab nb cb, .slice ax ns cx, .slice af nf cf, .int .i64 W2, .int .i64 H2, .slice al2 nl2 cl2, .slice ad2 nd2 cd2, .slice an2 nn2 cn2, .slice ab2 nb2 cb2, .slice ax2 ns2 cx2, .slice af2 nf2 cf2] 29) = y := ⟨_, rfl⟩
  have hs1 : y1.heap.size = y0.heap.size + 1 := by rw [← hy1]; simp
  rw [hy1] at hb1 hN ⊢
  clear hy1
  have hl1_0 := lt_heap hr0_0
  have hl1_1 := lt_heap hr0_1
  have hl1_2 := lt_heap hr0_2
  have hr1_0 := (hb1.block _ (lt_heap hr0_0)).trans hr0_0
  have hr1_1 := (hb1.block _ (lt_heap hr0_1)).trans hr0_1
  have hr1_2 := (hb1.block _ (lt_heap hr0_2)).trans hr0_2
  have HU1 := Lib.hid (HU0.out.trans (hb1.mono HU0.out.size))
  clear hr0_0 hr0_1 hr0_2 HU0
  have hr1_3 := hN
  clear hN
  refine (light_6 W H W2 H2 al ad an ab ax af al2 ad2 an2 ab2 ax2 af2 cl cd cn cb cx cf nl nd nn nb ns nf cl2 cd2 cn2 cb2 cx2 cf2 nl2 nd2 nn2 nb2 ns2 nf2 _ _ hr1_3 k0 k1 k2 k3 k4 k5).mono ?_
  rintro e y2 ⟨rfl, hb2⟩
  have hr2_0 := (hb2.block _ (lt_heap hr1_0)).trans hr1_0
  have hr2_1 := (hb2.block _ (lt_heap hr1_1)).trans hr1_1
  have hr2_2 := (hb2.block _ (lt_heap hr1_2)).trans hr1_2
  have hr2_3 := (hb2.block _ (lt_heap hr1_3)).trans hr1_3
  have HU2 := Lib.hid (HU1.out.trans (hb2.mono HU1.out.size))
  clear hr1_0 hr1_1 hr1_2 hr1_3 HU1
  have c2_0 := cell_of_row _ _ 0 _ _ _ hr2_2
  have c2_1 := cell_of_row _ _ 1 _ _ _ hr2_2
  have c2_2 := cell_of_row _ _ 2 _ _ _ hr2_2
  simp at c2_0 c2_1 c2_2
  go_upto_region 3 with fail
  clear c2_0 c2_1 c2_2
  go_cut [7, 8] (fun s7 s8 wx => ∃ (q1 q2 : Nat) (P1 P2 : Pl), s7 = .pointer (some ⟨q1, 0, none⟩) ∧ s8 = .pointer (some ⟨q2, 0, none⟩) ∧ wx.heap[q1]? = some (.cells (FC (⟨W, H, nl, nd, nn, nb, ns, nf, L, D, N, B, S, F⟩ : Flm) P1) 40 (0, 0)) ∧ wx.heap[q2]? = some (.cells (FC (⟨W2, H2, nl2, nd2, nn2, nb2, ns2, nf2, L2, D2, N2, B2, S2, F2⟩ : Flm) P2) 40 (0, 0)) ∧ wx.heap[w.heap.size]? = some (.cells #[.int .i64 W, .int .i64 H, .slice al nl cl, .slice ad nd cd, .slice an nn cn, .slice ab nb cb, .slice ax ns cx, .slice af nf cf] 29 (0, 0)) ∧ wx.heap[w.heap.size + 1]? = some (.cells #[.int .i64 W2, .int .i64 H2, .slice al2 nl2 cl2, .slice ad2 nd2 cd2, .slice an2 nn2 cn2, .slice ab2 nb2 cb2, .slice ax2 ns2 cx2, .slice af2 nf2 cf2] 29 (0, 0)) ∧ wx.heap[w.heap.size + 1 + 1]? = some (.cells #[.int .i64 W3, .int .i64 H3, .slice am nm cm] 24 (0, 0)) ∧ Hid (FAt wx (⟨W, H, nl, nd, nn, nb, ns, nf, L, D, N, B, S, F⟩ : Flm) P1) ∧ Hid (FAt wx (⟨W2, H2, nl2, nd2, nn2, nb2, ns2, nf2, L2, D2, N2, B2, S2, F2⟩ : Flm) P2) ∧ Hid (Below w.heap.size w wx))
  case first =>
    refine wp_region_held_drew (S := fun y => y.heap[w.heap.size]? = some (.cells #[.int .i64 W, .int .i64 H, .slice al nl cl, .slice ad nd cd, .slice an nn cn, .slice ab nb cb, .slice ax ns cx, .slice af nf cf] 29 (0, 0)) ∧ y.heap[w.heap.size + 1]? = some (.cells #[.int .i64 W2, .int .i64 H2, .slice al2 nl2 cl2, .slice ad2 nd2 cd2, .slice an2 nn2 cn2, .slice ab2 nb2 cb2, .slice ax2 ns2 cx2, .slice af2 nf2 cf2] 29 (0, 0)) ∧ y.heap[w.heap.size + 1 + 1]? = some (.cells #[.int .i64 W3, .int .i64 H3, .slice am nm cm] 24 (0, 0))) (by kernel_rfl) (⟨hr2_0, hr2_1, hr2_2⟩) (fun hS0 => ?_)
    obtain ⟨y3, hy3⟩ : ∃ y, y2.drew = y := ⟨_, rfl⟩
    have HU3 := Lib.hid (show Below w.heap.size w y3 by rw [← hy3]; exact HU2.out.drew)
    have hr3_0 : y3.heap[w.heap.size]? = some (.cells #[.int .i64 W, .int .i64 H, .slice al nl cl, .slice ad nd cd, .slice an nn cn, .slice ab nb cb, .slice ax ns cx, .slice af nf cf] 29 (0, 0)) := by rw [← hy3]; exact hr2_0
    have hr3_1 : y3.heap[w.heap.size + 1]? = some (.cells #[.int .i64 W2, .int .i64 H2, .slice al2 nl2 cl2, .slice ad2 nd2 cd2, .slice an2 nn2 cn2, .slice ab2 nb2 cb2, .slice ax2 ns2 cx2, .slice af2 nf2 cf2] 29 (0, 0)) := by rw [← hy3]; exact hr2_1
    have hr3_2 : y3.heap[w.heap.size + 1 + 1]? = some (.cells #[.int .i64 W3, .int .i64 H3, .slice am nm cm] 24 (0, 0)) := by rw [← hy3]; exact hr2_2
    have hz3 : y2.heap.size ≤ y3.heap.size := by rw [← hy3]; exact Nat.le_refl _
    rw [hy3] at hS0 ⊢
    clear hy3
    refine wpAnyH_take (i := 0) (v := ?_) rfl (by kernel_rfl) (by kernel_rfl) (by kernel_rfl) (fun _ _ _ h => h) (Or.inl ⟨by kernel_rfl, by (intro wz hSz; have c0_0 := cell_of_row _ _ 0 _ _ _ hSz.1; have c0_1 := cell_of_row _ _ 1 _ _ _ hSz.1; have c0_2 := cell_of_row _ _ 2 _ _ _ hSz.1; have c0_3 := cell_of_row _ _ 3 _ _ _ hSz.1; have c0_4 := cell_of_row _ _ 4 _ _ _ hSz.1; have c0_5 := cell_of_row _ _ 5 _ _ _ hSz.1; have c0_6 := cell_of_row _ _ 6 _ _ _ hSz.1; have c0_7 := cell_of_row _ _ 7 _ _ _ hSz.1; have c1_0 := cell_of_row _ _ 0 _ _ _ hSz.2.1; have c1_1 := cell_of_row _ _ 1 _ _ _ hSz.2.1; have c1_2 := cell_of_row _ _ 2 _ _ _ hSz.2.1; have c1_3 := cell_of_row _ _ 3 _ _ _ hSz.2.1; have c1_4 := cell_of_row _ _ 4 _ _ _ hSz.2.1; have c1_5 := cell_of_row _ _ 5 _ _ _ hSz.2.1; have c1_6 := cell_of_row _ _ 6 _ _ _ hSz.2.1; have c1_7 := cell_of_row _ _ 7 _ _ _ hSz.2.1; have c2_0 := cell_of_row _ _ 0 _ _ _ hSz.2.2; have c2_1 := cell_of_row _ _ 1 _ _ _ hSz.2.2; have c2_2 := cell_of_row _ _ 2 _ _ _ hSz.2.2; simp at c0_0 c0_1 c0_2 c0_3 c0_4 c0_5 c0_6 c0_7 c1_0 c1_1 c1_2 c1_3 c1_4 c1_5 c1_6 c1_7 c2_0 c2_1 c2_2; go_simp; try with_reducible rfl)⟩) hS0 ?_
    go_simp
    refine wpAnyH_take (i := 2) (v := ?_) rfl (by kernel_rfl) (by kernel_rfl) (by kernel_rfl) (fun _ _ _ h => h) (Or.inl ⟨by kernel_rfl, by (intro wz hSz; have c0_0 := cell_of_row _ _ 0 _ _ _ hSz.1; have c0_1 := cell_of_row _ _ 1 _ _ _ hSz.1; have c0_2 := cell_of_row _ _ 2 _ _ _ hSz.1; have c0_3 := cell_of_row _ _ 3 _ _ _ hSz.1; have c0_4 := cell_of_row _ _ 4 _ _ _ hSz.1; have c0_5 := cell_of_row _ _ 5 _ _ _ hSz.1; have c0_6 := cell_of_row _ _ 6 _ _ _ hSz.1; have c0_7 := cell_of_row _ _ 7 _ _ _ hSz.1; have c1_0 := cell_of_row _ _ 0 _ _ _ hSz.2.1; have c1_1 := cell_of_row _ _ 1 _ _ _ hSz.2.1; have c1_2 := cell_of_row _ _ 2 _ _ _ hSz.2.1; have c1_3 := cell_of_row _ _ 3 _ _ _ hSz.2.1; have c1_4 := cell_of_row _ _ 4 _ _ _ hSz.2.1; have c1_5 := cell_of_row _ _ 5 _ _ _ hSz.2.1; have c1_6 := cell_of_row _ _ 6 _ _ _ hSz.2.1; have c1_7 := cell_of_row _ _ 7 _ _ _ hSz.2.1; have c2_0 := cell_of_row _ _ 0 _ _ _ hSz.2.2; have c2_1 := cell_of_row _ _ 1 _ _ _ hSz.2.2; have c2_2 := cell_of_row _ _ 2 _ _ _ hSz.2.2; simp at c0_0 c0_1 c0_2 c0_3 c0_4 c0_5 c0_6 c0_7 c1_0 c1_1 c1_2 c1_3 c1_4 c1_5 c1_6 c1_7 c2_0 c2_1 c2_2; go_simp; try with_reducible rfl)⟩) hS0 ?_
    go_simp
    refine wpAnyH_ready (rs := [1, 4, 5]) (by kernel_rfl) (by simp) ?_
    refine AllReadyH.cons rfl (fun K hK => ?_) (AllReadyH.cons rfl (fun K hK => ?_) (AllReadyH.cons rfl (fun K hK => ?_) AllReadyH.nil))
    · skip
      go_simp
      go_wp2_with (go_at_call 7; refine (to_film_q (⟨W, H, nl, nd, nn, nb, ns, nf, L, D, N, B, S, F⟩ : Flm) (⟨al, cl, ad, cd, an, cn, ab, cb, ax, cx, af, cf⟩ : Pl) _ (HC.out.at_.on HU3.out) HC.out.bl HC.out.bd HC.out.bn HC.out.bb HC.out.bs HC.out.bf HC.out.ks HC.out.kf).mono ?_; rintro e y4 ⟨⟨⟨al3, cl3, ad3, cd3, an3, cn3, ab3, cb3, ax3, cx3, af3, cf3⟩, rfl, hq1⟩, hb4⟩)
      have hr4_0 := (hb4.block _ (lt_heap hr3_0)).trans hr3_0
      have hr4_1 := (hb4.block _ (lt_heap hr3_1)).trans hr3_1
      have hr4_2 := (hb4.block _ (lt_heap hr3_2)).trans hr3_2
      have HU4 := Lib.hid (HU3.out.trans (hb4.mono HU3.out.size))
      have hz4 := hb4.size
      have HQA4 := Lib.hid (hq1.lt)
      refine hK.out _ _ (⟨(hb4.block _ (lt_heap hS0.1)).trans hS0.1, (hb4.block _ (lt_heap hS0.2.1)).trans hS0.2.1, (hb4.block _ (lt_heap hS0.2.2)).trans hS0.2.2⟩) (fun hS4c => ?_)
      clear hK K
      refine wpAnyH_ready (rs := [3, 4, 5]) (by kernel_rfl) (by simp) ?_
      refine AllReadyH.cons rfl (fun K hK => ?_) (AllReadyH.cons rfl (fun K hK => ?_) (AllReadyH.cons rfl (fun K hK => ?_) AllReadyH.nil))
      · skip
        go_simp
        go_wp2_with (go_at_call 7; refine (to_film_q (⟨W2, H2, nl2, nd2, nn2, nb2, ns2, nf2, L2, D2, N2, B2, S2, F2⟩ : Flm) (⟨al2, cl2, ad2, cd2, an2, cn2, ab2, cb2, ax2, cx2, af2, cf2⟩ : Pl) _ (HC2.out.at_.on HU4.out) HC2.out.bl HC2.out.bd HC2.out.bn HC2.out.bb HC2.out.bs HC2.out.bf HC2.out.ks HC2.out.kf).mono ?_; rintro e y5 ⟨⟨⟨al4, cl4, ad4, cd4, an4, cn4, ab4, cb4, ax4, cx4, af4, cf4⟩, rfl, hq2⟩, hb5⟩)
        have hr5_0 := (hb5.block _ (lt_heap hr4_0)).trans hr4_0
        have hr5_1 := (hb5.block _ (lt_heap hr4_1)).trans hr4_1
        have hr5_2 := (hb5.block _ (lt_heap hr4_2)).trans hr4_2
        have HU5 := Lib.hid (HU4.out.trans (hb5.mono HU4.out.size))
        have HQA5 := Lib.hid (HQA4.out.below hb5)
        have hz5 := hb5.size
        have HQB5 := Lib.hid (hq2.lt)
        refine hK.out _ _ (⟨(hb5.block _ (lt_heap hS4c.1)).trans hS4c.1, (hb5.block _ (lt_heap hS4c.2.1)).trans hS4c.2.1, (hb5.block _ (lt_heap hS4c.2.2)).trans hS4c.2.2⟩) (fun hS5c => ?_)
        clear hK K
        refine wpAnyH_ready (rs := [4, 5]) (by kernel_rfl) (by simp) ?_
        refine AllReadyH.cons rfl (fun K hK => ?_) (AllReadyH.cons rfl (fun K hK => ?_) AllReadyH.nil)
        · skip
          go_simp
          have hb6 := Ve.below_n1 y5 (.cells #[.int .i64 0, .int .i64 0, .slice none 0 0, .slice none 0 0, .slice none 0 0, .slice none 0 0, .slice none 0 0, .slice none 0 0] 40)
          have hN := heap_alloc_last y5 (.cells #[.int .i64 0, .int .i64 0, .slice none 0 0, .slice none 0 0, .slice none 0 0, .slice none 0 0, .slice none 0 0, .slice none 0 0] 40)
          obtain ⟨y6, hy6⟩ : ∃ y, y5.alloc (.cells #[.int .i64 0, .int .i64 0, .slice none 0 0, .slice none 0 0, .slice none 0 0, .slice none 0 0, .slice none 0 0, .slice none 0 0] 40) = y := ⟨_, rfl⟩
          rw [hy6] at hb6 hN ⊢
          clear hy6
          have hl6_0 := lt_heap hr5_0
          have hr6_0 := (hb6.block _ (lt_heap hr5_0)).trans hr5_0
          have hl6_1 := lt_heap hr5_1
          have hr6_1 := (hb6.block _ (lt_heap hr5_1)).trans hr5_1
          have hl6_2 := lt_heap hr5_2
          have hr6_2 := (hb6.block _ (lt_heap hr5_2)).trans hr5_2
          have hr6_3 := hN
          clear hN
          have HU6 := Lib.hid (HU5.out.trans (hb6.mono HU5.out.size))
          have HQA6 := Lib.hid (HQA5.out.below hb6)
          have HQB6 := Lib.hid (HQB5.out.below hb6)
          have hz6 := lt_heap hr6_3
          refine hK.out _ _ (⟨(hb6.block _ (lt_heap hS5c.1)).trans hS5c.1, (hb6.block _ (lt_heap hS5c.2.1)).trans hS5c.2.1, (hb6.block _ (lt_heap hS5c.2.2)).trans hS5c.2.2⟩) (fun hS6a => ?_)
          clear hK K
          refine wpAnyH_ready (rs := [5]) (by kernel_rfl) (by simp) ?_
          refine AllReadyH.cons rfl (fun K hK => ?_) AllReadyH.nil
          go_simp
          have hb7 := Ve.below_n1 y6 (.cells #[.int .i64 0, .int .i64 0, .slice none 0 0, .slice none 0 0, .slice none 0 0, .slice none 0 0, .slice none 0 0, .slice none 0 0] 40)
          have hN := heap_alloc_last y6 (.cells #[.int .i64 0, .int .i64 0, .slice none 0 0, .slice none 0 0, .slice none 0 0, .slice none 0 0, .slice none 0 0, .slice none 0 0] 40)
          obtain ⟨y7, hy7⟩ : ∃ y, y6.alloc (.cells #[.int .i64 0, .int .i64 0, .slice none 0 0, .slice none 0 0, .slice none 0 0, .slice none 0 0, .slice none 0 0, .slice none 0 0] 40) = y := ⟨_, rfl⟩
          rw [hy7] at hb7 hN ⊢
          clear hy7
          have hl7_0 := lt_heap hr6_0
          have hr7_0 := (hb7.block _ (lt_heap hr6_0)).trans hr6_0
          have hl7_1 := lt_heap hr6_1
          have hr7_1 := (hb7.block _ (lt_heap hr6_1)).trans hr6_1
          have hl7_2 := lt_heap hr6_2
          have hr7_2 := (hb7.block _ (lt_heap hr6_2)).trans hr6_2
          have hl7_3 := lt_heap hr6_3
          have hr7_3 := (hb7.block _ (lt_heap hr6_3)).trans hr6_3
          have hr7_4 := hN
          clear hN
          have HU7 := Lib.hid (HU6.out.trans (hb7.mono HU6.out.size))
          have HQA7 := Lib.hid (HQA6.out.below hb7)
          have HQB7 := Lib.hid (HQB6.out.below hb7)
          have hz7 := lt_heap hr7_4
          refine hK.out _ _ (⟨(hb7.block _ (lt_heap hS6a.1)).trans hS6a.1, (hb7.block _ (lt_heap hS6a.2.1)).trans hS6a.2.1, (hb7.block _ (lt_heap hS6a.2.2)).trans hS6a.2.2⟩) (fun hS7a => ?_)
          clear hK K
          refine wpAnyH_ready (rs := [6]) (by kernel_rfl) (by simp) ?_
          refine AllReadyH.cons rfl (fun K hK => ?_) AllReadyH.nil
          refine step_store_row rfl 40 (.tmp 7) (.tmp 28) rfl #[.int .i64 0, .int .i64 0, .slice none 0 0, .slice none 0 0, .slice none 0 0, .slice none 0 0, .slice none 0 0, .slice none 0 0] #[.int .i64 W, .int .i64 H, .slice al3 nl cl3, .slice ad3 nd cd3, .slice an3 nn cn3, .slice ab3 nb cb3, .slice ax3 ns cx3, .slice af3 nf cf3] _ 40 hr7_3 rfl (by first | rfl | (go_simp; done) | (go_simp; rfl)) (by kernel_rfl) rfl (by simp [Value.oneCell']) ?_
          have hN := setRow_heap _ (y5.heap.size) _ #[.int .i64 W, .int .i64 H, .slice al3 nl cl3, .slice ad3 nd cd3, .slice an3 nn cn3, .slice ab3 nb cb3, .slice ax3 ns cx3, .slice af3 nf cf3] _ _ hr7_3
          have hsz := HU7.out.size
          have HUx := below_setRow (g := y5.heap.size) HU7.out (by first | omega | (simp at *; omega)) #[.int .i64 W, .int .i64 H, .slice al3 nl cl3, .slice ad3 nd cd3, .slice an3 nn cn3, .slice ab3 nb cb3, .slice ax3 ns cx3, .slice af3 nf cf3]
          obtain ⟨y8, hy8⟩ : ∃ y, y7.setRow (y5.heap.size) #[.int .i64 W, .int .i64 H, .slice al3 nl cl3, .slice ad3 nd cd3, .slice an3 nn cn3, .slice ab3 nb cb3, .slice ax3 ns cx3, .slice af3 nf cf3] = y := ⟨_, rfl⟩
          have hO : ∀ k, k ≠ y5.heap.size → y8.heap[k]? = y7.heap[k]? := fun k hk => by rw [← hy8]; exact setRow_other _ _ _ _ hk
          rw [hy8] at hN HUx ⊢
          clear hy8
          have HU8 := Lib.hid HUx
          clear HUx
          have hr8_0 := (hO _ (by omega)).trans hr7_0
          have hr8_1 := (hO _ (by omega)).trans hr7_1
          have hr8_2 := (hO _ (by omega)).trans hr7_2
          have hr8_3 := hN
          have hr8_4 := (hO _ (by omega)).trans hr7_4
          clear hN
          have HQA8 := Lib.hid (HQA7.out.keep (fun b hb => hO b (by omega)))
          have HQB8 := Lib.hid (HQB7.out.keep (fun b hb => hO b (by omega)))
          refine hK.out _ _ (⟨(hO _ (by omega)).trans hS7a.1, (hO _ (by omega)).trans hS7a.2.1, (hO _ (by omega)).trans hS7a.2.2⟩) (fun hS8s => ?_)
          clear hK K
          refine wpAnyH_ready (rs := [7]) (by kernel_rfl) (by simp) ?_
          refine AllReadyH.cons rfl (fun K hK => ?_) AllReadyH.nil
          refine step_store_row rfl 40 (.tmp 8) (.tmp 30) rfl #[.int .i64 0, .int .i64 0, .slice none 0 0, .slice none 0 0, .slice none 0 0, .slice none 0 0, .slice none 0 0, .slice none 0 0] #[.int .i64 W2, .int .i64 H2, .slice al4 nl2 cl4, .slice ad4 nd2 cd4, .slice an4 nn2 cn4, .slice ab4 nb2 cb4, .slice ax4 ns2 cx4, .slice af4 nf2 cf4] _ 40 hr8_4 rfl (by first | rfl | (go_simp; done) | (go_simp; rfl)) (by kernel_rfl) rfl (by simp [Value.oneCell']) ?_
          have hN := setRow_heap _ (y6.heap.size) _ #[.int .i64 W2, .int .i64 H2, .slice al4 nl2 cl4, .slice ad4 nd2 cd4, .slice an4 nn2 cn4, .slice ab4 nb2 cb4, .slice ax4 ns2 cx4, .slice af4 nf2 cf4] _ _ hr8_4
          have hsz := HU8.out.size
          have HUx := below_setRow (g := y6.heap.size) HU8.out (by first | omega | (simp at *; omega)) #[.int .i64 W2, .int .i64 H2, .slice al4 nl2 cl4, .slice ad4 nd2 cd4, .slice an4 nn2 cn4, .slice ab4 nb2 cb4, .slice ax4 ns2 cx4, .slice af4 nf2 cf4]
          obtain ⟨y9, hy9⟩ : ∃ y, y8.setRow (y6.heap.size) #[.int .i64 W2, .int .i64 H2, .slice al4 nl2 cl4, .slice ad4 nd2 cd4, .slice an4 nn2 cn4, .slice ab4 nb2 cb4, .slice ax4 ns2 cx4, .slice af4 nf2 cf4] = y := ⟨_, rfl⟩
          have hO : ∀ k, k ≠ y6.heap.size → y9.heap[k]? = y8.heap[k]? := fun k hk => by rw [← hy9]; exact setRow_other _ _ _ _ hk
          rw [hy9] at hN HUx ⊢
          clear hy9
          have HU9 := Lib.hid HUx
          clear HUx
          have hr9_0 := (hO _ (by omega)).trans hr8_0
          have hr9_1 := (hO _ (by omega)).trans hr8_1
          have hr9_2 := (hO _ (by omega)).trans hr8_2
          have hr9_3 := (hO _ (by omega)).trans hr8_3
          have hr9_4 := hN
          clear hN
          have HQA9 := Lib.hid (HQA8.out.keep (fun b hb => hO b (by omega)))
          have HQB9 := Lib.hid (HQB8.out.keep (fun b hb => hO b (by omega)))
          refine hK.out _ _ (⟨(hO _ (by omega)).trans hS8s.1, (hO _ (by omega)).trans hS8s.2.1, (hO _ (by omega)).trans hS8s.2.2⟩) (fun hS9s => ?_)
          clear hK K
          refine wpAnyH_done (by kernel_rfl) ?_ _
          go_wp2_with fail
          go_meet
          exact ⟨_, _, (⟨al3, cl3, ad3, cd3, an3, cn3, ab3, cb3, ax3, cx3, af3, cf3⟩ : Pl), (⟨al4, cl4, ad4, cd4, an4, cn4, ab4, cb4, ax4, cx4, af4, cf4⟩ : Pl), rfl, rfl, hr9_3, hr9_4, hr9_0, hr9_1, hr9_2, Lib.hid HQA9.out.fat, Lib.hid HQB9.out.fat, HU9⟩
        · skip
          go_simp
          have hb6 := Ve.below_n1 y5 (.cells #[.int .i64 0, .int .i64 0, .slice none 0 0, .slice none 0 0, .slice none 0 0, .slice none 0 0, .slice none 0 0, .slice none 0 0] 40)
          have hN := heap_alloc_last y5 (.cells #[.int .i64 0, .int .i64 0, .slice none 0 0, .slice none 0 0, .slice none 0 0, .slice none 0 0, .slice none 0 0, .slice none 0 0] 40)
          obtain ⟨y6, hy6⟩ : ∃ y, y5.alloc (.cells #[.int .i64 0, .int .i64 0, .slice none 0 0, .slice none 0 0, .slice none 0 0, .slice none 0 0, .slice none 0 0, .slice none 0 0] 40) = y := ⟨_, rfl⟩
          rw [hy6] at hb6 hN ⊢
          clear hy6
          have hl6_0 := lt_heap hr5_0
          have hr6_0 := (hb6.block _ (lt_heap hr5_0)).trans hr5_0
          have hl6_1 := lt_heap hr5_1
          have hr6_1 := (hb6.block _ (lt_heap hr5_1)).trans hr5_1
          have hl6_2 := lt_heap hr5_2
          have hr6_2 := (hb6.block _ (lt_heap hr5_2)).trans hr5_2
          have hr6_3 := hN
          clear hN
          have HU6 := Lib.hid (HU5.out.trans (hb6.mono HU5.out.size))
          have HQA6 := Lib.hid (HQA5.out.below hb6)
          have HQB6 := Lib.hid (HQB5.out.below hb6)
          have hz6 := lt_heap hr6_3
          refine hK.out _ _ (⟨(hb6.block _ (lt_heap hS5c.1)).trans hS5c.1, (hb6.block _ (lt_heap hS5c.2.1)).trans hS5c.2.1, (hb6.block _ (lt_heap hS5c.2.2)).trans hS5c.2.2⟩) (fun hS6a => ?_)
          clear hK K
          refine wpAnyH_ready (rs := [4]) (by kernel_rfl) (by simp) ?_
          refine AllReadyH.cons rfl (fun K hK => ?_) AllReadyH.nil
          go_simp
          have hb7 := Ve.below_n1 y6 (.cells #[.int .i64 0, .int .i64 0, .slice none 0 0, .slice none 0 0, .slice none 0 0, .slice none 0 0, .slice none 0 0, .slice none 0 0] 40)
          have hN := heap_alloc_last y6 (.cells #[.int .i64 0, .int .i64 0, .slice none 0 0, .slice none 0 0, .slice none 0 0, .slice none 0 0, .slice none 0 0, .slice none 0 0] 40)
          obtain ⟨y7, hy7⟩ : ∃ y, y6.alloc (.cells #[.int .i64 0, .int .i64 0, .slice none 0 0, .slice none 0 0, .slice none 0 0, .slice none 0 0, .slice none 0 0, .slice none 0 0] 40) = y := ⟨_, rfl⟩
          rw [hy7] at hb7 hN ⊢
          clear hy7
          have hl7_0 := lt_heap hr6_0
          have hr7_0 := (hb7.block _ (lt_heap hr6_0)).trans hr6_0
          have hl7_1 := lt_heap hr6_1
          have hr7_1 := (hb7.block _ (lt_heap hr6_1)).trans hr6_1
          have hl7_2 := lt_heap hr6_2
          have hr7_2 := (hb7.block _ (lt_heap hr6_2)).trans hr6_2
          have hl7_3 := lt_heap hr6_3
          have hr7_3 := (hb7.block _ (lt_heap hr6_3)).trans hr6_3
          have hr7_4 := hN
          clear hN
          have HU7 := Lib.hid (HU6.out.trans (hb7.mono HU6.out.size))
          have HQA7 := Lib.hid (HQA6.out.below hb7)
          have HQB7 := Lib.hid (HQB6.out.below hb7)
          have hz7 := lt_heap hr7_4
          refine hK.out _ _ (⟨(hb7.block _ (lt_heap hS6a.1)).trans hS6a.1, (hb7.block _ (lt_heap hS6a.2.1)).trans hS6a.2.1, (hb7.block _ (lt_heap hS6a.2.2)).trans hS6a.2.2⟩) (fun hS7a => ?_)
          clear hK K
          refine wpAnyH_ready (rs := [6]) (by kernel_rfl) (by simp) ?_
          refine AllReadyH.cons rfl (fun K hK => ?_) AllReadyH.nil
          refine step_store_row rfl 40 (.tmp 7) (.tmp 28) rfl #[.int .i64 0, .int .i64 0, .slice none 0 0, .slice none 0 0, .slice none 0 0, .slice none 0 0, .slice none 0 0, .slice none 0 0] #[.int .i64 W, .int .i64 H, .slice al3 nl cl3, .slice ad3 nd cd3, .slice an3 nn cn3, .slice ab3 nb cb3, .slice ax3 ns cx3, .slice af3 nf cf3] _ 40 hr7_4 rfl (by first | rfl | (go_simp; done) | (go_simp; rfl)) (by kernel_rfl) rfl (by simp [Value.oneCell']) ?_
          have hN := setRow_heap _ (y6.heap.size) _ #[.int .i64 W, .int .i64 H, .slice al3 nl cl3, .slice ad3 nd cd3, .slice an3 nn cn3, .slice ab3 nb cb3, .slice ax3 ns cx3, .slice af3 nf cf3] _ _ hr7_4
          have hsz := HU7.out.size
          have HUx := below_setRow (g := y6.heap.size) HU7.out (by first | omega | (simp at *; omega)) #[.int .i64 W, .int .i64 H, .slice al3 nl cl3, .slice ad3 nd cd3, .slice an3 nn cn3, .slice ab3 nb cb3, .slice ax3 ns cx3, .slice af3 nf cf3]
          obtain ⟨y8, hy8⟩ : ∃ y, y7.setRow (y6.heap.size) #[.int .i64 W, .int .i64 H, .slice al3 nl cl3, .slice ad3 nd cd3, .slice an3 nn cn3, .slice ab3 nb cb3, .slice ax3 ns cx3, .slice af3 nf cf3] = y := ⟨_, rfl⟩
          have hO : ∀ k, k ≠ y6.heap.size → y8.heap[k]? = y7.heap[k]? := fun k hk => by rw [← hy8]; exact setRow_other _ _ _ _ hk
          rw [hy8] at hN HUx ⊢
          clear hy8
          have HU8 := Lib.hid HUx
          clear HUx
          have hr8_0 := (hO _ (by omega)).trans hr7_0
          have hr8_1 := (hO _ (by omega)).trans hr7_1
          have hr8_2 := (hO _ (by omega)).trans hr7_2
          have hr8_3 := (hO _ (by omega)).trans hr7_3
          have hr8_4 := hN
          clear hN
          have HQA8 := Lib.hid (HQA7.out.keep (fun b hb => hO b (by omega)))
          have HQB8 := Lib.hid (HQB7.out.keep (fun b hb => hO b (by omega)))
          refine hK.out _ _ (⟨(hO _ (by omega)).trans hS7a.1, (hO _ (by omega)).trans hS7a.2.1, (hO _ (by omega)).trans hS7a.2.2⟩) (fun hS8s => ?_)
          clear hK K
          refine wpAnyH_ready (rs := [7]) (by kernel_rfl) (by simp) ?_
          refine AllReadyH.cons rfl (fun K hK => ?_) AllReadyH.nil
          refine step_store_row rfl 40 (.tmp 8) (.tmp 30) rfl #[.int .i64 0, .int .i64 0, .slice none 0 0, .slice none 0 0, .slice none 0 0, .slice none 0 0, .slice none 0 0, .slice none 0 0] #[.int .i64 W2, .int .i64 H2, .slice al4 nl2 cl4, .slice ad4 nd2 cd4, .slice an4 nn2 cn4, .slice ab4 nb2 cb4, .slice ax4 ns2 cx4, .slice af4 nf2 cf4] _ 40 hr8_3 rfl (by first | rfl | (go_simp; done) | (go_simp; rfl)) (by kernel_rfl) rfl (by simp [Value.oneCell']) ?_
          have hN := setRow_heap _ (y5.heap.size) _ #[.int .i64 W2, .int .i64 H2, .slice al4 nl2 cl4, .slice ad4 nd2 cd4, .slice an4 nn2 cn4, .slice ab4 nb2 cb4, .slice ax4 ns2 cx4, .slice af4 nf2 cf4] _ _ hr8_3
          have hsz := HU8.out.size
          have HUx := below_setRow (g := y5.heap.size) HU8.out (by first | omega | (simp at *; omega)) #[.int .i64 W2, .int .i64 H2, .slice al4 nl2 cl4, .slice ad4 nd2 cd4, .slice an4 nn2 cn4, .slice ab4 nb2 cb4, .slice ax4 ns2 cx4, .slice af4 nf2 cf4]
          obtain ⟨y9, hy9⟩ : ∃ y, y8.setRow (y5.heap.size) #[.int .i64 W2, .int .i64 H2, .slice al4 nl2 cl4, .slice ad4 nd2 cd4, .slice an4 nn2 cn4, .slice ab4 nb2 cb4, .slice ax4 ns2 cx4, .slice af4 nf2 cf4] = y := ⟨_, rfl⟩
          have hO : ∀ k, k ≠ y5.heap.size → y9.heap[k]? = y8.heap[k]? := fun k hk => by rw [← hy9]; exact setRow_other _ _ _ _ hk
          rw [hy9] at hN HUx ⊢
          clear hy9
          have HU9 := Lib.hid HUx
          clear HUx
          have hr9_0 := (hO _ (by omega)).trans hr8_0
          have hr9_1 := (hO _ (by omega)).trans hr8_1
          have hr9_2 := (hO _ (by omega)).trans hr8_2
          have hr9_3 := hN
          have hr9_4 := (hO _ (by omega)).trans hr8_4
          clear hN
          have HQA9 := Lib.hid (HQA8.out.keep (fun b hb => hO b (by omega)))
          have HQB9 := Lib.hid (HQB8.out.keep (fun b hb => hO b (by omega)))
          refine hK.out _ _ (⟨(hO _ (by omega)).trans hS8s.1, (hO _ (by omega)).trans hS8s.2.1, (hO _ (by omega)).trans hS8s.2.2⟩) (fun hS9s => ?_)
          clear hK K
          refine wpAnyH_done (by kernel_rfl) ?_ _
          go_wp2_with fail
          go_meet
          exact ⟨_, _, (⟨al3, cl3, ad3, cd3, an3, cn3, ab3, cb3, ax3, cx3, af3, cf3⟩ : Pl), (⟨al4, cl4, ad4, cd4, an4, cn4, ab4, cb4, ax4, cx4, af4, cf4⟩ : Pl), rfl, rfl, hr9_4, hr9_3, hr9_0, hr9_1, hr9_2, Lib.hid HQA9.out.fat, Lib.hid HQB9.out.fat, HU9⟩
      · skip
        go_simp
        have hb5 := Ve.below_n1 y4 (.cells #[.int .i64 0, .int .i64 0, .slice none 0 0, .slice none 0 0, .slice none 0 0, .slice none 0 0, .slice none 0 0, .slice none 0 0] 40)
        have hN := heap_alloc_last y4 (.cells #[.int .i64 0, .int .i64 0, .slice none 0 0, .slice none 0 0, .slice none 0 0, .slice none 0 0, .slice none 0 0, .slice none 0 0] 40)
        obtain ⟨y5, hy5⟩ : ∃ y, y4.alloc (.cells #[.int .i64 0, .int .i64 0, .slice none 0 0, .slice none 0 0, .slice none 0 0, .slice none 0 0, .slice none 0 0, .slice none 0 0] 40) = y := ⟨_, rfl⟩
        rw [hy5] at hb5 hN ⊢
        clear hy5
        have hl5_0 := lt_heap hr4_0
        have hr5_0 := (hb5.block _ (lt_heap hr4_0)).trans hr4_0
        have hl5_1 := lt_heap hr4_1
        have hr5_1 := (hb5.block _ (lt_heap hr4_1)).trans hr4_1
        have hl5_2 := lt_heap hr4_2
        have hr5_2 := (hb5.block _ (lt_heap hr4_2)).trans hr4_2
        have hr5_3 := hN
        clear hN
        have HU5 := Lib.hid (HU4.out.trans (hb5.mono HU4.out.size))
        have HQA5 := Lib.hid (HQA4.out.below hb5)
        have hz5 := lt_heap hr5_3
        refine hK.out _ _ (⟨(hb5.block _ (lt_heap hS4c.1)).trans hS4c.1, (hb5.block _ (lt_heap hS4c.2.1)).trans hS4c.2.1, (hb5.block _ (lt_heap hS4c.2.2)).trans hS4c.2.2⟩) (fun hS5a => ?_)
        clear hK K
        refine wpAnyH_ready (rs := [3, 5]) (by kernel_rfl) (by simp) ?_
        refine AllReadyH.cons rfl (fun K hK => ?_) (AllReadyH.cons rfl (fun K hK => ?_) AllReadyH.nil)
        · skip
          go_simp
          go_wp2_with (go_at_call 7; refine (to_film_q (⟨W2, H2, nl2, nd2, nn2, nb2, ns2, nf2, L2, D2, N2, B2, S2, F2⟩ : Flm) (⟨al2, cl2, ad2, cd2, an2, cn2, ab2, cb2, ax2, cx2, af2, cf2⟩ : Pl) _ (HC2.out.at_.on HU5.out) HC2.out.bl HC2.out.bd HC2.out.bn HC2.out.bb HC2.out.bs HC2.out.bf HC2.out.ks HC2.out.kf).mono ?_; rintro e y6 ⟨⟨⟨al4, cl4, ad4, cd4, an4, cn4, ab4, cb4, ax4, cx4, af4, cf4⟩, rfl, hq2⟩, hb6⟩)
          have hr6_0 := (hb6.block _ (lt_heap hr5_0)).trans hr5_0
          have hr6_1 := (hb6.block _ (lt_heap hr5_1)).trans hr5_1
          have hr6_2 := (hb6.block _ (lt_heap hr5_2)).trans hr5_2
          have hr6_3 := (hb6.block _ (lt_heap hr5_3)).trans hr5_3
          have HU6 := Lib.hid (HU5.out.trans (hb6.mono HU5.out.size))
          have HQA6 := Lib.hid (HQA5.out.below hb6)
          have hz6 := hb6.size
          have HQB6 := Lib.hid (hq2.lt)
          refine hK.out _ _ (⟨(hb6.block _ (lt_heap hS5a.1)).trans hS5a.1, (hb6.block _ (lt_heap hS5a.2.1)).trans hS5a.2.1, (hb6.block _ (lt_heap hS5a.2.2)).trans hS5a.2.2⟩) (fun hS6c => ?_)
          clear hK K
          refine wpAnyH_ready (rs := [5]) (by kernel_rfl) (by simp) ?_
          refine AllReadyH.cons rfl (fun K hK => ?_) AllReadyH.nil
          go_simp
          have hb7 := Ve.below_n1 y6 (.cells #[.int .i64 0, .int .i64 0, .slice none 0 0, .slice none 0 0, .slice none 0 0, .slice none 0 0, .slice none 0 0, .slice none 0 0] 40)
          have hN := heap_alloc_last y6 (.cells #[.int .i64 0, .int .i64 0, .slice none 0 0, .slice none 0 0, .slice none 0 0, .slice none 0 0, .slice none 0 0, .slice none 0 0] 40)
          obtain ⟨y7, hy7⟩ : ∃ y, y6.alloc (.cells #[.int .i64 0, .int .i64 0, .slice none 0 0, .slice none 0 0, .slice none 0 0, .slice none 0 0, .slice none 0 0, .slice none 0 0] 40) = y := ⟨_, rfl⟩
          rw [hy7] at hb7 hN ⊢
          clear hy7
          have hl7_0 := lt_heap hr6_0
          have hr7_0 := (hb7.block _ (lt_heap hr6_0)).trans hr6_0
          have hl7_1 := lt_heap hr6_1
          have hr7_1 := (hb7.block _ (lt_heap hr6_1)).trans hr6_1
          have hl7_2 := lt_heap hr6_2
          have hr7_2 := (hb7.block _ (lt_heap hr6_2)).trans hr6_2
          have hl7_3 := lt_heap hr6_3
          have hr7_3 := (hb7.block _ (lt_heap hr6_3)).trans hr6_3
          have hr7_4 := hN
          clear hN
          have HU7 := Lib.hid (HU6.out.trans (hb7.mono HU6.out.size))
          have HQA7 := Lib.hid (HQA6.out.below hb7)
          have HQB7 := Lib.hid (HQB6.out.below hb7)
          have hz7 := lt_heap hr7_4
          refine hK.out _ _ (⟨(hb7.block _ (lt_heap hS6c.1)).trans hS6c.1, (hb7.block _ (lt_heap hS6c.2.1)).trans hS6c.2.1, (hb7.block _ (lt_heap hS6c.2.2)).trans hS6c.2.2⟩) (fun hS7a => ?_)
          clear hK K
          refine wpAnyH_ready (rs := [6]) (by kernel_rfl) (by simp) ?_
          refine AllReadyH.cons rfl (fun K hK => ?_) AllReadyH.nil
          refine step_store_row rfl 40 (.tmp 7) (.tmp 28) rfl #[.int .i64 0, .int .i64 0, .slice none 0 0, .slice none 0 0, .slice none 0 0, .slice none 0 0, .slice none 0 0, .slice none 0 0] #[.int .i64 W, .int .i64 H, .slice al3 nl cl3, .slice ad3 nd cd3, .slice an3 nn cn3, .slice ab3 nb cb3, .slice ax3 ns cx3, .slice af3 nf cf3] _ 40 hr7_3 rfl (by first | rfl | (go_simp; done) | (go_simp; rfl)) (by kernel_rfl) rfl (by simp [Value.oneCell']) ?_
          have hN := setRow_heap _ (y4.heap.size) _ #[.int .i64 W, .int .i64 H, .slice al3 nl cl3, .slice ad3 nd cd3, .slice an3 nn cn3, .slice ab3 nb cb3, .slice ax3 ns cx3, .slice af3 nf cf3] _ _ hr7_3
          have hsz := HU7.out.size
          have HUx := below_setRow (g := y4.heap.size) HU7.out (by first | omega | (simp at *; omega)) #[.int .i64 W, .int .i64 H, .slice al3 nl cl3, .slice ad3 nd cd3, .slice an3 nn cn3, .slice ab3 nb cb3, .slice ax3 ns cx3, .slice af3 nf cf3]
          obtain ⟨y8, hy8⟩ : ∃ y, y7.setRow (y4.heap.size) #[.int .i64 W, .int .i64 H, .slice al3 nl cl3, .slice ad3 nd cd3, .slice an3 nn cn3, .slice ab3 nb cb3, .slice ax3 ns cx3, .slice af3 nf cf3] = y := ⟨_, rfl⟩
          have hO : ∀ k, k ≠ y4.heap.size → y8.heap[k]? = y7.heap[k]? := fun k hk => by rw [← hy8]; exact setRow_other _ _ _ _ hk
          rw [hy8] at hN HUx ⊢
          clear hy8
          have HU8 := Lib.hid HUx
          clear HUx
          have hr8_0 := (hO _ (by omega)).trans hr7_0
          have hr8_1 := (hO _ (by omega)).trans hr7_1
          have hr8_2 := (hO _ (by omega)).trans hr7_2
          have hr8_3 := hN
          have hr8_4 := (hO _ (by omega)).trans hr7_4
          clear hN
          have HQA8 := Lib.hid (HQA7.out.keep (fun b hb => hO b (by omega)))
          have HQB8 := Lib.hid (HQB7.out.keep (fun b hb => hO b (by omega)))
          refine hK.out _ _ (⟨(hO _ (by omega)).trans hS7a.1, (hO _ (by omega)).trans hS7a.2.1, (hO _ (by omega)).trans hS7a.2.2⟩) (fun hS8s => ?_)
          clear hK K
          refine wpAnyH_ready (rs := [7]) (by kernel_rfl) (by simp) ?_
          refine AllReadyH.cons rfl (fun K hK => ?_) AllReadyH.nil
          refine step_store_row rfl 40 (.tmp 8) (.tmp 30) rfl #[.int .i64 0, .int .i64 0, .slice none 0 0, .slice none 0 0, .slice none 0 0, .slice none 0 0, .slice none 0 0, .slice none 0 0] #[.int .i64 W2, .int .i64 H2, .slice al4 nl2 cl4, .slice ad4 nd2 cd4, .slice an4 nn2 cn4, .slice ab4 nb2 cb4, .slice ax4 ns2 cx4, .slice af4 nf2 cf4] _ 40 hr8_4 rfl (by first | rfl | (go_simp; done) | (go_simp; rfl)) (by kernel_rfl) rfl (by simp [Value.oneCell']) ?_
          have hN := setRow_heap _ (y6.heap.size) _ #[.int .i64 W2, .int .i64 H2, .slice al4 nl2 cl4, .slice ad4 nd2 cd4, .slice an4 nn2 cn4, .slice ab4 nb2 cb4, .slice ax4 ns2 cx4, .slice af4 nf2 cf4] _ _ hr8_4
          have hsz := HU8.out.size
          have HUx := below_setRow (g := y6.heap.size) HU8.out (by first | omega | (simp at *; omega)) #[.int .i64 W2, .int .i64 H2, .slice al4 nl2 cl4, .slice ad4 nd2 cd4, .slice an4 nn2 cn4, .slice ab4 nb2 cb4, .slice ax4 ns2 cx4, .slice af4 nf2 cf4]
          obtain ⟨y9, hy9⟩ : ∃ y, y8.setRow (y6.heap.size) #[.int .i64 W2, .int .i64 H2, .slice al4 nl2 cl4, .slice ad4 nd2 cd4, .slice an4 nn2 cn4, .slice ab4 nb2 cb4, .slice ax4 ns2 cx4, .slice af4 nf2 cf4] = y := ⟨_, rfl⟩
          have hO : ∀ k, k ≠ y6.heap.size → y9.heap[k]? = y8.heap[k]? := fun k hk => by rw [← hy9]; exact setRow_other _ _ _ _ hk
          rw [hy9] at hN HUx ⊢
          clear hy9
          have HU9 := Lib.hid HUx
          clear HUx
          have hr9_0 := (hO _ (by omega)).trans hr8_0
          have hr9_1 := (hO _ (by omega)).trans hr8_1
          have hr9_2 := (hO _ (by omega)).trans hr8_2
          have hr9_3 := (hO _ (by omega)).trans hr8_3
          have hr9_4 := hN
          clear hN
          have HQA9 := Lib.hid (HQA8.out.keep (fun b hb => hO b (by omega)))
          have HQB9 := Lib.hid (HQB8.out.keep (fun b hb => hO b (by omega)))
          refine hK.out _ _ (⟨(hO _ (by omega)).trans hS8s.1, (hO _ (by omega)).trans hS8s.2.1, (hO _ (by omega)).trans hS8s.2.2⟩) (fun hS9s => ?_)
          clear hK K
          refine wpAnyH_done (by kernel_rfl) ?_ _
          go_wp2_with fail
          go_meet
          exact ⟨_, _, (⟨al3, cl3, ad3, cd3, an3, cn3, ab3, cb3, ax3, cx3, af3, cf3⟩ : Pl), (⟨al4, cl4, ad4, cd4, an4, cn4, ab4, cb4, ax4, cx4, af4, cf4⟩ : Pl), rfl, rfl, hr9_3, hr9_4, hr9_0, hr9_1, hr9_2, Lib.hid HQA9.out.fat, Lib.hid HQB9.out.fat, HU9⟩
        · skip
          go_simp
          have hb6 := Ve.below_n1 y5 (.cells #[.int .i64 0, .int .i64 0, .slice none 0 0, .slice none 0 0, .slice none 0 0, .slice none 0 0, .slice none 0 0, .slice none 0 0] 40)
          have hN := heap_alloc_last y5 (.cells #[.int .i64 0, .int .i64 0, .slice none 0 0, .slice none 0 0, .slice none 0 0, .slice none 0 0, .slice none 0 0, .slice none 0 0] 40)
          obtain ⟨y6, hy6⟩ : ∃ y, y5.alloc (.cells #[.int .i64 0, .int .i64 0, .slice none 0 0, .slice none 0 0, .slice none 0 0, .slice none 0 0, .slice none 0 0, .slice none 0 0] 40) = y := ⟨_, rfl⟩
          rw [hy6] at hb6 hN ⊢
          clear hy6
          have hl6_0 := lt_heap hr5_0
          have hr6_0 := (hb6.block _ (lt_heap hr5_0)).trans hr5_0
          have hl6_1 := lt_heap hr5_1
          have hr6_1 := (hb6.block _ (lt_heap hr5_1)).trans hr5_1
          have hl6_2 := lt_heap hr5_2
          have hr6_2 := (hb6.block _ (lt_heap hr5_2)).trans hr5_2
          have hl6_3 := lt_heap hr5_3
          have hr6_3 := (hb6.block _ (lt_heap hr5_3)).trans hr5_3
          have hr6_4 := hN
          clear hN
          have HU6 := Lib.hid (HU5.out.trans (hb6.mono HU5.out.size))
          have HQA6 := Lib.hid (HQA5.out.below hb6)
          have hz6 := lt_heap hr6_4
          refine hK.out _ _ (⟨(hb6.block _ (lt_heap hS5a.1)).trans hS5a.1, (hb6.block _ (lt_heap hS5a.2.1)).trans hS5a.2.1, (hb6.block _ (lt_heap hS5a.2.2)).trans hS5a.2.2⟩) (fun hS6a => ?_)
          clear hK K
          refine wpAnyH_ready (rs := [3]) (by kernel_rfl) (by simp) ?_
          refine AllReadyH.cons rfl (fun K hK => ?_) AllReadyH.nil
          go_simp
          go_wp2_with (go_at_call 7; refine (to_film_q (⟨W2, H2, nl2, nd2, nn2, nb2, ns2, nf2, L2, D2, N2, B2, S2, F2⟩ : Flm) (⟨al2, cl2, ad2, cd2, an2, cn2, ab2, cb2, ax2, cx2, af2, cf2⟩ : Pl) _ (HC2.out.at_.on HU6.out) HC2.out.bl HC2.out.bd HC2.out.bn HC2.out.bb HC2.out.bs HC2.out.bf HC2.out.ks HC2.out.kf).mono ?_; rintro e y7 ⟨⟨⟨al4, cl4, ad4, cd4, an4, cn4, ab4, cb4, ax4, cx4, af4, cf4⟩, rfl, hq2⟩, hb7⟩)
          have hr7_0 := (hb7.block _ (lt_heap hr6_0)).trans hr6_0
          have hr7_1 := (hb7.block _ (lt_heap hr6_1)).trans hr6_1
          have hr7_2 := (hb7.block _ (lt_heap hr6_2)).trans hr6_2
          have hr7_3 := (hb7.block _ (lt_heap hr6_3)).trans hr6_3
          have hr7_4 := (hb7.block _ (lt_heap hr6_4)).trans hr6_4
          have HU7 := Lib.hid (HU6.out.trans (hb7.mono HU6.out.size))
          have HQA7 := Lib.hid (HQA6.out.below hb7)
          have hz7 := hb7.size
          have HQB7 := Lib.hid (hq2.lt)
          refine hK.out _ _ (⟨(hb7.block _ (lt_heap hS6a.1)).trans hS6a.1, (hb7.block _ (lt_heap hS6a.2.1)).trans hS6a.2.1, (hb7.block _ (lt_heap hS6a.2.2)).trans hS6a.2.2⟩) (fun hS7c => ?_)
          clear hK K
          refine wpAnyH_ready (rs := [6]) (by kernel_rfl) (by simp) ?_
          refine AllReadyH.cons rfl (fun K hK => ?_) AllReadyH.nil
          refine step_store_row rfl 40 (.tmp 7) (.tmp 28) rfl #[.int .i64 0, .int .i64 0, .slice none 0 0, .slice none 0 0, .slice none 0 0, .slice none 0 0, .slice none 0 0, .slice none 0 0] #[.int .i64 W, .int .i64 H, .slice al3 nl cl3, .slice ad3 nd cd3, .slice an3 nn cn3, .slice ab3 nb cb3, .slice ax3 ns cx3, .slice af3 nf cf3] _ 40 hr7_3 rfl (by first | rfl | (go_simp; done) | (go_simp; rfl)) (by kernel_rfl) rfl (by simp [Value.oneCell']) ?_
          have hN := setRow_heap _ (y4.heap.size) _ #[.int .i64 W, .int .i64 H, .slice al3 nl cl3, .slice ad3 nd cd3, .slice an3 nn cn3, .slice ab3 nb cb3, .slice ax3 ns cx3, .slice af3 nf cf3] _ _ hr7_3
          have hsz := HU7.out.size
          have HUx := below_setRow (g := y4.heap.size) HU7.out (by first | omega | (simp at *; omega)) #[.int .i64 W, .int .i64 H, .slice al3 nl cl3, .slice ad3 nd cd3, .slice an3 nn cn3, .slice ab3 nb cb3, .slice ax3 ns cx3, .slice af3 nf cf3]
          obtain ⟨y8, hy8⟩ : ∃ y, y7.setRow (y4.heap.size) #[.int .i64 W, .int .i64 H, .slice al3 nl cl3, .slice ad3 nd cd3, .slice an3 nn cn3, .slice ab3 nb cb3, .slice ax3 ns cx3, .slice af3 nf cf3] = y := ⟨_, rfl⟩
          have hO : ∀ k, k ≠ y4.heap.size → y8.heap[k]? = y7.heap[k]? := fun k hk => by rw [← hy8]; exact setRow_other _ _ _ _ hk
          rw [hy8] at hN HUx ⊢
          clear hy8
          have HU8 := Lib.hid HUx
          clear HUx
          have hr8_0 := (hO _ (by omega)).trans hr7_0
          have hr8_1 := (hO _ (by omega)).trans hr7_1
          have hr8_2 := (hO _ (by omega)).trans hr7_2
          have hr8_3 := hN
          have hr8_4 := (hO _ (by omega)).trans hr7_4
          clear hN
          have HQA8 := Lib.hid (HQA7.out.keep (fun b hb => hO b (by omega)))
          have HQB8 := Lib.hid (HQB7.out.keep (fun b hb => hO b (by omega)))
          refine hK.out _ _ (⟨(hO _ (by omega)).trans hS7c.1, (hO _ (by omega)).trans hS7c.2.1, (hO _ (by omega)).trans hS7c.2.2⟩) (fun hS8s => ?_)
          clear hK K
          refine wpAnyH_ready (rs := [7]) (by kernel_rfl) (by simp) ?_
          refine AllReadyH.cons rfl (fun K hK => ?_) AllReadyH.nil
          refine step_store_row rfl 40 (.tmp 8) (.tmp 30) rfl #[.int .i64 0, .int .i64 0, .slice none 0 0, .slice none 0 0, .slice none 0 0, .slice none 0 0, .slice none 0 0, .slice none 0 0] #[.int .i64 W2, .int .i64 H2, .slice al4 nl2 cl4, .slice ad4 nd2 cd4, .slice an4 nn2 cn4, .slice ab4 nb2 cb4, .slice ax4 ns2 cx4, .slice af4 nf2 cf4] _ 40 hr8_4 rfl (by first | rfl | (go_simp; done) | (go_simp; rfl)) (by kernel_rfl) rfl (by simp [Value.oneCell']) ?_
          have hN := setRow_heap _ (y5.heap.size) _ #[.int .i64 W2, .int .i64 H2, .slice al4 nl2 cl4, .slice ad4 nd2 cd4, .slice an4 nn2 cn4, .slice ab4 nb2 cb4, .slice ax4 ns2 cx4, .slice af4 nf2 cf4] _ _ hr8_4
          have hsz := HU8.out.size
          have HUx := below_setRow (g := y5.heap.size) HU8.out (by first | omega | (simp at *; omega)) #[.int .i64 W2, .int .i64 H2, .slice al4 nl2 cl4, .slice ad4 nd2 cd4, .slice an4 nn2 cn4, .slice ab4 nb2 cb4, .slice ax4 ns2 cx4, .slice af4 nf2 cf4]
          obtain ⟨y9, hy9⟩ : ∃ y, y8.setRow (y5.heap.size) #[.int .i64 W2, .int .i64 H2, .slice al4 nl2 cl4, .slice ad4 nd2 cd4, .slice an4 nn2 cn4, .slice ab4 nb2 cb4, .slice ax4 ns2 cx4, .slice af4 nf2 cf4] = y := ⟨_, rfl⟩
          have hO : ∀ k, k ≠ y5.heap.size → y9.heap[k]? = y8.heap[k]? := fun k hk => by rw [← hy9]; exact setRow_other _ _ _ _ hk
          rw [hy9] at hN HUx ⊢
          clear hy9
          have HU9 := Lib.hid HUx
          clear HUx
          have hr9_0 := (hO _ (by omega)).trans hr8_0
          have hr9_1 := (hO _ (by omega)).trans hr8_1
          have hr9_2 := (hO _ (by omega)).trans hr8_2
          have hr9_3 := (hO _ (by omega)).trans hr8_3
          have hr9_4 := hN
          clear hN
          have HQA9 := Lib.hid (HQA8.out.keep (fun b hb => hO b (by omega)))
          have HQB9 := Lib.hid (HQB8.out.keep (fun b hb => hO b (by omega)))
          refine hK.out _ _ (⟨(hO _ (by omega)).trans hS8s.1, (hO _ (by omega)).trans hS8s.2.1, (hO _ (by omega)).trans hS8s.2.2⟩) (fun hS9s => ?_)
          clear hK K
          refine wpAnyH_done (by kernel_rfl) ?_ _
          go_wp2_with fail
          go_meet
          exact ⟨_, _, (⟨al3, cl3, ad3, cd3, an3, cn3, ab3, cb3, ax3, cx3, af3, cf3⟩ : Pl), (⟨al4, cl4, ad4, cd4, an4, cn4, ab4, cb4, ax4, cx4, af4, cf4⟩ : Pl), rfl, rfl, hr9_3, hr9_4, hr9_0, hr9_1, hr9_2, Lib.hid HQA9.out.fat, Lib.hid HQB9.out.fat, HU9⟩
      · skip
        go_simp
        have hb5 := Ve.below_n1 y4 (.cells #[.int .i64 0, .int .i64 0, .slice none 0 0, .slice none 0 0, .slice none 0 0, .slice none 0 0, .slice none 0 0, .slice none 0 0] 40)
        have hN := heap_alloc_last y4 (.cells #[.int .i64 0, .int .i64 0, .slice none 0 0, .slice none 0 0, .slice none 0 0, .slice none 0 0, .slice none 0 0, .slice none 0 0] 40)
        obtain ⟨y5, hy5⟩ : ∃ y, y4.alloc (.cells #[.int .i64 0, .int .i64 0, .slice none 0 0, .slice none 0 0, .slice none 0 0, .slice none 0 0, .slice none 0 0, .slice none 0 0] 40) = y := ⟨_, rfl⟩
        rw [hy5] at hb5 hN ⊢
        clear hy5
        have hl5_0 := lt_heap hr4_0
        have hr5_0 := (hb5.block _ (lt_heap hr4_0)).trans hr4_0
        have hl5_1 := lt_heap hr4_1
        have hr5_1 := (hb5.block _ (lt_heap hr4_1)).trans hr4_1
        have hl5_2 := lt_heap hr4_2
        have hr5_2 := (hb5.block _ (lt_heap hr4_2)).trans hr4_2
        have hr5_3 := hN
        clear hN
        have HU5 := Lib.hid (HU4.out.trans (hb5.mono HU4.out.size))
        have HQA5 := Lib.hid (HQA4.out.below hb5)
        have hz5 := lt_heap hr5_3
        refine hK.out _ _ (⟨(hb5.block _ (lt_heap hS4c.1)).trans hS4c.1, (hb5.block _ (lt_heap hS4c.2.1)).trans hS4c.2.1, (hb5.block _ (lt_heap hS4c.2.2)).trans hS4c.2.2⟩) (fun hS5a => ?_)
        clear hK K
        refine wpAnyH_ready (rs := [3, 4]) (by kernel_rfl) (by simp) ?_
        refine AllReadyH.cons rfl (fun K hK => ?_) (AllReadyH.cons rfl (fun K hK => ?_) AllReadyH.nil)
        · skip
          go_simp
          go_wp2_with (go_at_call 7; refine (to_film_q (⟨W2, H2, nl2, nd2, nn2, nb2, ns2, nf2, L2, D2, N2, B2, S2, F2⟩ : Flm) (⟨al2, cl2, ad2, cd2, an2, cn2, ab2, cb2, ax2, cx2, af2, cf2⟩ : Pl) _ (HC2.out.at_.on HU5.out) HC2.out.bl HC2.out.bd HC2.out.bn HC2.out.bb HC2.out.bs HC2.out.bf HC2.out.ks HC2.out.kf).mono ?_; rintro e y6 ⟨⟨⟨al4, cl4, ad4, cd4, an4, cn4, ab4, cb4, ax4, cx4, af4, cf4⟩, rfl, hq2⟩, hb6⟩)
          have hr6_0 := (hb6.block _ (lt_heap hr5_0)).trans hr5_0
          have hr6_1 := (hb6.block _ (lt_heap hr5_1)).trans hr5_1
          have hr6_2 := (hb6.block _ (lt_heap hr5_2)).trans hr5_2
          have hr6_3 := (hb6.block _ (lt_heap hr5_3)).trans hr5_3
          have HU6 := Lib.hid (HU5.out.trans (hb6.mono HU5.out.size))
          have HQA6 := Lib.hid (HQA5.out.below hb6)
          have hz6 := hb6.size
          have HQB6 := Lib.hid (hq2.lt)
          refine hK.out _ _ (⟨(hb6.block _ (lt_heap hS5a.1)).trans hS5a.1, (hb6.block _ (lt_heap hS5a.2.1)).trans hS5a.2.1, (hb6.block _ (lt_heap hS5a.2.2)).trans hS5a.2.2⟩) (fun hS6c => ?_)
          clear hK K
          refine wpAnyH_ready (rs := [4]) (by kernel_rfl) (by simp) ?_
          refine AllReadyH.cons rfl (fun K hK => ?_) AllReadyH.nil
          go_simp
          have hb7 := Ve.below_n1 y6 (.cells #[.int .i64 0, .int .i64 0, .slice none 0 0, .slice none 0 0, .slice none 0 0, .slice none 0 0, .slice none 0 0, .slice none 0 0] 40)
          have hN := heap_alloc_last y6 (.cells #[.int .i64 0, .int .i64 0, .slice none 0 0, .slice none 0 0, .slice none 0 0, .slice none 0 0, .slice none 0 0, .slice none 0 0] 40)
          obtain ⟨y7, hy7⟩ : ∃ y, y6.alloc (.cells #[.int .i64 0, .int .i64 0, .slice none 0 0, .slice none 0 0, .slice none 0 0, .slice none 0 0, .slice none 0 0, .slice none 0 0] 40) = y := ⟨_, rfl⟩
          rw [hy7] at hb7 hN ⊢
          clear hy7
          have hl7_0 := lt_heap hr6_0
          have hr7_0 := (hb7.block _ (lt_heap hr6_0)).trans hr6_0
          have hl7_1 := lt_heap hr6_1
          have hr7_1 := (hb7.block _ (lt_heap hr6_1)).trans hr6_1
          have hl7_2 := lt_heap hr6_2
          have hr7_2 := (hb7.block _ (lt_heap hr6_2)).trans hr6_2
          have hl7_3 := lt_heap hr6_3
          have hr7_3 := (hb7.block _ (lt_heap hr6_3)).trans hr6_3
          have hr7_4 := hN
          clear hN
          have HU7 := Lib.hid (HU6.out.trans (hb7.mono HU6.out.size))
          have HQA7 := Lib.hid (HQA6.out.below hb7)
          have HQB7 := Lib.hid (HQB6.out.below hb7)
          have hz7 := lt_heap hr7_4
          refine hK.out _ _ (⟨(hb7.block _ (lt_heap hS6c.1)).trans hS6c.1, (hb7.block _ (lt_heap hS6c.2.1)).trans hS6c.2.1, (hb7.block _ (lt_heap hS6c.2.2)).trans hS6c.2.2⟩) (fun hS7a => ?_)
          clear hK K
          refine wpAnyH_ready (rs := [6]) (by kernel_rfl) (by simp) ?_
          refine AllReadyH.cons rfl (fun K hK => ?_) AllReadyH.nil
          refine step_store_row rfl 40 (.tmp 7) (.tmp 28) rfl #[.int .i64 0, .int .i64 0, .slice none 0 0, .slice none 0 0, .slice none 0 0, .slice none 0 0, .slice none 0 0, .slice none 0 0] #[.int .i64 W, .int .i64 H, .slice al3 nl cl3, .slice ad3 nd cd3, .slice an3 nn cn3, .slice ab3 nb cb3, .slice ax3 ns cx3, .slice af3 nf cf3] _ 40 hr7_4 rfl (by first | rfl | (go_simp; done) | (go_simp; rfl)) (by kernel_rfl) rfl (by simp [Value.oneCell']) ?_
          have hN := setRow_heap _ (y6.heap.size) _ #[.int .i64 W, .int .i64 H, .slice al3 nl cl3, .slice ad3 nd cd3, .slice an3 nn cn3, .slice ab3 nb cb3, .slice ax3 ns cx3, .slice af3 nf cf3] _ _ hr7_4
          have hsz := HU7.out.size
          have HUx := below_setRow (g := y6.heap.size) HU7.out (by first | omega | (simp at *; omega)) #[.int .i64 W, .int .i64 H, .slice al3 nl cl3, .slice ad3 nd cd3, .slice an3 nn cn3, .slice ab3 nb cb3, .slice ax3 ns cx3, .slice af3 nf cf3]
          obtain ⟨y8, hy8⟩ : ∃ y, y7.setRow (y6.heap.size) #[.int .i64 W, .int .i64 H, .slice al3 nl cl3, .slice ad3 nd cd3, .slice an3 nn cn3, .slice ab3 nb cb3, .slice ax3 ns cx3, .slice af3 nf cf3] = y := ⟨_, rfl⟩
          have hO : ∀ k, k ≠ y6.heap.size → y8.heap[k]? = y7.heap[k]? := fun k hk => by rw [← hy8]; exact setRow_other _ _ _ _ hk
          rw [hy8] at hN HUx ⊢
          clear hy8
          have HU8 := Lib.hid HUx
          clear HUx
          have hr8_0 := (hO _ (by omega)).trans hr7_0
          have hr8_1 := (hO _ (by omega)).trans hr7_1
          have hr8_2 := (hO _ (by omega)).trans hr7_2
          have hr8_3 := (hO _ (by omega)).trans hr7_3
          have hr8_4 := hN
          clear hN
          have HQA8 := Lib.hid (HQA7.out.keep (fun b hb => hO b (by omega)))
          have HQB8 := Lib.hid (HQB7.out.keep (fun b hb => hO b (by omega)))
          refine hK.out _ _ (⟨(hO _ (by omega)).trans hS7a.1, (hO _ (by omega)).trans hS7a.2.1, (hO _ (by omega)).trans hS7a.2.2⟩) (fun hS8s => ?_)
          clear hK K
          refine wpAnyH_ready (rs := [7]) (by kernel_rfl) (by simp) ?_
          refine AllReadyH.cons rfl (fun K hK => ?_) AllReadyH.nil
          refine step_store_row rfl 40 (.tmp 8) (.tmp 30) rfl #[.int .i64 0, .int .i64 0, .slice none 0 0, .slice none 0 0, .slice none 0 0, .slice none 0 0, .slice none 0 0, .slice none 0 0] #[.int .i64 W2, .int .i64 H2, .slice al4 nl2 cl4, .slice ad4 nd2 cd4, .slice an4 nn2 cn4, .slice ab4 nb2 cb4, .slice ax4 ns2 cx4, .slice af4 nf2 cf4] _ 40 hr8_3 rfl (by first | rfl | (go_simp; done) | (go_simp; rfl)) (by kernel_rfl) rfl (by simp [Value.oneCell']) ?_
          have hN := setRow_heap _ (y4.heap.size) _ #[.int .i64 W2, .int .i64 H2, .slice al4 nl2 cl4, .slice ad4 nd2 cd4, .slice an4 nn2 cn4, .slice ab4 nb2 cb4, .slice ax4 ns2 cx4, .slice af4 nf2 cf4] _ _ hr8_3
          have hsz := HU8.out.size
          have HUx := below_setRow (g := y4.heap.size) HU8.out (by first | omega | (simp at *; omega)) #[.int .i64 W2, .int .i64 H2, .slice al4 nl2 cl4, .slice ad4 nd2 cd4, .slice an4 nn2 cn4, .slice ab4 nb2 cb4, .slice ax4 ns2 cx4, .slice af4 nf2 cf4]
          obtain ⟨y9, hy9⟩ : ∃ y, y8.setRow (y4.heap.size) #[.int .i64 W2, .int .i64 H2, .slice al4 nl2 cl4, .slice ad4 nd2 cd4, .slice an4 nn2 cn4, .slice ab4 nb2 cb4, .slice ax4 ns2 cx4, .slice af4 nf2 cf4] = y := ⟨_, rfl⟩
          have hO : ∀ k, k ≠ y4.heap.size → y9.heap[k]? = y8.heap[k]? := fun k hk => by rw [← hy9]; exact setRow_other _ _ _ _ hk
          rw [hy9] at hN HUx ⊢
          clear hy9
          have HU9 := Lib.hid HUx
          clear HUx
          have hr9_0 := (hO _ (by omega)).trans hr8_0
          have hr9_1 := (hO _ (by omega)).trans hr8_1
          have hr9_2 := (hO _ (by omega)).trans hr8_2
          have hr9_3 := hN
          have hr9_4 := (hO _ (by omega)).trans hr8_4
          clear hN
          have HQA9 := Lib.hid (HQA8.out.keep (fun b hb => hO b (by omega)))
          have HQB9 := Lib.hid (HQB8.out.keep (fun b hb => hO b (by omega)))
          refine hK.out _ _ (⟨(hO _ (by omega)).trans hS8s.1, (hO _ (by omega)).trans hS8s.2.1, (hO _ (by omega)).trans hS8s.2.2⟩) (fun hS9s => ?_)
          clear hK K
          refine wpAnyH_done (by kernel_rfl) ?_ _
          go_wp2_with fail
          go_meet
          exact ⟨_, _, (⟨al3, cl3, ad3, cd3, an3, cn3, ab3, cb3, ax3, cx3, af3, cf3⟩ : Pl), (⟨al4, cl4, ad4, cd4, an4, cn4, ab4, cb4, ax4, cx4, af4, cf4⟩ : Pl), rfl, rfl, hr9_4, hr9_3, hr9_0, hr9_1, hr9_2, Lib.hid HQA9.out.fat, Lib.hid HQB9.out.fat, HU9⟩
        · skip
          go_simp
          have hb6 := Ve.below_n1 y5 (.cells #[.int .i64 0, .int .i64 0, .slice none 0 0, .slice none 0 0, .slice none 0 0, .slice none 0 0, .slice none 0 0, .slice none 0 0] 40)
          have hN := heap_alloc_last y5 (.cells #[.int .i64 0, .int .i64 0, .slice none 0 0, .slice none 0 0, .slice none 0 0, .slice none 0 0, .slice none 0 0, .slice none 0 0] 40)
          obtain ⟨y6, hy6⟩ : ∃ y, y5.alloc (.cells #[.int .i64 0, .int .i64 0, .slice none 0 0, .slice none 0 0, .slice none 0 0, .slice none 0 0, .slice none 0 0, .slice none 0 0] 40) = y := ⟨_, rfl⟩
          rw [hy6] at hb6 hN ⊢
          clear hy6
          have hl6_0 := lt_heap hr5_0
          have hr6_0 := (hb6.block _ (lt_heap hr5_0)).trans hr5_0
          have hl6_1 := lt_heap hr5_1
          have hr6_1 := (hb6.block _ (lt_heap hr5_1)).trans hr5_1
          have hl6_2 := lt_heap hr5_2
          have hr6_2 := (hb6.block _ (lt_heap hr5_2)).trans hr5_2
          have hl6_3 := lt_heap hr5_3
          have hr6_3 := (hb6.block _ (lt_heap hr5_3)).trans hr5_3
          have hr6_4 := hN
          clear hN
          have HU6 := Lib.hid (HU5.out.trans (hb6.mono HU5.out.size))
          have HQA6 := Lib.hid (HQA5.out.below hb6)
          have hz6 := lt_heap hr6_4
          refine hK.out _ _ (⟨(hb6.block _ (lt_heap hS5a.1)).trans hS5a.1, (hb6.block _ (lt_heap hS5a.2.1)).trans hS5a.2.1, (hb6.block _ (lt_heap hS5a.2.2)).trans hS5a.2.2⟩) (fun hS6a => ?_)
          clear hK K
          refine wpAnyH_ready (rs := [3]) (by kernel_rfl) (by simp) ?_
          refine AllReadyH.cons rfl (fun K hK => ?_) AllReadyH.nil
          go_simp
          go_wp2_with (go_at_call 7; refine (to_film_q (⟨W2, H2, nl2, nd2, nn2, nb2, ns2, nf2, L2, D2, N2, B2, S2, F2⟩ : Flm) (⟨al2, cl2, ad2, cd2, an2, cn2, ab2, cb2, ax2, cx2, af2, cf2⟩ : Pl) _ (HC2.out.at_.on HU6.out) HC2.out.bl HC2.out.bd HC2.out.bn HC2.out.bb HC2.out.bs HC2.out.bf HC2.out.ks HC2.out.kf).mono ?_; rintro e y7 ⟨⟨⟨al4, cl4, ad4, cd4, an4, cn4, ab4, cb4, ax4, cx4, af4, cf4⟩, rfl, hq2⟩, hb7⟩)
          have hr7_0 := (hb7.block _ (lt_heap hr6_0)).trans hr6_0
          have hr7_1 := (hb7.block _ (lt_heap hr6_1)).trans hr6_1
          have hr7_2 := (hb7.block _ (lt_heap hr6_2)).trans hr6_2
          have hr7_3 := (hb7.block _ (lt_heap hr6_3)).trans hr6_3
          have hr7_4 := (hb7.block _ (lt_heap hr6_4)).trans hr6_4
          have HU7 := Lib.hid (HU6.out.trans (hb7.mono HU6.out.size))
          have HQA7 := Lib.hid (HQA6.out.below hb7)
          have hz7 := hb7.size
          have HQB7 := Lib.hid (hq2.lt)
          refine hK.out _ _ (⟨(hb7.block _ (lt_heap hS6a.1)).trans hS6a.1, (hb7.block _ (lt_heap hS6a.2.1)).trans hS6a.2.1, (hb7.block _ (lt_heap hS6a.2.2)).trans hS6a.2.2⟩) (fun hS7c => ?_)
          clear hK K
          refine wpAnyH_ready (rs := [6]) (by kernel_rfl) (by simp) ?_
          refine AllReadyH.cons rfl (fun K hK => ?_) AllReadyH.nil
          refine step_store_row rfl 40 (.tmp 7) (.tmp 28) rfl #[.int .i64 0, .int .i64 0, .slice none 0 0, .slice none 0 0, .slice none 0 0, .slice none 0 0, .slice none 0 0, .slice none 0 0] #[.int .i64 W, .int .i64 H, .slice al3 nl cl3, .slice ad3 nd cd3, .slice an3 nn cn3, .slice ab3 nb cb3, .slice ax3 ns cx3, .slice af3 nf cf3] _ 40 hr7_4 rfl (by first | rfl | (go_simp; done) | (go_simp; rfl)) (by kernel_rfl) rfl (by simp [Value.oneCell']) ?_
          have hN := setRow_heap _ (y5.heap.size) _ #[.int .i64 W, .int .i64 H, .slice al3 nl cl3, .slice ad3 nd cd3, .slice an3 nn cn3, .slice ab3 nb cb3, .slice ax3 ns cx3, .slice af3 nf cf3] _ _ hr7_4
          have hsz := HU7.out.size
          have HUx := below_setRow (g := y5.heap.size) HU7.out (by first | omega | (simp at *; omega)) #[.int .i64 W, .int .i64 H, .slice al3 nl cl3, .slice ad3 nd cd3, .slice an3 nn cn3, .slice ab3 nb cb3, .slice ax3 ns cx3, .slice af3 nf cf3]
          obtain ⟨y8, hy8⟩ : ∃ y, y7.setRow (y5.heap.size) #[.int .i64 W, .int .i64 H, .slice al3 nl cl3, .slice ad3 nd cd3, .slice an3 nn cn3, .slice ab3 nb cb3, .slice ax3 ns cx3, .slice af3 nf cf3] = y := ⟨_, rfl⟩
          have hO : ∀ k, k ≠ y5.heap.size → y8.heap[k]? = y7.heap[k]? := fun k hk => by rw [← hy8]; exact setRow_other _ _ _ _ hk
          rw [hy8] at hN HUx ⊢
          clear hy8
          have HU8 := Lib.hid HUx
          clear HUx
          have hr8_0 := (hO _ (by omega)).trans hr7_0
          have hr8_1 := (hO _ (by omega)).trans hr7_1
          have hr8_2 := (hO _ (by omega)).trans hr7_2
          have hr8_3 := (hO _ (by omega)).trans hr7_3
          have hr8_4 := hN
          clear hN
          have HQA8 := Lib.hid (HQA7.out.keep (fun b hb => hO b (by omega)))
          have HQB8 := Lib.hid (HQB7.out.keep (fun b hb => hO b (by omega)))
          refine hK.out _ _ (⟨(hO _ (by omega)).trans hS7c.1, (hO _ (by omega)).trans hS7c.2.1, (hO _ (by omega)).trans hS7c.2.2⟩) (fun hS8s => ?_)
          clear hK K
          refine wpAnyH_ready (rs := [7]) (by kernel_rfl) (by simp) ?_
          refine AllReadyH.cons rfl (fun K hK => ?_) AllReadyH.nil
          refine step_store_row rfl 40 (.tmp 8) (.tmp 30) rfl #[.int .i64 0, .int .i64 0, .slice none 0 0, .slice none 0 0, .slice none 0 0, .slice none 0 0, .slice none 0 0, .slice none 0 0] #[.int .i64 W2, .int .i64 H2, .slice al4 nl2 cl4, .slice ad4 nd2 cd4, .slice an4 nn2 cn4, .slice ab4 nb2 cb4, .slice ax4 ns2 cx4, .slice af4 nf2 cf4] _ 40 hr8_3 rfl (by first | rfl | (go_simp; done) | (go_simp; rfl)) (by kernel_rfl) rfl (by simp [Value.oneCell']) ?_
          have hN := setRow_heap _ (y4.heap.size) _ #[.int .i64 W2, .int .i64 H2, .slice al4 nl2 cl4, .slice ad4 nd2 cd4, .slice an4 nn2 cn4, .slice ab4 nb2 cb4, .slice ax4 ns2 cx4, .slice af4 nf2 cf4] _ _ hr8_3
          have hsz := HU8.out.size
          have HUx := below_setRow (g := y4.heap.size) HU8.out (by first | omega | (simp at *; omega)) #[.int .i64 W2, .int .i64 H2, .slice al4 nl2 cl4, .slice ad4 nd2 cd4, .slice an4 nn2 cn4, .slice ab4 nb2 cb4, .slice ax4 ns2 cx4, .slice af4 nf2 cf4]
          obtain ⟨y9, hy9⟩ : ∃ y, y8.setRow (y4.heap.size) #[.int .i64 W2, .int .i64 H2, .slice al4 nl2 cl4, .slice ad4 nd2 cd4, .slice an4 nn2 cn4, .slice ab4 nb2 cb4, .slice ax4 ns2 cx4, .slice af4 nf2 cf4] = y := ⟨_, rfl⟩
          have hO : ∀ k, k ≠ y4.heap.size → y9.heap[k]? = y8.heap[k]? := fun k hk => by rw [← hy9]; exact setRow_other _ _ _ _ hk
          rw [hy9] at hN HUx ⊢
          clear hy9
          have HU9 := Lib.hid HUx
          clear HUx
          have hr9_0 := (hO _ (by omega)).trans hr8_0
          have hr9_1 := (hO _ (by omega)).trans hr8_1
          have hr9_2 := (hO _ (by omega)).trans hr8_2
          have hr9_3 := hN
          have hr9_4 := (hO _ (by omega)).trans hr8_4
          clear hN
          have HQA9 := Lib.hid (HQA8.out.keep (fun b hb => hO b (by omega)))
          have HQB9 := Lib.hid (HQB8.out.keep (fun b hb => hO b (by omega)))
          refine hK.out _ _ (⟨(hO _ (by omega)).trans hS8s.1, (hO _ (by omega)).trans hS8s.2.1, (hO _ (by omega)).trans hS8s.2.2⟩) (fun hS9s => ?_)
          clear hK K
          refine wpAnyH_done (by kernel_rfl) ?_ _
          go_wp2_with fail
          go_meet
          exact ⟨_, _, (⟨al3, cl3, ad3, cd3, an3, cn3, ab3, cb3, ax3, cx3, af3, cf3⟩ : Pl), (⟨al4, cl4, ad4, cd4, an4, cn4, ab4, cb4, ax4, cx4, af4, cf4⟩ : Pl), rfl, rfl, hr9_4, hr9_3, hr9_0, hr9_1, hr9_2, Lib.hid HQA9.out.fat, Lib.hid HQB9.out.fat, HU9⟩
    · skip
      go_simp
      have hb4 := Ve.below_n1 y3 (.cells #[.int .i64 0, .int .i64 0, .slice none 0 0, .slice none 0 0, .slice none 0 0, .slice none 0 0, .slice none 0 0, .slice none 0 0] 40)
      have hN := heap_alloc_last y3 (.cells #[.int .i64 0, .int .i64 0, .slice none 0 0, .slice none 0 0, .slice none 0 0, .slice none 0 0, .slice none 0 0, .slice none 0 0] 40)
      obtain ⟨y4, hy4⟩ : ∃ y, y3.alloc (.cells #[.int .i64 0, .int .i64 0, .slice none 0 0, .slice none 0 0, .slice none 0 0, .slice none 0 0, .slice none 0 0, .slice none 0 0] 40) = y := ⟨_, rfl⟩
      rw [hy4] at hb4 hN ⊢
      clear hy4
      have hl4_0 := lt_heap hr3_0
      have hr4_0 := (hb4.block _ (lt_heap hr3_0)).trans hr3_0
      have hl4_1 := lt_heap hr3_1
      have hr4_1 := (hb4.block _ (lt_heap hr3_1)).trans hr3_1
      have hl4_2 := lt_heap hr3_2
      have hr4_2 := (hb4.block _ (lt_heap hr3_2)).trans hr3_2
      have hr4_3 := hN
      clear hN
      have HU4 := Lib.hid (HU3.out.trans (hb4.mono HU3.out.size))
      have hz4 := lt_heap hr4_3
      refine hK.out _ _ (⟨(hb4.block _ (lt_heap hS0.1)).trans hS0.1, (hb4.block _ (lt_heap hS0.2.1)).trans hS0.2.1, (hb4.block _ (lt_heap hS0.2.2)).trans hS0.2.2⟩) (fun hS4a => ?_)
      clear hK K
      refine wpAnyH_ready (rs := [1, 5]) (by kernel_rfl) (by simp) ?_
      refine AllReadyH.cons rfl (fun K hK => ?_) (AllReadyH.cons rfl (fun K hK => ?_) AllReadyH.nil)
      · skip
        go_simp
        go_wp2_with (go_at_call 7; refine (to_film_q (⟨W, H, nl, nd, nn, nb, ns, nf, L, D, N, B, S, F⟩ : Flm) (⟨al, cl, ad, cd, an, cn, ab, cb, ax, cx, af, cf⟩ : Pl) _ (HC.out.at_.on HU4.out) HC.out.bl HC.out.bd HC.out.bn HC.out.bb HC.out.bs HC.out.bf HC.out.ks HC.out.kf).mono ?_; rintro e y5 ⟨⟨⟨al3, cl3, ad3, cd3, an3, cn3, ab3, cb3, ax3, cx3, af3, cf3⟩, rfl, hq1⟩, hb5⟩)
        have hr5_0 := (hb5.block _ (lt_heap hr4_0)).trans hr4_0
        have hr5_1 := (hb5.block _ (lt_heap hr4_1)).trans hr4_1
        have hr5_2 := (hb5.block _ (lt_heap hr4_2)).trans hr4_2
        have hr5_3 := (hb5.block _ (lt_heap hr4_3)).trans hr4_3
        have HU5 := Lib.hid (HU4.out.trans (hb5.mono HU4.out.size))
        have hz5 := hb5.size
        have HQA5 := Lib.hid (hq1.lt)
        refine hK.out _ _ (⟨(hb5.block _ (lt_heap hS4a.1)).trans hS4a.1, (hb5.block _ (lt_heap hS4a.2.1)).trans hS4a.2.1, (hb5.block _ (lt_heap hS4a.2.2)).trans hS4a.2.2⟩) (fun hS5c => ?_)
        clear hK K
        refine wpAnyH_ready (rs := [3, 5]) (by kernel_rfl) (by simp) ?_
        refine AllReadyH.cons rfl (fun K hK => ?_) (AllReadyH.cons rfl (fun K hK => ?_) AllReadyH.nil)
        · skip
          go_simp
          go_wp2_with (go_at_call 7; refine (to_film_q (⟨W2, H2, nl2, nd2, nn2, nb2, ns2, nf2, L2, D2, N2, B2, S2, F2⟩ : Flm) (⟨al2, cl2, ad2, cd2, an2, cn2, ab2, cb2, ax2, cx2, af2, cf2⟩ : Pl) _ (HC2.out.at_.on HU5.out) HC2.out.bl HC2.out.bd HC2.out.bn HC2.out.bb HC2.out.bs HC2.out.bf HC2.out.ks HC2.out.kf).mono ?_; rintro e y6 ⟨⟨⟨al4, cl4, ad4, cd4, an4, cn4, ab4, cb4, ax4, cx4, af4, cf4⟩, rfl, hq2⟩, hb6⟩)
          have hr6_0 := (hb6.block _ (lt_heap hr5_0)).trans hr5_0
          have hr6_1 := (hb6.block _ (lt_heap hr5_1)).trans hr5_1
          have hr6_2 := (hb6.block _ (lt_heap hr5_2)).trans hr5_2
          have hr6_3 := (hb6.block _ (lt_heap hr5_3)).trans hr5_3
          have HU6 := Lib.hid (HU5.out.trans (hb6.mono HU5.out.size))
          have HQA6 := Lib.hid (HQA5.out.below hb6)
          have hz6 := hb6.size
          have HQB6 := Lib.hid (hq2.lt)
          refine hK.out _ _ (⟨(hb6.block _ (lt_heap hS5c.1)).trans hS5c.1, (hb6.block _ (lt_heap hS5c.2.1)).trans hS5c.2.1, (hb6.block _ (lt_heap hS5c.2.2)).trans hS5c.2.2⟩) (fun hS6c => ?_)
          clear hK K
          refine wpAnyH_ready (rs := [5]) (by kernel_rfl) (by simp) ?_
          refine AllReadyH.cons rfl (fun K hK => ?_) AllReadyH.nil
          go_simp
          have hb7 := Ve.below_n1 y6 (.cells #[.int .i64 0, .int .i64 0, .slice none 0 0, .slice none 0 0, .slice none 0 0, .slice none 0 0, .slice none 0 0, .slice none 0 0] 40)
          have hN := heap_alloc_last y6 (.cells #[.int .i64 0, .int .i64 0, .slice none 0 0, .slice none 0 0, .slice none 0 0, .slice none 0 0, .slice none 0 0, .slice none 0 0] 40)
          obtain ⟨y7, hy7⟩ : ∃ y, y6.alloc (.cells #[.int .i64 0, .int .i64 0, .slice none 0 0, .slice none 0 0, .slice none 0 0, .slice none 0 0, .slice none 0 0, .slice none 0 0] 40) = y := ⟨_, rfl⟩
          rw [hy7] at hb7 hN ⊢
          clear hy7
          have hl7_0 := lt_heap hr6_0
          have hr7_0 := (hb7.block _ (lt_heap hr6_0)).trans hr6_0
          have hl7_1 := lt_heap hr6_1
          have hr7_1 := (hb7.block _ (lt_heap hr6_1)).trans hr6_1
          have hl7_2 := lt_heap hr6_2
          have hr7_2 := (hb7.block _ (lt_heap hr6_2)).trans hr6_2
          have hl7_3 := lt_heap hr6_3
          have hr7_3 := (hb7.block _ (lt_heap hr6_3)).trans hr6_3
          have hr7_4 := hN
          clear hN
          have HU7 := Lib.hid (HU6.out.trans (hb7.mono HU6.out.size))
          have HQA7 := Lib.hid (HQA6.out.below hb7)
          have HQB7 := Lib.hid (HQB6.out.below hb7)
          have hz7 := lt_heap hr7_4
          refine hK.out _ _ (⟨(hb7.block _ (lt_heap hS6c.1)).trans hS6c.1, (hb7.block _ (lt_heap hS6c.2.1)).trans hS6c.2.1, (hb7.block _ (lt_heap hS6c.2.2)).trans hS6c.2.2⟩) (fun hS7a => ?_)
          clear hK K
          refine wpAnyH_ready (rs := [6]) (by kernel_rfl) (by simp) ?_
          refine AllReadyH.cons rfl (fun K hK => ?_) AllReadyH.nil
          refine step_store_row rfl 40 (.tmp 7) (.tmp 28) rfl #[.int .i64 0, .int .i64 0, .slice none 0 0, .slice none 0 0, .slice none 0 0, .slice none 0 0, .slice none 0 0, .slice none 0 0] #[.int .i64 W, .int .i64 H, .slice al3 nl cl3, .slice ad3 nd cd3, .slice an3 nn cn3, .slice ab3 nb cb3, .slice ax3 ns cx3, .slice af3 nf cf3] _ 40 hr7_3 rfl (by first | rfl | (go_simp; done) | (go_simp; rfl)) (by kernel_rfl) rfl (by simp [Value.oneCell']) ?_
          have hN := setRow_heap _ (y3.heap.size) _ #[.int .i64 W, .int .i64 H, .slice al3 nl cl3, .slice ad3 nd cd3, .slice an3 nn cn3, .slice ab3 nb cb3, .slice ax3 ns cx3, .slice af3 nf cf3] _ _ hr7_3
          have hsz := HU7.out.size
          have HUx := below_setRow (g := y3.heap.size) HU7.out (by first | omega | (simp at *; omega)) #[.int .i64 W, .int .i64 H, .slice al3 nl cl3, .slice ad3 nd cd3, .slice an3 nn cn3, .slice ab3 nb cb3, .slice ax3 ns cx3, .slice af3 nf cf3]
          obtain ⟨y8, hy8⟩ : ∃ y, y7.setRow (y3.heap.size) #[.int .i64 W, .int .i64 H, .slice al3 nl cl3, .slice ad3 nd cd3, .slice an3 nn cn3, .slice ab3 nb cb3, .slice ax3 ns cx3, .slice af3 nf cf3] = y := ⟨_, rfl⟩
          have hO : ∀ k, k ≠ y3.heap.size → y8.heap[k]? = y7.heap[k]? := fun k hk => by rw [← hy8]; exact setRow_other _ _ _ _ hk
          rw [hy8] at hN HUx ⊢
          clear hy8
          have HU8 := Lib.hid HUx
          clear HUx
          have hr8_0 := (hO _ (by omega)).trans hr7_0
          have hr8_1 := (hO _ (by omega)).trans hr7_1
          have hr8_2 := (hO _ (by omega)).trans hr7_2
          have hr8_3 := hN
          have hr8_4 := (hO _ (by omega)).trans hr7_4
          clear hN
          have HQA8 := Lib.hid (HQA7.out.keep (fun b hb => hO b (by omega)))
          have HQB8 := Lib.hid (HQB7.out.keep (fun b hb => hO b (by omega)))
          refine hK.out _ _ (⟨(hO _ (by omega)).trans hS7a.1, (hO _ (by omega)).trans hS7a.2.1, (hO _ (by omega)).trans hS7a.2.2⟩) (fun hS8s => ?_)
          clear hK K
          refine wpAnyH_ready (rs := [7]) (by kernel_rfl) (by simp) ?_
          refine AllReadyH.cons rfl (fun K hK => ?_) AllReadyH.nil
          refine step_store_row rfl 40 (.tmp 8) (.tmp 30) rfl #[.int .i64 0, .int .i64 0, .slice none 0 0, .slice none 0 0, .slice none 0 0, .slice none 0 0, .slice none 0 0, .slice none 0 0] #[.int .i64 W2, .int .i64 H2, .slice al4 nl2 cl4, .slice ad4 nd2 cd4, .slice an4 nn2 cn4, .slice ab4 nb2 cb4, .slice ax4 ns2 cx4, .slice af4 nf2 cf4] _ 40 hr8_4 rfl (by first | rfl | (go_simp; done) | (go_simp; rfl)) (by kernel_rfl) rfl (by simp [Value.oneCell']) ?_
          have hN := setRow_heap _ (y6.heap.size) _ #[.int .i64 W2, .int .i64 H2, .slice al4 nl2 cl4, .slice ad4 nd2 cd4, .slice an4 nn2 cn4, .slice ab4 nb2 cb4, .slice ax4 ns2 cx4, .slice af4 nf2 cf4] _ _ hr8_4
          have hsz := HU8.out.size
          have HUx := below_setRow (g := y6.heap.size) HU8.out (by first | omega | (simp at *; omega)) #[.int .i64 W2, .int .i64 H2, .slice al4 nl2 cl4, .slice ad4 nd2 cd4, .slice an4 nn2 cn4, .slice ab4 nb2 cb4, .slice ax4 ns2 cx4, .slice af4 nf2 cf4]
          obtain ⟨y9, hy9⟩ : ∃ y, y8.setRow (y6.heap.size) #[.int .i64 W2, .int .i64 H2, .slice al4 nl2 cl4, .slice ad4 nd2 cd4, .slice an4 nn2 cn4, .slice ab4 nb2 cb4, .slice ax4 ns2 cx4, .slice af4 nf2 cf4] = y := ⟨_, rfl⟩
          have hO : ∀ k, k ≠ y6.heap.size → y9.heap[k]? = y8.heap[k]? := fun k hk => by rw [← hy9]; exact setRow_other _ _ _ _ hk
          rw [hy9] at hN HUx ⊢
          clear hy9
          have HU9 := Lib.hid HUx
          clear HUx
          have hr9_0 := (hO _ (by omega)).trans hr8_0
          have hr9_1 := (hO _ (by omega)).trans hr8_1
          have hr9_2 := (hO _ (by omega)).trans hr8_2
          have hr9_3 := (hO _ (by omega)).trans hr8_3
          have hr9_4 := hN
          clear hN
          have HQA9 := Lib.hid (HQA8.out.keep (fun b hb => hO b (by omega)))
          have HQB9 := Lib.hid (HQB8.out.keep (fun b hb => hO b (by omega)))
          refine hK.out _ _ (⟨(hO _ (by omega)).trans hS8s.1, (hO _ (by omega)).trans hS8s.2.1, (hO _ (by omega)).trans hS8s.2.2⟩) (fun hS9s => ?_)
          clear hK K
          refine wpAnyH_done (by kernel_rfl) ?_ _
          go_wp2_with fail
          go_meet
          exact ⟨_, _, (⟨al3, cl3, ad3, cd3, an3, cn3, ab3, cb3, ax3, cx3, af3, cf3⟩ : Pl), (⟨al4, cl4, ad4, cd4, an4, cn4, ab4, cb4, ax4, cx4, af4, cf4⟩ : Pl), rfl, rfl, hr9_3, hr9_4, hr9_0, hr9_1, hr9_2, Lib.hid HQA9.out.fat, Lib.hid HQB9.out.fat, HU9⟩
        · skip
          go_simp
          have hb6 := Ve.below_n1 y5 (.cells #[.int .i64 0, .int .i64 0, .slice none 0 0, .slice none 0 0, .slice none 0 0, .slice none 0 0, .slice none 0 0, .slice none 0 0] 40)
          have hN := heap_alloc_last y5 (.cells #[.int .i64 0, .int .i64 0, .slice none 0 0, .slice none 0 0, .slice none 0 0, .slice none 0 0, .slice none 0 0, .slice none 0 0] 40)
          obtain ⟨y6, hy6⟩ : ∃ y, y5.alloc (.cells #[.int .i64 0, .int .i64 0, .slice none 0 0, .slice none 0 0, .slice none 0 0, .slice none 0 0, .slice none 0 0, .slice none 0 0] 40) = y := ⟨_, rfl⟩
          rw [hy6] at hb6 hN ⊢
          clear hy6
          have hl6_0 := lt_heap hr5_0
          have hr6_0 := (hb6.block _ (lt_heap hr5_0)).trans hr5_0
          have hl6_1 := lt_heap hr5_1
          have hr6_1 := (hb6.block _ (lt_heap hr5_1)).trans hr5_1
          have hl6_2 := lt_heap hr5_2
          have hr6_2 := (hb6.block _ (lt_heap hr5_2)).trans hr5_2
          have hl6_3 := lt_heap hr5_3
          have hr6_3 := (hb6.block _ (lt_heap hr5_3)).trans hr5_3
          have hr6_4 := hN
          clear hN
          have HU6 := Lib.hid (HU5.out.trans (hb6.mono HU5.out.size))
          have HQA6 := Lib.hid (HQA5.out.below hb6)
          have hz6 := lt_heap hr6_4
          refine hK.out _ _ (⟨(hb6.block _ (lt_heap hS5c.1)).trans hS5c.1, (hb6.block _ (lt_heap hS5c.2.1)).trans hS5c.2.1, (hb6.block _ (lt_heap hS5c.2.2)).trans hS5c.2.2⟩) (fun hS6a => ?_)
          clear hK K
          refine wpAnyH_ready (rs := [3]) (by kernel_rfl) (by simp) ?_
          refine AllReadyH.cons rfl (fun K hK => ?_) AllReadyH.nil
          go_simp
          go_wp2_with (go_at_call 7; refine (to_film_q (⟨W2, H2, nl2, nd2, nn2, nb2, ns2, nf2, L2, D2, N2, B2, S2, F2⟩ : Flm) (⟨al2, cl2, ad2, cd2, an2, cn2, ab2, cb2, ax2, cx2, af2, cf2⟩ : Pl) _ (HC2.out.at_.on HU6.out) HC2.out.bl HC2.out.bd HC2.out.bn HC2.out.bb HC2.out.bs HC2.out.bf HC2.out.ks HC2.out.kf).mono ?_; rintro e y7 ⟨⟨⟨al4, cl4, ad4, cd4, an4, cn4, ab4, cb4, ax4, cx4, af4, cf4⟩, rfl, hq2⟩, hb7⟩)
          have hr7_0 := (hb7.block _ (lt_heap hr6_0)).trans hr6_0
          have hr7_1 := (hb7.block _ (lt_heap hr6_1)).trans hr6_1
          have hr7_2 := (hb7.block _ (lt_heap hr6_2)).trans hr6_2
          have hr7_3 := (hb7.block _ (lt_heap hr6_3)).trans hr6_3
          have hr7_4 := (hb7.block _ (lt_heap hr6_4)).trans hr6_4
          have HU7 := Lib.hid (HU6.out.trans (hb7.mono HU6.out.size))
          have HQA7 := Lib.hid (HQA6.out.below hb7)
          have hz7 := hb7.size
          have HQB7 := Lib.hid (hq2.lt)
          refine hK.out _ _ (⟨(hb7.block _ (lt_heap hS6a.1)).trans hS6a.1, (hb7.block _ (lt_heap hS6a.2.1)).trans hS6a.2.1, (hb7.block _ (lt_heap hS6a.2.2)).trans hS6a.2.2⟩) (fun hS7c => ?_)
          clear hK K
          refine wpAnyH_ready (rs := [6]) (by kernel_rfl) (by simp) ?_
          refine AllReadyH.cons rfl (fun K hK => ?_) AllReadyH.nil
          refine step_store_row rfl 40 (.tmp 7) (.tmp 28) rfl #[.int .i64 0, .int .i64 0, .slice none 0 0, .slice none 0 0, .slice none 0 0, .slice none 0 0, .slice none 0 0, .slice none 0 0] #[.int .i64 W, .int .i64 H, .slice al3 nl cl3, .slice ad3 nd cd3, .slice an3 nn cn3, .slice ab3 nb cb3, .slice ax3 ns cx3, .slice af3 nf cf3] _ 40 hr7_3 rfl (by first | rfl | (go_simp; done) | (go_simp; rfl)) (by kernel_rfl) rfl (by simp [Value.oneCell']) ?_
          have hN := setRow_heap _ (y3.heap.size) _ #[.int .i64 W, .int .i64 H, .slice al3 nl cl3, .slice ad3 nd cd3, .slice an3 nn cn3, .slice ab3 nb cb3, .slice ax3 ns cx3, .slice af3 nf cf3] _ _ hr7_3
          have hsz := HU7.out.size
          have HUx := below_setRow (g := y3.heap.size) HU7.out (by first | omega | (simp at *; omega)) #[.int .i64 W, .int .i64 H, .slice al3 nl cl3, .slice ad3 nd cd3, .slice an3 nn cn3, .slice ab3 nb cb3, .slice ax3 ns cx3, .slice af3 nf cf3]
          obtain ⟨y8, hy8⟩ : ∃ y, y7.setRow (y3.heap.size) #[.int .i64 W, .int .i64 H, .slice al3 nl cl3, .slice ad3 nd cd3, .slice an3 nn cn3, .slice ab3 nb cb3, .slice ax3 ns cx3, .slice af3 nf cf3] = y := ⟨_, rfl⟩
          have hO : ∀ k, k ≠ y3.heap.size → y8.heap[k]? = y7.heap[k]? := fun k hk => by rw [← hy8]; exact setRow_other _ _ _ _ hk
          rw [hy8] at hN HUx ⊢
          clear hy8
          have HU8 := Lib.hid HUx
          clear HUx
          have hr8_0 := (hO _ (by omega)).trans hr7_0
          have hr8_1 := (hO _ (by omega)).trans hr7_1
          have hr8_2 := (hO _ (by omega)).trans hr7_2
          have hr8_3 := hN
          have hr8_4 := (hO _ (by omega)).trans hr7_4
          clear hN
          have HQA8 := Lib.hid (HQA7.out.keep (fun b hb => hO b (by omega)))
          have HQB8 := Lib.hid (HQB7.out.keep (fun b hb => hO b (by omega)))
          refine hK.out _ _ (⟨(hO _ (by omega)).trans hS7c.1, (hO _ (by omega)).trans hS7c.2.1, (hO _ (by omega)).trans hS7c.2.2⟩) (fun hS8s => ?_)
          clear hK K
          refine wpAnyH_ready (rs := [7]) (by kernel_rfl) (by simp) ?_
          refine AllReadyH.cons rfl (fun K hK => ?_) AllReadyH.nil
          refine step_store_row rfl 40 (.tmp 8) (.tmp 30) rfl #[.int .i64 0, .int .i64 0, .slice none 0 0, .slice none 0 0, .slice none 0 0, .slice none 0 0, .slice none 0 0, .slice none 0 0] #[.int .i64 W2, .int .i64 H2, .slice al4 nl2 cl4, .slice ad4 nd2 cd4, .slice an4 nn2 cn4, .slice ab4 nb2 cb4, .slice ax4 ns2 cx4, .slice af4 nf2 cf4] _ 40 hr8_4 rfl (by first | rfl | (go_simp; done) | (go_simp; rfl)) (by kernel_rfl) rfl (by simp [Value.oneCell']) ?_
          have hN := setRow_heap _ (y5.heap.size) _ #[.int .i64 W2, .int .i64 H2, .slice al4 nl2 cl4, .slice ad4 nd2 cd4, .slice an4 nn2 cn4, .slice ab4 nb2 cb4, .slice ax4 ns2 cx4, .slice af4 nf2 cf4] _ _ hr8_4
          have hsz := HU8.out.size
          have HUx := below_setRow (g := y5.heap.size) HU8.out (by first | omega | (simp at *; omega)) #[.int .i64 W2, .int .i64 H2, .slice al4 nl2 cl4, .slice ad4 nd2 cd4, .slice an4 nn2 cn4, .slice ab4 nb2 cb4, .slice ax4 ns2 cx4, .slice af4 nf2 cf4]
          obtain ⟨y9, hy9⟩ : ∃ y, y8.setRow (y5.heap.size) #[.int .i64 W2, .int .i64 H2, .slice al4 nl2 cl4, .slice ad4 nd2 cd4, .slice an4 nn2 cn4, .slice ab4 nb2 cb4, .slice ax4 ns2 cx4, .slice af4 nf2 cf4] = y := ⟨_, rfl⟩
          have hO : ∀ k, k ≠ y5.heap.size → y9.heap[k]? = y8.heap[k]? := fun k hk => by rw [← hy9]; exact setRow_other _ _ _ _ hk
          rw [hy9] at hN HUx ⊢
          clear hy9
          have HU9 := Lib.hid HUx
          clear HUx
          have hr9_0 := (hO _ (by omega)).trans hr8_0
          have hr9_1 := (hO _ (by omega)).trans hr8_1
          have hr9_2 := (hO _ (by omega)).trans hr8_2
          have hr9_3 := (hO _ (by omega)).trans hr8_3
          have hr9_4 := hN
          clear hN
          have HQA9 := Lib.hid (HQA8.out.keep (fun b hb => hO b (by omega)))
          have HQB9 := Lib.hid (HQB8.out.keep (fun b hb => hO b (by omega)))
          refine hK.out _ _ (⟨(hO _ (by omega)).trans hS8s.1, (hO _ (by omega)).trans hS8s.2.1, (hO _ (by omega)).trans hS8s.2.2⟩) (fun hS9s => ?_)
          clear hK K
          refine wpAnyH_done (by kernel_rfl) ?_ _
          go_wp2_with fail
          go_meet
          exact ⟨_, _, (⟨al3, cl3, ad3, cd3, an3, cn3, ab3, cb3, ax3, cx3, af3, cf3⟩ : Pl), (⟨al4, cl4, ad4, cd4, an4, cn4, ab4, cb4, ax4, cx4, af4, cf4⟩ : Pl), rfl, rfl, hr9_3, hr9_4, hr9_0, hr9_1, hr9_2, Lib.hid HQA9.out.fat, Lib.hid HQB9.out.fat, HU9⟩
      · skip
        go_simp
        have hb5 := Ve.below_n1 y4 (.cells #[.int .i64 0, .int .i64 0, .slice none 0 0, .slice none 0 0, .slice none 0 0, .slice none 0 0, .slice none 0 0, .slice none 0 0] 40)
        have hN := heap_alloc_last y4 (.cells #[.int .i64 0, .int .i64 0, .slice none 0 0, .slice none 0 0, .slice none 0 0, .slice none 0 0, .slice none 0 0, .slice none 0 0] 40)
        obtain ⟨y5, hy5⟩ : ∃ y, y4.alloc (.cells #[.int .i64 0, .int .i64 0, .slice none 0 0, .slice none 0 0, .slice none 0 0, .slice none 0 0, .slice none 0 0, .slice none 0 0] 40) = y := ⟨_, rfl⟩
        rw [hy5] at hb5 hN ⊢
        clear hy5
        have hl5_0 := lt_heap hr4_0
        have hr5_0 := (hb5.block _ (lt_heap hr4_0)).trans hr4_0
        have hl5_1 := lt_heap hr4_1
        have hr5_1 := (hb5.block _ (lt_heap hr4_1)).trans hr4_1
        have hl5_2 := lt_heap hr4_2
        have hr5_2 := (hb5.block _ (lt_heap hr4_2)).trans hr4_2
        have hl5_3 := lt_heap hr4_3
        have hr5_3 := (hb5.block _ (lt_heap hr4_3)).trans hr4_3
        have hr5_4 := hN
        clear hN
        have HU5 := Lib.hid (HU4.out.trans (hb5.mono HU4.out.size))
        have hz5 := lt_heap hr5_4
        refine hK.out _ _ (⟨(hb5.block _ (lt_heap hS4a.1)).trans hS4a.1, (hb5.block _ (lt_heap hS4a.2.1)).trans hS4a.2.1, (hb5.block _ (lt_heap hS4a.2.2)).trans hS4a.2.2⟩) (fun hS5a => ?_)
        clear hK K
        refine wpAnyH_ready (rs := [1]) (by kernel_rfl) (by simp) ?_
        refine AllReadyH.cons rfl (fun K hK => ?_) AllReadyH.nil
        go_simp
        go_wp2_with (go_at_call 7; refine (to_film_q (⟨W, H, nl, nd, nn, nb, ns, nf, L, D, N, B, S, F⟩ : Flm) (⟨al, cl, ad, cd, an, cn, ab, cb, ax, cx, af, cf⟩ : Pl) _ (HC.out.at_.on HU5.out) HC.out.bl HC.out.bd HC.out.bn HC.out.bb HC.out.bs HC.out.bf HC.out.ks HC.out.kf).mono ?_; rintro e y6 ⟨⟨⟨al3, cl3, ad3, cd3, an3, cn3, ab3, cb3, ax3, cx3, af3, cf3⟩, rfl, hq1⟩, hb6⟩)
        have hr6_0 := (hb6.block _ (lt_heap hr5_0)).trans hr5_0
        have hr6_1 := (hb6.block _ (lt_heap hr5_1)).trans hr5_1
        have hr6_2 := (hb6.block _ (lt_heap hr5_2)).trans hr5_2
        have hr6_3 := (hb6.block _ (lt_heap hr5_3)).trans hr5_3
        have hr6_4 := (hb6.block _ (lt_heap hr5_4)).trans hr5_4
        have HU6 := Lib.hid (HU5.out.trans (hb6.mono HU5.out.size))
        have hz6 := hb6.size
        have HQA6 := Lib.hid (hq1.lt)
        refine hK.out _ _ (⟨(hb6.block _ (lt_heap hS5a.1)).trans hS5a.1, (hb6.block _ (lt_heap hS5a.2.1)).trans hS5a.2.1, (hb6.block _ (lt_heap hS5a.2.2)).trans hS5a.2.2⟩) (fun hS6c => ?_)
        clear hK K
        refine wpAnyH_ready (rs := [3]) (by kernel_rfl) (by simp) ?_
        refine AllReadyH.cons rfl (fun K hK => ?_) AllReadyH.nil
        go_simp
        go_wp2_with (go_at_call 7; refine (to_film_q (⟨W2, H2, nl2, nd2, nn2, nb2, ns2, nf2, L2, D2, N2, B2, S2, F2⟩ : Flm) (⟨al2, cl2, ad2, cd2, an2, cn2, ab2, cb2, ax2, cx2, af2, cf2⟩ : Pl) _ (HC2.out.at_.on HU6.out) HC2.out.bl HC2.out.bd HC2.out.bn HC2.out.bb HC2.out.bs HC2.out.bf HC2.out.ks HC2.out.kf).mono ?_; rintro e y7 ⟨⟨⟨al4, cl4, ad4, cd4, an4, cn4, ab4, cb4, ax4, cx4, af4, cf4⟩, rfl, hq2⟩, hb7⟩)
        have hr7_0 := (hb7.block _ (lt_heap hr6_0)).trans hr6_0
        have hr7_1 := (hb7.block _ (lt_heap hr6_1)).trans hr6_1
        have hr7_2 := (hb7.block _ (lt_heap hr6_2)).trans hr6_2
        have hr7_3 := (hb7.block _ (lt_heap hr6_3)).trans hr6_3
        have hr7_4 := (hb7.block _ (lt_heap hr6_4)).trans hr6_4
        have HU7 := Lib.hid (HU6.out.trans (hb7.mono HU6.out.size))
        have HQA7 := Lib.hid (HQA6.out.below hb7)
        have hz7 := hb7.size
        have HQB7 := Lib.hid (hq2.lt)
        refine hK.out _ _ (⟨(hb7.block _ (lt_heap hS6c.1)).trans hS6c.1, (hb7.block _ (lt_heap hS6c.2.1)).trans hS6c.2.1, (hb7.block _ (lt_heap hS6c.2.2)).trans hS6c.2.2⟩) (fun hS7c => ?_)
        clear hK K
        refine wpAnyH_ready (rs := [6]) (by kernel_rfl) (by simp) ?_
        refine AllReadyH.cons rfl (fun K hK => ?_) AllReadyH.nil
        refine step_store_row rfl 40 (.tmp 7) (.tmp 28) rfl #[.int .i64 0, .int .i64 0, .slice none 0 0, .slice none 0 0, .slice none 0 0, .slice none 0 0, .slice none 0 0, .slice none 0 0] #[.int .i64 W, .int .i64 H, .slice al3 nl cl3, .slice ad3 nd cd3, .slice an3 nn cn3, .slice ab3 nb cb3, .slice ax3 ns cx3, .slice af3 nf cf3] _ 40 hr7_3 rfl (by first | rfl | (go_simp; done) | (go_simp; rfl)) (by kernel_rfl) rfl (by simp [Value.oneCell']) ?_
        have hN := setRow_heap _ (y3.heap.size) _ #[.int .i64 W, .int .i64 H, .slice al3 nl cl3, .slice ad3 nd cd3, .slice an3 nn cn3, .slice ab3 nb cb3, .slice ax3 ns cx3, .slice af3 nf cf3] _ _ hr7_3
        have hsz := HU7.out.size
        have HUx := below_setRow (g := y3.heap.size) HU7.out (by first | omega | (simp at *; omega)) #[.int .i64 W, .int .i64 H, .slice al3 nl cl3, .slice ad3 nd cd3, .slice an3 nn cn3, .slice ab3 nb cb3, .slice ax3 ns cx3, .slice af3 nf cf3]
        obtain ⟨y8, hy8⟩ : ∃ y, y7.setRow (y3.heap.size) #[.int .i64 W, .int .i64 H, .slice al3 nl cl3, .slice ad3 nd cd3, .slice an3 nn cn3, .slice ab3 nb cb3, .slice ax3 ns cx3, .slice af3 nf cf3] = y := ⟨_, rfl⟩
        have hO : ∀ k, k ≠ y3.heap.size → y8.heap[k]? = y7.heap[k]? := fun k hk => by rw [← hy8]; exact setRow_other _ _ _ _ hk
        rw [hy8] at hN HUx ⊢
        clear hy8
        have HU8 := Lib.hid HUx
        clear HUx
        have hr8_0 := (hO _ (by omega)).trans hr7_0
        have hr8_1 := (hO _ (by omega)).trans hr7_1
        have hr8_2 := (hO _ (by omega)).trans hr7_2
        have hr8_3 := hN
        have hr8_4 := (hO _ (by omega)).trans hr7_4
        clear hN
        have HQA8 := Lib.hid (HQA7.out.keep (fun b hb => hO b (by omega)))
        have HQB8 := Lib.hid (HQB7.out.keep (fun b hb => hO b (by omega)))
        refine hK.out _ _ (⟨(hO _ (by omega)).trans hS7c.1, (hO _ (by omega)).trans hS7c.2.1, (hO _ (by omega)).trans hS7c.2.2⟩) (fun hS8s => ?_)
        clear hK K
        refine wpAnyH_ready (rs := [7]) (by kernel_rfl) (by simp) ?_
        refine AllReadyH.cons rfl (fun K hK => ?_) AllReadyH.nil
        refine step_store_row rfl 40 (.tmp 8) (.tmp 30) rfl #[.int .i64 0, .int .i64 0, .slice none 0 0, .slice none 0 0, .slice none 0 0, .slice none 0 0, .slice none 0 0, .slice none 0 0] #[.int .i64 W2, .int .i64 H2, .slice al4 nl2 cl4, .slice ad4 nd2 cd4, .slice an4 nn2 cn4, .slice ab4 nb2 cb4, .slice ax4 ns2 cx4, .slice af4 nf2 cf4] _ 40 hr8_4 rfl (by first | rfl | (go_simp; done) | (go_simp; rfl)) (by kernel_rfl) rfl (by simp [Value.oneCell']) ?_
        have hN := setRow_heap _ (y4.heap.size) _ #[.int .i64 W2, .int .i64 H2, .slice al4 nl2 cl4, .slice ad4 nd2 cd4, .slice an4 nn2 cn4, .slice ab4 nb2 cb4, .slice ax4 ns2 cx4, .slice af4 nf2 cf4] _ _ hr8_4
        have hsz := HU8.out.size
        have HUx := below_setRow (g := y4.heap.size) HU8.out (by first | omega | (simp at *; omega)) #[.int .i64 W2, .int .i64 H2, .slice al4 nl2 cl4, .slice ad4 nd2 cd4, .slice an4 nn2 cn4, .slice ab4 nb2 cb4, .slice ax4 ns2 cx4, .slice af4 nf2 cf4]
        obtain ⟨y9, hy9⟩ : ∃ y, y8.setRow (y4.heap.size) #[.int .i64 W2, .int .i64 H2, .slice al4 nl2 cl4, .slice ad4 nd2 cd4, .slice an4 nn2 cn4, .slice ab4 nb2 cb4, .slice ax4 ns2 cx4, .slice af4 nf2 cf4] = y := ⟨_, rfl⟩
        have hO : ∀ k, k ≠ y4.heap.size → y9.heap[k]? = y8.heap[k]? := fun k hk => by rw [← hy9]; exact setRow_other _ _ _ _ hk
        rw [hy9] at hN HUx ⊢
        clear hy9
        have HU9 := Lib.hid HUx
        clear HUx
        have hr9_0 := (hO _ (by omega)).trans hr8_0
        have hr9_1 := (hO _ (by omega)).trans hr8_1
        have hr9_2 := (hO _ (by omega)).trans hr8_2
        have hr9_3 := (hO _ (by omega)).trans hr8_3
        have hr9_4 := hN
        clear hN
        have HQA9 := Lib.hid (HQA8.out.keep (fun b hb => hO b (by omega)))
        have HQB9 := Lib.hid (HQB8.out.keep (fun b hb => hO b (by omega)))
        refine hK.out _ _ (⟨(hO _ (by omega)).trans hS8s.1, (hO _ (by omega)).trans hS8s.2.1, (hO _ (by omega)).trans hS8s.2.2⟩) (fun hS9s => ?_)
        clear hK K
        refine wpAnyH_done (by kernel_rfl) ?_ _
        go_wp2_with fail
        go_meet
        exact ⟨_, _, (⟨al3, cl3, ad3, cd3, an3, cn3, ab3, cb3, ax3, cx3, af3, cf3⟩ : Pl), (⟨al4, cl4, ad4, cd4, an4, cn4, ab4, cb4, ax4, cx4, af4, cf4⟩ : Pl), rfl, rfl, hr9_3, hr9_4, hr9_0, hr9_1, hr9_2, Lib.hid HQA9.out.fat, Lib.hid HQB9.out.fat, HU9⟩
    · skip
      go_simp
      have hb4 := Ve.below_n1 y3 (.cells #[.int .i64 0, .int .i64 0, .slice none 0 0, .slice none 0 0, .slice none 0 0, .slice none 0 0, .slice none 0 0, .slice none 0 0] 40)
      have hN := heap_alloc_last y3 (.cells #[.int .i64 0, .int .i64 0, .slice none 0 0, .slice none 0 0, .slice none 0 0, .slice none 0 0, .slice none 0 0, .slice none 0 0] 40)
      obtain ⟨y4, hy4⟩ : ∃ y, y3.alloc (.cells #[.int .i64 0, .int .i64 0, .slice none 0 0, .slice none 0 0, .slice none 0 0, .slice none 0 0, .slice none 0 0, .slice none 0 0] 40) = y := ⟨_, rfl⟩
      rw [hy4] at hb4 hN ⊢
      clear hy4
      have hl4_0 := lt_heap hr3_0
      have hr4_0 := (hb4.block _ (lt_heap hr3_0)).trans hr3_0
      have hl4_1 := lt_heap hr3_1
      have hr4_1 := (hb4.block _ (lt_heap hr3_1)).trans hr3_1
      have hl4_2 := lt_heap hr3_2
      have hr4_2 := (hb4.block _ (lt_heap hr3_2)).trans hr3_2
      have hr4_3 := hN
      clear hN
      have HU4 := Lib.hid (HU3.out.trans (hb4.mono HU3.out.size))
      have hz4 := lt_heap hr4_3
      refine hK.out _ _ (⟨(hb4.block _ (lt_heap hS0.1)).trans hS0.1, (hb4.block _ (lt_heap hS0.2.1)).trans hS0.2.1, (hb4.block _ (lt_heap hS0.2.2)).trans hS0.2.2⟩) (fun hS4a => ?_)
      clear hK K
      refine wpAnyH_ready (rs := [1, 4]) (by kernel_rfl) (by simp) ?_
      refine AllReadyH.cons rfl (fun K hK => ?_) (AllReadyH.cons rfl (fun K hK => ?_) AllReadyH.nil)
      · skip
        go_simp
        go_wp2_with (go_at_call 7; refine (to_film_q (⟨W, H, nl, nd, nn, nb, ns, nf, L, D, N, B, S, F⟩ : Flm) (⟨al, cl, ad, cd, an, cn, ab, cb, ax, cx, af, cf⟩ : Pl) _ (HC.out.at_.on HU4.out) HC.out.bl HC.out.bd HC.out.bn HC.out.bb HC.out.bs HC.out.bf HC.out.ks HC.out.kf).mono ?_; rintro e y5 ⟨⟨⟨al3, cl3, ad3, cd3, an3, cn3, ab3, cb3, ax3, cx3, af3, cf3⟩, rfl, hq1⟩, hb5⟩)
        have hr5_0 := (hb5.block _ (lt_heap hr4_0)).trans hr4_0
        have hr5_1 := (hb5.block _ (lt_heap hr4_1)).trans hr4_1
        have hr5_2 := (hb5.block _ (lt_heap hr4_2)).trans hr4_2
        have hr5_3 := (hb5.block _ (lt_heap hr4_3)).trans hr4_3
        have HU5 := Lib.hid (HU4.out.trans (hb5.mono HU4.out.size))
        have hz5 := hb5.size
        have HQA5 := Lib.hid (hq1.lt)
        refine hK.out _ _ (⟨(hb5.block _ (lt_heap hS4a.1)).trans hS4a.1, (hb5.block _ (lt_heap hS4a.2.1)).trans hS4a.2.1, (hb5.block _ (lt_heap hS4a.2.2)).trans hS4a.2.2⟩) (fun hS5c => ?_)
        clear hK K
        refine wpAnyH_ready (rs := [3, 4]) (by kernel_rfl) (by simp) ?_
        refine AllReadyH.cons rfl (fun K hK => ?_) (AllReadyH.cons rfl (fun K hK => ?_) AllReadyH.nil)
        · skip
          go_simp
          go_wp2_with (go_at_call 7; refine (to_film_q (⟨W2, H2, nl2, nd2, nn2, nb2, ns2, nf2, L2, D2, N2, B2, S2, F2⟩ : Flm) (⟨al2, cl2, ad2, cd2, an2, cn2, ab2, cb2, ax2, cx2, af2, cf2⟩ : Pl) _ (HC2.out.at_.on HU5.out) HC2.out.bl HC2.out.bd HC2.out.bn HC2.out.bb HC2.out.bs HC2.out.bf HC2.out.ks HC2.out.kf).mono ?_; rintro e y6 ⟨⟨⟨al4, cl4, ad4, cd4, an4, cn4, ab4, cb4, ax4, cx4, af4, cf4⟩, rfl, hq2⟩, hb6⟩)
          have hr6_0 := (hb6.block _ (lt_heap hr5_0)).trans hr5_0
          have hr6_1 := (hb6.block _ (lt_heap hr5_1)).trans hr5_1
          have hr6_2 := (hb6.block _ (lt_heap hr5_2)).trans hr5_2
          have hr6_3 := (hb6.block _ (lt_heap hr5_3)).trans hr5_3
          have HU6 := Lib.hid (HU5.out.trans (hb6.mono HU5.out.size))
          have HQA6 := Lib.hid (HQA5.out.below hb6)
          have hz6 := hb6.size
          have HQB6 := Lib.hid (hq2.lt)
          refine hK.out _ _ (⟨(hb6.block _ (lt_heap hS5c.1)).trans hS5c.1, (hb6.block _ (lt_heap hS5c.2.1)).trans hS5c.2.1, (hb6.block _ (lt_heap hS5c.2.2)).trans hS5c.2.2⟩) (fun hS6c => ?_)
          clear hK K
          refine wpAnyH_ready (rs := [4]) (by kernel_rfl) (by simp) ?_
          refine AllReadyH.cons rfl (fun K hK => ?_) AllReadyH.nil
          go_simp
          have hb7 := Ve.below_n1 y6 (.cells #[.int .i64 0, .int .i64 0, .slice none 0 0, .slice none 0 0, .slice none 0 0, .slice none 0 0, .slice none 0 0, .slice none 0 0] 40)
          have hN := heap_alloc_last y6 (.cells #[.int .i64 0, .int .i64 0, .slice none 0 0, .slice none 0 0, .slice none 0 0, .slice none 0 0, .slice none 0 0, .slice none 0 0] 40)
          obtain ⟨y7, hy7⟩ : ∃ y, y6.alloc (.cells #[.int .i64 0, .int .i64 0, .slice none 0 0, .slice none 0 0, .slice none 0 0, .slice none 0 0, .slice none 0 0, .slice none 0 0] 40) = y := ⟨_, rfl⟩
          rw [hy7] at hb7 hN ⊢
          clear hy7
          have hl7_0 := lt_heap hr6_0
          have hr7_0 := (hb7.block _ (lt_heap hr6_0)).trans hr6_0
          have hl7_1 := lt_heap hr6_1
          have hr7_1 := (hb7.block _ (lt_heap hr6_1)).trans hr6_1
          have hl7_2 := lt_heap hr6_2
          have hr7_2 := (hb7.block _ (lt_heap hr6_2)).trans hr6_2
          have hl7_3 := lt_heap hr6_3
          have hr7_3 := (hb7.block _ (lt_heap hr6_3)).trans hr6_3
          have hr7_4 := hN
          clear hN
          have HU7 := Lib.hid (HU6.out.trans (hb7.mono HU6.out.size))
          have HQA7 := Lib.hid (HQA6.out.below hb7)
          have HQB7 := Lib.hid (HQB6.out.below hb7)
          have hz7 := lt_heap hr7_4
          refine hK.out _ _ (⟨(hb7.block _ (lt_heap hS6c.1)).trans hS6c.1, (hb7.block _ (lt_heap hS6c.2.1)).trans hS6c.2.1, (hb7.block _ (lt_heap hS6c.2.2)).trans hS6c.2.2⟩) (fun hS7a => ?_)
          clear hK K
          refine wpAnyH_ready (rs := [6]) (by kernel_rfl) (by simp) ?_
          refine AllReadyH.cons rfl (fun K hK => ?_) AllReadyH.nil
          refine step_store_row rfl 40 (.tmp 7) (.tmp 28) rfl #[.int .i64 0, .int .i64 0, .slice none 0 0, .slice none 0 0, .slice none 0 0, .slice none 0 0, .slice none 0 0, .slice none 0 0] #[.int .i64 W, .int .i64 H, .slice al3 nl cl3, .slice ad3 nd cd3, .slice an3 nn cn3, .slice ab3 nb cb3, .slice ax3 ns cx3, .slice af3 nf cf3] _ 40 hr7_4 rfl (by first | rfl | (go_simp; done) | (go_simp; rfl)) (by kernel_rfl) rfl (by simp [Value.oneCell']) ?_
          have hN := setRow_heap _ (y6.heap.size) _ #[.int .i64 W, .int .i64 H, .slice al3 nl cl3, .slice ad3 nd cd3, .slice an3 nn cn3, .slice ab3 nb cb3, .slice ax3 ns cx3, .slice af3 nf cf3] _ _ hr7_4
          have hsz := HU7.out.size
          have HUx := below_setRow (g := y6.heap.size) HU7.out (by first | omega | (simp at *; omega)) #[.int .i64 W, .int .i64 H, .slice al3 nl cl3, .slice ad3 nd cd3, .slice an3 nn cn3, .slice ab3 nb cb3, .slice ax3 ns cx3, .slice af3 nf cf3]
          obtain ⟨y8, hy8⟩ : ∃ y, y7.setRow (y6.heap.size) #[.int .i64 W, .int .i64 H, .slice al3 nl cl3, .slice ad3 nd cd3, .slice an3 nn cn3, .slice ab3 nb cb3, .slice ax3 ns cx3, .slice af3 nf cf3] = y := ⟨_, rfl⟩
          have hO : ∀ k, k ≠ y6.heap.size → y8.heap[k]? = y7.heap[k]? := fun k hk => by rw [← hy8]; exact setRow_other _ _ _ _ hk
          rw [hy8] at hN HUx ⊢
          clear hy8
          have HU8 := Lib.hid HUx
          clear HUx
          have hr8_0 := (hO _ (by omega)).trans hr7_0
          have hr8_1 := (hO _ (by omega)).trans hr7_1
          have hr8_2 := (hO _ (by omega)).trans hr7_2
          have hr8_3 := (hO _ (by omega)).trans hr7_3
          have hr8_4 := hN
          clear hN
          have HQA8 := Lib.hid (HQA7.out.keep (fun b hb => hO b (by omega)))
          have HQB8 := Lib.hid (HQB7.out.keep (fun b hb => hO b (by omega)))
          refine hK.out _ _ (⟨(hO _ (by omega)).trans hS7a.1, (hO _ (by omega)).trans hS7a.2.1, (hO _ (by omega)).trans hS7a.2.2⟩) (fun hS8s => ?_)
          clear hK K
          refine wpAnyH_ready (rs := [7]) (by kernel_rfl) (by simp) ?_
          refine AllReadyH.cons rfl (fun K hK => ?_) AllReadyH.nil
          refine step_store_row rfl 40 (.tmp 8) (.tmp 30) rfl #[.int .i64 0, .int .i64 0, .slice none 0 0, .slice none 0 0, .slice none 0 0, .slice none 0 0, .slice none 0 0, .slice none 0 0] #[.int .i64 W2, .int .i64 H2, .slice al4 nl2 cl4, .slice ad4 nd2 cd4, .slice an4 nn2 cn4, .slice ab4 nb2 cb4, .slice ax4 ns2 cx4, .slice af4 nf2 cf4] _ 40 hr8_3 rfl (by first | rfl | (go_simp; done) | (go_simp; rfl)) (by kernel_rfl) rfl (by simp [Value.oneCell']) ?_
          have hN := setRow_heap _ (y3.heap.size) _ #[.int .i64 W2, .int .i64 H2, .slice al4 nl2 cl4, .slice ad4 nd2 cd4, .slice an4 nn2 cn4, .slice ab4 nb2 cb4, .slice ax4 ns2 cx4, .slice af4 nf2 cf4] _ _ hr8_3
          have hsz := HU8.out.size
          have HUx := below_setRow (g := y3.heap.size) HU8.out (by first | omega | (simp at *; omega)) #[.int .i64 W2, .int .i64 H2, .slice al4 nl2 cl4, .slice ad4 nd2 cd4, .slice an4 nn2 cn4, .slice ab4 nb2 cb4, .slice ax4 ns2 cx4, .slice af4 nf2 cf4]
          obtain ⟨y9, hy9⟩ : ∃ y, y8.setRow (y3.heap.size) #[.int .i64 W2, .int .i64 H2, .slice al4 nl2 cl4, .slice ad4 nd2 cd4, .slice an4 nn2 cn4, .slice ab4 nb2 cb4, .slice ax4 ns2 cx4, .slice af4 nf2 cf4] = y := ⟨_, rfl⟩
          have hO : ∀ k, k ≠ y3.heap.size → y9.heap[k]? = y8.heap[k]? := fun k hk => by rw [← hy9]; exact setRow_other _ _ _ _ hk
          rw [hy9] at hN HUx ⊢
          clear hy9
          have HU9 := Lib.hid HUx
          clear HUx
          have hr9_0 := (hO _ (by omega)).trans hr8_0
          have hr9_1 := (hO _ (by omega)).trans hr8_1
          have hr9_2 := (hO _ (by omega)).trans hr8_2
          have hr9_3 := hN
          have hr9_4 := (hO _ (by omega)).trans hr8_4
          clear hN
          have HQA9 := Lib.hid (HQA8.out.keep (fun b hb => hO b (by omega)))
          have HQB9 := Lib.hid (HQB8.out.keep (fun b hb => hO b (by omega)))
          refine hK.out _ _ (⟨(hO _ (by omega)).trans hS8s.1, (hO _ (by omega)).trans hS8s.2.1, (hO _ (by omega)).trans hS8s.2.2⟩) (fun hS9s => ?_)
          clear hK K
          refine wpAnyH_done (by kernel_rfl) ?_ _
          go_wp2_with fail
          go_meet
          exact ⟨_, _, (⟨al3, cl3, ad3, cd3, an3, cn3, ab3, cb3, ax3, cx3, af3, cf3⟩ : Pl), (⟨al4, cl4, ad4, cd4, an4, cn4, ab4, cb4, ax4, cx4, af4, cf4⟩ : Pl), rfl, rfl, hr9_4, hr9_3, hr9_0, hr9_1, hr9_2, Lib.hid HQA9.out.fat, Lib.hid HQB9.out.fat, HU9⟩
        · skip
          go_simp
          have hb6 := Ve.below_n1 y5 (.cells #[.int .i64 0, .int .i64 0, .slice none 0 0, .slice none 0 0, .slice none 0 0, .slice none 0 0, .slice none 0 0, .slice none 0 0] 40)
          have hN := heap_alloc_last y5 (.cells #[.int .i64 0, .int .i64 0, .slice none 0 0, .slice none 0 0, .slice none 0 0, .slice none 0 0, .slice none 0 0, .slice none 0 0] 40)
          obtain ⟨y6, hy6⟩ : ∃ y, y5.alloc (.cells #[.int .i64 0, .int .i64 0, .slice none 0 0, .slice none 0 0, .slice none 0 0, .slice none 0 0, .slice none 0 0, .slice none 0 0] 40) = y := ⟨_, rfl⟩
          rw [hy6] at hb6 hN ⊢
          clear hy6
          have hl6_0 := lt_heap hr5_0
          have hr6_0 := (hb6.block _ (lt_heap hr5_0)).trans hr5_0
          have hl6_1 := lt_heap hr5_1
          have hr6_1 := (hb6.block _ (lt_heap hr5_1)).trans hr5_1
          have hl6_2 := lt_heap hr5_2
          have hr6_2 := (hb6.block _ (lt_heap hr5_2)).trans hr5_2
          have hl6_3 := lt_heap hr5_3
          have hr6_3 := (hb6.block _ (lt_heap hr5_3)).trans hr5_3
          have hr6_4 := hN
          clear hN
          have HU6 := Lib.hid (HU5.out.trans (hb6.mono HU5.out.size))
          have HQA6 := Lib.hid (HQA5.out.below hb6)
          have hz6 := lt_heap hr6_4
          refine hK.out _ _ (⟨(hb6.block _ (lt_heap hS5c.1)).trans hS5c.1, (hb6.block _ (lt_heap hS5c.2.1)).trans hS5c.2.1, (hb6.block _ (lt_heap hS5c.2.2)).trans hS5c.2.2⟩) (fun hS6a => ?_)
          clear hK K
          refine wpAnyH_ready (rs := [3]) (by kernel_rfl) (by simp) ?_
          refine AllReadyH.cons rfl (fun K hK => ?_) AllReadyH.nil
          go_simp
          go_wp2_with (go_at_call 7; refine (to_film_q (⟨W2, H2, nl2, nd2, nn2, nb2, ns2, nf2, L2, D2, N2, B2, S2, F2⟩ : Flm) (⟨al2, cl2, ad2, cd2, an2, cn2, ab2, cb2, ax2, cx2, af2, cf2⟩ : Pl) _ (HC2.out.at_.on HU6.out) HC2.out.bl HC2.out.bd HC2.out.bn HC2.out.bb HC2.out.bs HC2.out.bf HC2.out.ks HC2.out.kf).mono ?_; rintro e y7 ⟨⟨⟨al4, cl4, ad4, cd4, an4, cn4, ab4, cb4, ax4, cx4, af4, cf4⟩, rfl, hq2⟩, hb7⟩)
          have hr7_0 := (hb7.block _ (lt_heap hr6_0)).trans hr6_0
          have hr7_1 := (hb7.block _ (lt_heap hr6_1)).trans hr6_1
          have hr7_2 := (hb7.block _ (lt_heap hr6_2)).trans hr6_2
          have hr7_3 := (hb7.block _ (lt_heap hr6_3)).trans hr6_3
          have hr7_4 := (hb7.block _ (lt_heap hr6_4)).trans hr6_4
          have HU7 := Lib.hid (HU6.out.trans (hb7.mono HU6.out.size))
          have HQA7 := Lib.hid (HQA6.out.below hb7)
          have hz7 := hb7.size
          have HQB7 := Lib.hid (hq2.lt)
          refine hK.out _ _ (⟨(hb7.block _ (lt_heap hS6a.1)).trans hS6a.1, (hb7.block _ (lt_heap hS6a.2.1)).trans hS6a.2.1, (hb7.block _ (lt_heap hS6a.2.2)).trans hS6a.2.2⟩) (fun hS7c => ?_)
          clear hK K
          refine wpAnyH_ready (rs := [6]) (by kernel_rfl) (by simp) ?_
          refine AllReadyH.cons rfl (fun K hK => ?_) AllReadyH.nil
          refine step_store_row rfl 40 (.tmp 7) (.tmp 28) rfl #[.int .i64 0, .int .i64 0, .slice none 0 0, .slice none 0 0, .slice none 0 0, .slice none 0 0, .slice none 0 0, .slice none 0 0] #[.int .i64 W, .int .i64 H, .slice al3 nl cl3, .slice ad3 nd cd3, .slice an3 nn cn3, .slice ab3 nb cb3, .slice ax3 ns cx3, .slice af3 nf cf3] _ 40 hr7_4 rfl (by first | rfl | (go_simp; done) | (go_simp; rfl)) (by kernel_rfl) rfl (by simp [Value.oneCell']) ?_
          have hN := setRow_heap _ (y5.heap.size) _ #[.int .i64 W, .int .i64 H, .slice al3 nl cl3, .slice ad3 nd cd3, .slice an3 nn cn3, .slice ab3 nb cb3, .slice ax3 ns cx3, .slice af3 nf cf3] _ _ hr7_4
          have hsz := HU7.out.size
          have HUx := below_setRow (g := y5.heap.size) HU7.out (by first | omega | (simp at *; omega)) #[.int .i64 W, .int .i64 H, .slice al3 nl cl3, .slice ad3 nd cd3, .slice an3 nn cn3, .slice ab3 nb cb3, .slice ax3 ns cx3, .slice af3 nf cf3]
          obtain ⟨y8, hy8⟩ : ∃ y, y7.setRow (y5.heap.size) #[.int .i64 W, .int .i64 H, .slice al3 nl cl3, .slice ad3 nd cd3, .slice an3 nn cn3, .slice ab3 nb cb3, .slice ax3 ns cx3, .slice af3 nf cf3] = y := ⟨_, rfl⟩
          have hO : ∀ k, k ≠ y5.heap.size → y8.heap[k]? = y7.heap[k]? := fun k hk => by rw [← hy8]; exact setRow_other _ _ _ _ hk
          rw [hy8] at hN HUx ⊢
          clear hy8
          have HU8 := Lib.hid HUx
          clear HUx
          have hr8_0 := (hO _ (by omega)).trans hr7_0
          have hr8_1 := (hO _ (by omega)).trans hr7_1
          have hr8_2 := (hO _ (by omega)).trans hr7_2
          have hr8_3 := (hO _ (by omega)).trans hr7_3
          have hr8_4 := hN
          clear hN
          have HQA8 := Lib.hid (HQA7.out.keep (fun b hb => hO b (by omega)))
          have HQB8 := Lib.hid (HQB7.out.keep (fun b hb => hO b (by omega)))
          refine hK.out _ _ (⟨(hO _ (by omega)).trans hS7c.1, (hO _ (by omega)).trans hS7c.2.1, (hO _ (by omega)).trans hS7c.2.2⟩) (fun hS8s => ?_)
          clear hK K
          refine wpAnyH_ready (rs := [7]) (by kernel_rfl) (by simp) ?_
          refine AllReadyH.cons rfl (fun K hK => ?_) AllReadyH.nil
          refine step_store_row rfl 40 (.tmp 8) (.tmp 30) rfl #[.int .i64 0, .int .i64 0, .slice none 0 0, .slice none 0 0, .slice none 0 0, .slice none 0 0, .slice none 0 0, .slice none 0 0] #[.int .i64 W2, .int .i64 H2, .slice al4 nl2 cl4, .slice ad4 nd2 cd4, .slice an4 nn2 cn4, .slice ab4 nb2 cb4, .slice ax4 ns2 cx4, .slice af4 nf2 cf4] _ 40 hr8_3 rfl (by first | rfl | (go_simp; done) | (go_simp; rfl)) (by kernel_rfl) rfl (by simp [Value.oneCell']) ?_
          have hN := setRow_heap _ (y3.heap.size) _ #[.int .i64 W2, .int .i64 H2, .slice al4 nl2 cl4, .slice ad4 nd2 cd4, .slice an4 nn2 cn4, .slice ab4 nb2 cb4, .slice ax4 ns2 cx4, .slice af4 nf2 cf4] _ _ hr8_3
          have hsz := HU8.out.size
          have HUx := below_setRow (g := y3.heap.size) HU8.out (by first | omega | (simp at *; omega)) #[.int .i64 W2, .int .i64 H2, .slice al4 nl2 cl4, .slice ad4 nd2 cd4, .slice an4 nn2 cn4, .slice ab4 nb2 cb4, .slice ax4 ns2 cx4, .slice af4 nf2 cf4]
          obtain ⟨y9, hy9⟩ : ∃ y, y8.setRow (y3.heap.size) #[.int .i64 W2, .int .i64 H2, .slice al4 nl2 cl4, .slice ad4 nd2 cd4, .slice an4 nn2 cn4, .slice ab4 nb2 cb4, .slice ax4 ns2 cx4, .slice af4 nf2 cf4] = y := ⟨_, rfl⟩
          have hO : ∀ k, k ≠ y3.heap.size → y9.heap[k]? = y8.heap[k]? := fun k hk => by rw [← hy9]; exact setRow_other _ _ _ _ hk
          rw [hy9] at hN HUx ⊢
          clear hy9
          have HU9 := Lib.hid HUx
          clear HUx
          have hr9_0 := (hO _ (by omega)).trans hr8_0
          have hr9_1 := (hO _ (by omega)).trans hr8_1
          have hr9_2 := (hO _ (by omega)).trans hr8_2
          have hr9_3 := hN
          have hr9_4 := (hO _ (by omega)).trans hr8_4
          clear hN
          have HQA9 := Lib.hid (HQA8.out.keep (fun b hb => hO b (by omega)))
          have HQB9 := Lib.hid (HQB8.out.keep (fun b hb => hO b (by omega)))
          refine hK.out _ _ (⟨(hO _ (by omega)).trans hS8s.1, (hO _ (by omega)).trans hS8s.2.1, (hO _ (by omega)).trans hS8s.2.2⟩) (fun hS9s => ?_)
          clear hK K
          refine wpAnyH_done (by kernel_rfl) ?_ _
          go_wp2_with fail
          go_meet
          exact ⟨_, _, (⟨al3, cl3, ad3, cd3, an3, cn3, ab3, cb3, ax3, cx3, af3, cf3⟩ : Pl), (⟨al4, cl4, ad4, cd4, an4, cn4, ab4, cb4, ax4, cx4, af4, cf4⟩ : Pl), rfl, rfl, hr9_4, hr9_3, hr9_0, hr9_1, hr9_2, Lib.hid HQA9.out.fat, Lib.hid HQB9.out.fat, HU9⟩
      · skip
        go_simp
        have hb5 := Ve.below_n1 y4 (.cells #[.int .i64 0, .int .i64 0, .slice none 0 0, .slice none 0 0, .slice none 0 0, .slice none 0 0, .slice none 0 0, .slice none 0 0] 40)
        have hN := heap_alloc_last y4 (.cells #[.int .i64 0, .int .i64 0, .slice none 0 0, .slice none 0 0, .slice none 0 0, .slice none 0 0, .slice none 0 0, .slice none 0 0] 40)
        obtain ⟨y5, hy5⟩ : ∃ y, y4.alloc (.cells #[.int .i64 0, .int .i64 0, .slice none 0 0, .slice none 0 0, .slice none 0 0, .slice none 0 0, .slice none 0 0, .slice none 0 0] 40) = y := ⟨_, rfl⟩
        rw [hy5] at hb5 hN ⊢
        clear hy5
        have hl5_0 := lt_heap hr4_0
        have hr5_0 := (hb5.block _ (lt_heap hr4_0)).trans hr4_0
        have hl5_1 := lt_heap hr4_1
        have hr5_1 := (hb5.block _ (lt_heap hr4_1)).trans hr4_1
        have hl5_2 := lt_heap hr4_2
        have hr5_2 := (hb5.block _ (lt_heap hr4_2)).trans hr4_2
        have hl5_3 := lt_heap hr4_3
        have hr5_3 := (hb5.block _ (lt_heap hr4_3)).trans hr4_3
        have hr5_4 := hN
        clear hN
        have HU5 := Lib.hid (HU4.out.trans (hb5.mono HU4.out.size))
        have hz5 := lt_heap hr5_4
        refine hK.out _ _ (⟨(hb5.block _ (lt_heap hS4a.1)).trans hS4a.1, (hb5.block _ (lt_heap hS4a.2.1)).trans hS4a.2.1, (hb5.block _ (lt_heap hS4a.2.2)).trans hS4a.2.2⟩) (fun hS5a => ?_)
        clear hK K
        refine wpAnyH_ready (rs := [1]) (by kernel_rfl) (by simp) ?_
        refine AllReadyH.cons rfl (fun K hK => ?_) AllReadyH.nil
        go_simp
        go_wp2_with (go_at_call 7; refine (to_film_q (⟨W, H, nl, nd, nn, nb, ns, nf, L, D, N, B, S, F⟩ : Flm) (⟨al, cl, ad, cd, an, cn, ab, cb, ax, cx, af, cf⟩ : Pl) _ (HC.out.at_.on HU5.out) HC.out.bl HC.out.bd HC.out.bn HC.out.bb HC.out.bs HC.out.bf HC.out.ks HC.out.kf).mono ?_; rintro e y6 ⟨⟨⟨al3, cl3, ad3, cd3, an3, cn3, ab3, cb3, ax3, cx3, af3, cf3⟩, rfl, hq1⟩, hb6⟩)
        have hr6_0 := (hb6.block _ (lt_heap hr5_0)).trans hr5_0
        have hr6_1 := (hb6.block _ (lt_heap hr5_1)).trans hr5_1
        have hr6_2 := (hb6.block _ (lt_heap hr5_2)).trans hr5_2
        have hr6_3 := (hb6.block _ (lt_heap hr5_3)).trans hr5_3
        have hr6_4 := (hb6.block _ (lt_heap hr5_4)).trans hr5_4
        have HU6 := Lib.hid (HU5.out.trans (hb6.mono HU5.out.size))
        have hz6 := hb6.size
        have HQA6 := Lib.hid (hq1.lt)
        refine hK.out _ _ (⟨(hb6.block _ (lt_heap hS5a.1)).trans hS5a.1, (hb6.block _ (lt_heap hS5a.2.1)).trans hS5a.2.1, (hb6.block _ (lt_heap hS5a.2.2)).trans hS5a.2.2⟩) (fun hS6c => ?_)
        clear hK K
        refine wpAnyH_ready (rs := [3]) (by kernel_rfl) (by simp) ?_
        refine AllReadyH.cons rfl (fun K hK => ?_) AllReadyH.nil
        go_simp
        go_wp2_with (go_at_call 7; refine (to_film_q (⟨W2, H2, nl2, nd2, nn2, nb2, ns2, nf2, L2, D2, N2, B2, S2, F2⟩ : Flm) (⟨al2, cl2, ad2, cd2, an2, cn2, ab2, cb2, ax2, cx2, af2, cf2⟩ : Pl) _ (HC2.out.at_.on HU6.out) HC2.out.bl HC2.out.bd HC2.out.bn HC2.out.bb HC2.out.bs HC2.out.bf HC2.out.ks HC2.out.kf).mono ?_; rintro e y7 ⟨⟨⟨al4, cl4, ad4, cd4, an4, cn4, ab4, cb4, ax4, cx4, af4, cf4⟩, rfl, hq2⟩, hb7⟩)
        have hr7_0 := (hb7.block _ (lt_heap hr6_0)).trans hr6_0
        have hr7_1 := (hb7.block _ (lt_heap hr6_1)).trans hr6_1
        have hr7_2 := (hb7.block _ (lt_heap hr6_2)).trans hr6_2
        have hr7_3 := (hb7.block _ (lt_heap hr6_3)).trans hr6_3
        have hr7_4 := (hb7.block _ (lt_heap hr6_4)).trans hr6_4
        have HU7 := Lib.hid (HU6.out.trans (hb7.mono HU6.out.size))
        have HQA7 := Lib.hid (HQA6.out.below hb7)
        have hz7 := hb7.size
        have HQB7 := Lib.hid (hq2.lt)
        refine hK.out _ _ (⟨(hb7.block _ (lt_heap hS6c.1)).trans hS6c.1, (hb7.block _ (lt_heap hS6c.2.1)).trans hS6c.2.1, (hb7.block _ (lt_heap hS6c.2.2)).trans hS6c.2.2⟩) (fun hS7c => ?_)
        clear hK K
        refine wpAnyH_ready (rs := [6]) (by kernel_rfl) (by simp) ?_
        refine AllReadyH.cons rfl (fun K hK => ?_) AllReadyH.nil
        refine step_store_row rfl 40 (.tmp 7) (.tmp 28) rfl #[.int .i64 0, .int .i64 0, .slice none 0 0, .slice none 0 0, .slice none 0 0, .slice none 0 0, .slice none 0 0, .slice none 0 0] #[.int .i64 W, .int .i64 H, .slice al3 nl cl3, .slice ad3 nd cd3, .slice an3 nn cn3, .slice ab3 nb cb3, .slice ax3 ns cx3, .slice af3 nf cf3] _ 40 hr7_4 rfl (by first | rfl | (go_simp; done) | (go_simp; rfl)) (by kernel_rfl) rfl (by simp [Value.oneCell']) ?_
        have hN := setRow_heap _ (y4.heap.size) _ #[.int .i64 W, .int .i64 H, .slice al3 nl cl3, .slice ad3 nd cd3, .slice an3 nn cn3, .slice ab3 nb cb3, .slice ax3 ns cx3, .slice af3 nf cf3] _ _ hr7_4
        have hsz := HU7.out.size
        have HUx := below_setRow (g := y4.heap.size) HU7.out (by first | omega | (simp at *; omega)) #[.int .i64 W, .int .i64 H, .slice al3 nl cl3, .slice ad3 nd cd3, .slice an3 nn cn3, .slice ab3 nb cb3, .slice ax3 ns cx3, .slice af3 nf cf3]
        obtain ⟨y8, hy8⟩ : ∃ y, y7.setRow (y4.heap.size) #[.int .i64 W, .int .i64 H, .slice al3 nl cl3, .slice ad3 nd cd3, .slice an3 nn cn3, .slice ab3 nb cb3, .slice ax3 ns cx3, .slice af3 nf cf3] = y := ⟨_, rfl⟩
        have hO : ∀ k, k ≠ y4.heap.size → y8.heap[k]? = y7.heap[k]? := fun k hk => by rw [← hy8]; exact setRow_other _ _ _ _ hk
        rw [hy8] at hN HUx ⊢
        clear hy8
        have HU8 := Lib.hid HUx
        clear HUx
        have hr8_0 := (hO _ (by omega)).trans hr7_0
        have hr8_1 := (hO _ (by omega)).trans hr7_1
        have hr8_2 := (hO _ (by omega)).trans hr7_2
        have hr8_3 := (hO _ (by omega)).trans hr7_3
        have hr8_4 := hN
        clear hN
        have HQA8 := Lib.hid (HQA7.out.keep (fun b hb => hO b (by omega)))
        have HQB8 := Lib.hid (HQB7.out.keep (fun b hb => hO b (by omega)))
        refine hK.out _ _ (⟨(hO _ (by omega)).trans hS7c.1, (hO _ (by omega)).trans hS7c.2.1, (hO _ (by omega)).trans hS7c.2.2⟩) (fun hS8s => ?_)
        clear hK K
        refine wpAnyH_ready (rs := [7]) (by kernel_rfl) (by simp) ?_
        refine AllReadyH.cons rfl (fun K hK => ?_) AllReadyH.nil
        refine step_store_row rfl 40 (.tmp 8) (.tmp 30) rfl #[.int .i64 0, .int .i64 0, .slice none 0 0, .slice none 0 0, .slice none 0 0, .slice none 0 0, .slice none 0 0, .slice none 0 0] #[.int .i64 W2, .int .i64 H2, .slice al4 nl2 cl4, .slice ad4 nd2 cd4, .slice an4 nn2 cn4, .slice ab4 nb2 cb4, .slice ax4 ns2 cx4, .slice af4 nf2 cf4] _ 40 hr8_3 rfl (by first | rfl | (go_simp; done) | (go_simp; rfl)) (by kernel_rfl) rfl (by simp [Value.oneCell']) ?_
        have hN := setRow_heap _ (y3.heap.size) _ #[.int .i64 W2, .int .i64 H2, .slice al4 nl2 cl4, .slice ad4 nd2 cd4, .slice an4 nn2 cn4, .slice ab4 nb2 cb4, .slice ax4 ns2 cx4, .slice af4 nf2 cf4] _ _ hr8_3
        have hsz := HU8.out.size
        have HUx := below_setRow (g := y3.heap.size) HU8.out (by first | omega | (simp at *; omega)) #[.int .i64 W2, .int .i64 H2, .slice al4 nl2 cl4, .slice ad4 nd2 cd4, .slice an4 nn2 cn4, .slice ab4 nb2 cb4, .slice ax4 ns2 cx4, .slice af4 nf2 cf4]
        obtain ⟨y9, hy9⟩ : ∃ y, y8.setRow (y3.heap.size) #[.int .i64 W2, .int .i64 H2, .slice al4 nl2 cl4, .slice ad4 nd2 cd4, .slice an4 nn2 cn4, .slice ab4 nb2 cb4, .slice ax4 ns2 cx4, .slice af4 nf2 cf4] = y := ⟨_, rfl⟩
        have hO : ∀ k, k ≠ y3.heap.size → y9.heap[k]? = y8.heap[k]? := fun k hk => by rw [← hy9]; exact setRow_other _ _ _ _ hk
        rw [hy9] at hN HUx ⊢
        clear hy9
        have HU9 := Lib.hid HUx
        clear HUx
        have hr9_0 := (hO _ (by omega)).trans hr8_0
        have hr9_1 := (hO _ (by omega)).trans hr8_1
        have hr9_2 := (hO _ (by omega)).trans hr8_2
        have hr9_3 := hN
        have hr9_4 := (hO _ (by omega)).trans hr8_4
        clear hN
        have HQA9 := Lib.hid (HQA8.out.keep (fun b hb => hO b (by omega)))
        have HQB9 := Lib.hid (HQB8.out.keep (fun b hb => hO b (by omega)))
        refine hK.out _ _ (⟨(hO _ (by omega)).trans hS8s.1, (hO _ (by omega)).trans hS8s.2.1, (hO _ (by omega)).trans hS8s.2.2⟩) (fun hS9s => ?_)
        clear hK K
        refine wpAnyH_done (by kernel_rfl) ?_ _
        go_wp2_with fail
        go_meet
        exact ⟨_, _, (⟨al3, cl3, ad3, cd3, an3, cn3, ab3, cb3, ax3, cx3, af3, cf3⟩ : Pl), (⟨al4, cl4, ad4, cd4, an4, cn4, ab4, cb4, ax4, cx4, af4, cf4⟩ : Pl), rfl, rfl, hr9_4, hr9_3, hr9_0, hr9_1, hr9_2, Lib.hid HQA9.out.fat, Lib.hid HQB9.out.fat, HU9⟩
  case rest =>
    obtain ⟨q1, q2, ⟨al3, cl3, ad3, cd3, an3, cn3, ab3, cb3, ax3, cx3, af3, cf3⟩, ⟨al4, cl4, ad4, cd4, an4, cn4, ab4, cb4, ax4, cx4, af4, cf4⟩, rfl, rfl, hx1, hx2, hz0, hz1, hz2, HFA, HFB, HUz⟩ := hcut
    rename World => y9
    have hr9_0 := hz0
    have hr9_1 := hz1
    have hr9_2 := hz2
    have hr9_3 : y9.heap[q1]? = some (.cells #[.int .i64 W, .int .i64 H, .slice al3 nl cl3, .slice ad3 nd cd3, .slice an3 nn cn3, .slice ab3 nb cb3, .slice ax3 ns cx3, .slice af3 nf cf3] 40 (0, 0)) := hx1
    have hr9_4 : y9.heap[q2]? = some (.cells #[.int .i64 W2, .int .i64 H2, .slice al4 nl2 cl4, .slice ad4 nd2 cd4, .slice an4 nn2 cn4, .slice ab4 nb2 cb4, .slice ax4 ns2 cx4, .slice af4 nf2 cf4] 40 (0, 0)) := hx2
    have HU9 := HUz
    clear hz0 hz1 hz2 hx1 hx2 HUz
    obtain ⟨B0, hB0⟩ : ∃ b, b = y9.heap.size := ⟨_, rfl⟩
    have hBa : B0 ≤ y9.heap.size := by omega
    have HF9 := Lib.hid ((fat_low HFA.out).weak (P' := fun b => b < B0) (fun b hb => by omega))
    have HG9 := Lib.hid ((fat_low HFB.out).weak (P' := fun b => b < B0) (fun b hb => by omega))
    clear HFA HFB hB0
    go_upto_region 4 with fail
    go_cut [9, 10] (fun s9 s10 wx => ∃ (q3 : Nat) (a5 : Option Addr) (c5 : Nat), s9 = .pointer (some ⟨q3, 0, none⟩) ∧ s10 = .int .i64 BE ∧ wx.heap[q3]? = some (.cells #[.int .i64 BW, .int .i64 BH, .slice a5 BN c5] 36 (0, 0)) ∧ wx.heap[w.heap.size]? = some (.cells #[.int .i64 W, .int .i64 H, .slice al nl cl, .slice ad nd cd, .slice an nn cn, .slice ab nb cb, .slice ax ns cx, .slice af nf cf] 29 (0, 0)) ∧ wx.heap[w.heap.size + 1]? = some (.cells #[.int .i64 W2, .int .i64 H2, .slice al2 nl2 cl2, .slice ad2 nd2 cd2, .slice an2 nn2 cn2, .slice ab2 nb2 cb2, .slice ax2 ns2 cx2, .slice af2 nf2 cf2] 29 (0, 0)) ∧ wx.heap[w.heap.size + 1 + 1]? = some (.cells #[.int .i64 W3, .int .i64 H3, .slice am nm cm] 24 (0, 0)) ∧ wx.heap[q1]? = some (.cells #[.int .i64 W, .int .i64 H, .slice al3 nl cl3, .slice ad3 nd cd3, .slice an3 nn cn3, .slice ab3 nb cb3, .slice ax3 ns cx3, .slice af3 nf cf3] 40 (0, 0)) ∧ wx.heap[q2]? = some (.cells #[.int .i64 W2, .int .i64 H2, .slice al4 nl2 cl4, .slice ad4 nd2 cd4, .slice an4 nn2 cn4, .slice ab4 nb2 cb4, .slice ax4 ns2 cx4, .slice af4 nf2 cf4] 40 (0, 0)) ∧ Hid (FAt wx (⟨W, H, nl, nd, nn, nb, ns, nf, L, D, N, B, S, F⟩ : Flm) (⟨al3, cl3, ad3, cd3, an3, cn3, ab3, cb3, ax3, cx3, af3, cf3⟩ : Pl)) ∧ Hid (FAt wx (⟨W2, H2, nl2, nd2, nn2, nb2, ns2, nf2, L2, D2, N2, B2, S2, F2⟩ : Flm) (⟨al4, cl4, ad4, cd4, an4, cn4, ab4, cb4, ax4, cx4, af4, cf4⟩ : Pl)) ∧ Hid (Rw 3 wx a5 BN LB) ∧ Hid (Below w.heap.size w wx))
    case first =>
      refine wp_region_held_drew (S := fun y => y.heap[w.heap.size]? = some (.cells #[.int .i64 W, .int .i64 H, .slice al nl cl, .slice ad nd cd, .slice an nn cn, .slice ab nb cb, .slice ax ns cx, .slice af nf cf] 29 (0, 0)) ∧ y.heap[w.heap.size + 1]? = some (.cells #[.int .i64 W2, .int .i64 H2, .slice al2 nl2 cl2, .slice ad2 nd2 cd2, .slice an2 nn2 cn2, .slice ab2 nb2 cb2, .slice ax2 ns2 cx2, .slice af2 nf2 cf2] 29 (0, 0)) ∧ y.heap[w.heap.size + 1 + 1]? = some (.cells #[.int .i64 W3, .int .i64 H3, .slice am nm cm] 24 (0, 0)) ∧ y.heap[q1]? = some (.cells #[.int .i64 W, .int .i64 H, .slice al3 nl cl3, .slice ad3 nd cd3, .slice an3 nn cn3, .slice ab3 nb cb3, .slice ax3 ns cx3, .slice af3 nf cf3] 40 (0, 0)) ∧ y.heap[q2]? = some (.cells #[.int .i64 W2, .int .i64 H2, .slice al4 nl2 cl4, .slice ad4 nd2 cd4, .slice an4 nn2 cn4, .slice ab4 nb2 cb4, .slice ax4 ns2 cx4, .slice af4 nf2 cf4] 40 (0, 0))) (by kernel_rfl) (⟨hr9_0, hr9_1, hr9_2, hr9_3, hr9_4⟩) (fun hS0 => ?_)
      obtain ⟨y10, hy10⟩ : ∃ y, y9.drew = y := ⟨_, rfl⟩
      have HU10 := Lib.hid (show Below w.heap.size w y10 by rw [← hy10]; exact HU9.out.drew)
      have hr10_0 : y10.heap[w.heap.size]? = some (.cells #[.int .i64 W, .int .i64 H, .slice al nl cl, .slice ad nd cd, .slice an nn cn, .slice ab nb cb, .slice ax ns cx, .slice af nf cf] 29 (0, 0)) := by rw [← hy10]; exact hr9_0
      have hr10_1 : y10.heap[w.heap.size + 1]? = some (.cells #[.int .i64 W2, .int .i64 H2, .slice al2 nl2 cl2, .slice ad2 nd2 cd2, .slice an2 nn2 cn2, .slice ab2 nb2 cb2, .slice ax2 ns2 cx2, .slice af2 nf2 cf2] 29 (0, 0)) := by rw [← hy10]; exact hr9_1
      have hr10_2 : y10.heap[w.heap.size + 1 + 1]? = some (.cells #[.int .i64 W3, .int .i64 H3, .slice am nm cm] 24 (0, 0)) := by rw [← hy10]; exact hr9_2
      have hr10_3 : y10.heap[q1]? = some (.cells #[.int .i64 W, .int .i64 H, .slice al3 nl cl3, .slice ad3 nd cd3, .slice an3 nn cn3, .slice ab3 nb cb3, .slice ax3 ns cx3, .slice af3 nf cf3] 40 (0, 0)) := by rw [← hy10]; exact hr9_3
      have hr10_4 : y10.heap[q2]? = some (.cells #[.int .i64 W2, .int .i64 H2, .slice al4 nl2 cl4, .slice ad4 nd2 cd4, .slice an4 nn2 cn4, .slice ab4 nb2 cb4, .slice ax4 ns2 cx4, .slice af4 nf2 cf4] 40 (0, 0)) := by rw [← hy10]; exact hr9_4
      have hz10 : y9.heap.size ≤ y10.heap.size := by rw [← hy10]; exact Nat.le_refl _
      have HF10 := Lib.hid (show FAtQ (fun b => b < B0) y10 (⟨W, H, nl, nd, nn, nb, ns, nf, L, D, N, B, S, F⟩ : Flm) (⟨al3, cl3, ad3, cd3, an3, cn3, ab3, cb3, ax3, cx3, af3, cf3⟩ : Pl) by rw [← hy10]; exact HF9.out.below (Below.refl _ _).drew)
      have HG10 := Lib.hid (show FAtQ (fun b => b < B0) y10 (⟨W2, H2, nl2, nd2, nn2, nb2, ns2, nf2, L2, D2, N2, B2, S2, F2⟩ : Flm) (⟨al4, cl4, ad4, cd4, an4, cn4, ab4, cb4, ax4, cx4, af4, cf4⟩ : Pl) by rw [← hy10]; exact HG9.out.below (Below.refl _ _).drew)
      rw [hy10] at hS0 ⊢
      clear hy10
      refine wpAnyH_take (i := 0) (v := ?_) rfl (by kernel_rfl) (by kernel_rfl) (by kernel_rfl) (fun _ _ _ h => h) (Or.inl ⟨by kernel_rfl, by (intro wz hSz; have c0_0 := cell_of_row _ _ 0 _ _ _ hSz.1; have c0_1 := cell_of_row _ _ 1 _ _ _ hSz.1; have c0_2 := cell_of_row _ _ 2 _ _ _ hSz.1; have c0_3 := cell_of_row _ _ 3 _ _ _ hSz.1; have c0_4 := cell_of_row _ _ 4 _ _ _ hSz.1; have c0_5 := cell_of_row _ _ 5 _ _ _ hSz.1; have c0_6 := cell_of_row _ _ 6 _ _ _ hSz.1; have c0_7 := cell_of_row _ _ 7 _ _ _ hSz.1; have c1_0 := cell_of_row _ _ 0 _ _ _ hSz.2.1; have c1_1 := cell_of_row _ _ 1 _ _ _ hSz.2.1; have c1_2 := cell_of_row _ _ 2 _ _ _ hSz.2.1; have c1_3 := cell_of_row _ _ 3 _ _ _ hSz.2.1; have c1_4 := cell_of_row _ _ 4 _ _ _ hSz.2.1; have c1_5 := cell_of_row _ _ 5 _ _ _ hSz.2.1; have c1_6 := cell_of_row _ _ 6 _ _ _ hSz.2.1; have c1_7 := cell_of_row _ _ 7 _ _ _ hSz.2.1; have c2_0 := cell_of_row _ _ 0 _ _ _ hSz.2.2.1; have c2_1 := cell_of_row _ _ 1 _ _ _ hSz.2.2.1; have c2_2 := cell_of_row _ _ 2 _ _ _ hSz.2.2.1; have c3_0 := cell_of_row _ _ 0 _ _ _ hSz.2.2.2.1; have c3_1 := cell_of_row _ _ 1 _ _ _ hSz.2.2.2.1; have c3_2 := cell_of_row _ _ 2 _ _ _ hSz.2.2.2.1; have c3_3 := cell_of_row _ _ 3 _ _ _ hSz.2.2.2.1; have c3_4 := cell_of_row _ _ 4 _ _ _ hSz.2.2.2.1; have c3_5 := cell_of_row _ _ 5 _ _ _ hSz.2.2.2.1; have c3_6 := cell_of_row _ _ 6 _ _ _ hSz.2.2.2.1; have c3_7 := cell_of_row _ _ 7 _ _ _ hSz.2.2.2.1; have c4_0 := cell_of_row _ _ 0 _ _ _ hSz.2.2.2.2; have c4_1 := cell_of_row _ _ 1 _ _ _ hSz.2.2.2.2; have c4_2 := cell_of_row _ _ 2 _ _ _ hSz.2.2.2.2; have c4_3 := cell_of_row _ _ 3 _ _ _ hSz.2.2.2.2; have c4_4 := cell_of_row _ _ 4 _ _ _ hSz.2.2.2.2; have c4_5 := cell_of_row _ _ 5 _ _ _ hSz.2.2.2.2; have c4_6 := cell_of_row _ _ 6 _ _ _ hSz.2.2.2.2; have c4_7 := cell_of_row _ _ 7 _ _ _ hSz.2.2.2.2; simp at c0_0 c0_1 c0_2 c0_3 c0_4 c0_5 c0_6 c0_7 c1_0 c1_1 c1_2 c1_3 c1_4 c1_5 c1_6 c1_7 c2_0 c2_1 c2_2 c3_0 c3_1 c3_2 c3_3 c3_4 c3_5 c3_6 c3_7 c4_0 c4_1 c4_2 c4_3 c4_4 c4_5 c4_6 c4_7; go_simp; try with_reducible rfl)⟩) hS0 ?_
      go_simp
      refine wpAnyH_take (i := 1) (v := ?_) rfl (by kernel_rfl) (by kernel_rfl) (by kernel_rfl) (fun _ _ _ h => h) (Or.inl ⟨by kernel_rfl, by (intro wz hSz; have c0_0 := cell_of_row _ _ 0 _ _ _ hSz.1; have c0_1 := cell_of_row _ _ 1 _ _ _ hSz.1; have c0_2 := cell_of_row _ _ 2 _ _ _ hSz.1; have c0_3 := cell_of_row _ _ 3 _ _ _ hSz.1; have c0_4 := cell_of_row _ _ 4 _ _ _ hSz.1; have c0_5 := cell_of_row _ _ 5 _ _ _ hSz.1; have c0_6 := cell_of_row _ _ 6 _ _ _ hSz.1; have c0_7 := cell_of_row _ _ 7 _ _ _ hSz.1; have c1_0 := cell_of_row _ _ 0 _ _ _ hSz.2.1; have c1_1 := cell_of_row _ _ 1 _ _ _ hSz.2.1; have c1_2 := cell_of_row _ _ 2 _ _ _ hSz.2.1; have c1_3 := cell_of_row _ _ 3 _ _ _ hSz.2.1; have c1_4 := cell_of_row _ _ 4 _ _ _ hSz.2.1; have c1_5 := cell_of_row _ _ 5 _ _ _ hSz.2.1; have c1_6 := cell_of_row _ _ 6 _ _ _ hSz.2.1; have c1_7 := cell_of_row _ _ 7 _ _ _ hSz.2.1; have c2_0 := cell_of_row _ _ 0 _ _ _ hSz.2.2.1; have c2_1 := cell_of_row _ _ 1 _ _ _ hSz.2.2.1; have c2_2 := cell_of_row _ _ 2 _ _ _ hSz.2.2.1; have c3_0 := cell_of_row _ _ 0 _ _ _ hSz.2.2.2.1; have c3_1 := cell_of_row _ _ 1 _ _ _ hSz.2.2.2.1; have c3_2 := cell_of_row _ _ 2 _ _ _ hSz.2.2.2.1; have c3_3 := cell_of_row _ _ 3 _ _ _ hSz.2.2.2.1; have c3_4 := cell_of_row _ _ 4 _ _ _ hSz.2.2.2.1; have c3_5 := cell_of_row _ _ 5 _ _ _ hSz.2.2.2.1; have c3_6 := cell_of_row _ _ 6 _ _ _ hSz.2.2.2.1; have c3_7 := cell_of_row _ _ 7 _ _ _ hSz.2.2.2.1; have c4_0 := cell_of_row _ _ 0 _ _ _ hSz.2.2.2.2; have c4_1 := cell_of_row _ _ 1 _ _ _ hSz.2.2.2.2; have c4_2 := cell_of_row _ _ 2 _ _ _ hSz.2.2.2.2; have c4_3 := cell_of_row _ _ 3 _ _ _ hSz.2.2.2.2; have c4_4 := cell_of_row _ _ 4 _ _ _ hSz.2.2.2.2; have c4_5 := cell_of_row _ _ 5 _ _ _ hSz.2.2.2.2; have c4_6 := cell_of_row _ _ 6 _ _ _ hSz.2.2.2.2; have c4_7 := cell_of_row _ _ 7 _ _ _ hSz.2.2.2.2; simp at c0_0 c0_1 c0_2 c0_3 c0_4 c0_5 c0_6 c0_7 c1_0 c1_1 c1_2 c1_3 c1_4 c1_5 c1_6 c1_7 c2_0 c2_1 c2_2 c3_0 c3_1 c3_2 c3_3 c3_4 c3_5 c3_6 c3_7 c4_0 c4_1 c4_2 c4_3 c4_4 c4_5 c4_6 c4_7; go_simp; try with_reducible rfl)⟩) hS0 ?_
      go_simp
      refine wpAnyH_take (i := 2) (v := ?_) rfl (by kernel_rfl) (by kernel_rfl) (by kernel_rfl) (fun _ _ _ h => h) (Or.inl ⟨by kernel_rfl, by (intro wz hSz; have c0_0 := cell_of_row _ _ 0 _ _ _ hSz.1; have c0_1 := cell_of_row _ _ 1 _ _ _ hSz.1; have c0_2 := cell_of_row _ _ 2 _ _ _ hSz.1; have c0_3 := cell_of_row _ _ 3 _ _ _ hSz.1; have c0_4 := cell_of_row _ _ 4 _ _ _ hSz.1; have c0_5 := cell_of_row _ _ 5 _ _ _ hSz.1; have c0_6 := cell_of_row _ _ 6 _ _ _ hSz.1; have c0_7 := cell_of_row _ _ 7 _ _ _ hSz.1; have c1_0 := cell_of_row _ _ 0 _ _ _ hSz.2.1; have c1_1 := cell_of_row _ _ 1 _ _ _ hSz.2.1; have c1_2 := cell_of_row _ _ 2 _ _ _ hSz.2.1; have c1_3 := cell_of_row _ _ 3 _ _ _ hSz.2.1; have c1_4 := cell_of_row _ _ 4 _ _ _ hSz.2.1; have c1_5 := cell_of_row _ _ 5 _ _ _ hSz.2.1; have c1_6 := cell_of_row _ _ 6 _ _ _ hSz.2.1; have c1_7 := cell_of_row _ _ 7 _ _ _ hSz.2.1; have c2_0 := cell_of_row _ _ 0 _ _ _ hSz.2.2.1; have c2_1 := cell_of_row _ _ 1 _ _ _ hSz.2.2.1; have c2_2 := cell_of_row _ _ 2 _ _ _ hSz.2.2.1; have c3_0 := cell_of_row _ _ 0 _ _ _ hSz.2.2.2.1; have c3_1 := cell_of_row _ _ 1 _ _ _ hSz.2.2.2.1; have c3_2 := cell_of_row _ _ 2 _ _ _ hSz.2.2.2.1; have c3_3 := cell_of_row _ _ 3 _ _ _ hSz.2.2.2.1; have c3_4 := cell_of_row _ _ 4 _ _ _ hSz.2.2.2.1; have c3_5 := cell_of_row _ _ 5 _ _ _ hSz.2.2.2.1; have c3_6 := cell_of_row _ _ 6 _ _ _ hSz.2.2.2.1; have c3_7 := cell_of_row _ _ 7 _ _ _ hSz.2.2.2.1; have c4_0 := cell_of_row _ _ 0 _ _ _ hSz.2.2.2.2; have c4_1 := cell_of_row _ _ 1 _ _ _ hSz.2.2.2.2; have c4_2 := cell_of_row _ _ 2 _ _ _ hSz.2.2.2.2; have c4_3 := cell_of_row _ _ 3 _ _ _ hSz.2.2.2.2; have c4_4 := cell_of_row _ _ 4 _ _ _ hSz.2.2.2.2; have c4_5 := cell_of_row _ _ 5 _ _ _ hSz.2.2.2.2; have c4_6 := cell_of_row _ _ 6 _ _ _ hSz.2.2.2.2; have c4_7 := cell_of_row _ _ 7 _ _ _ hSz.2.2.2.2; simp at c0_0 c0_1 c0_2 c0_3 c0_4 c0_5 c0_6 c0_7 c1_0 c1_1 c1_2 c1_3 c1_4 c1_5 c1_6 c1_7 c2_0 c2_1 c2_2 c3_0 c3_1 c3_2 c3_3 c3_4 c3_5 c3_6 c3_7 c4_0 c4_1 c4_2 c4_3 c4_4 c4_5 c4_6 c4_7; go_simp; try with_reducible rfl)⟩) hS0 ?_
      go_simp
      refine wpAnyH_ready (rs := [3, 8]) (by kernel_rfl) (by simp) ?_
      refine AllReadyH.cons rfl (fun K hK => ?_) (AllReadyH.cons rfl (fun K hK => ?_) AllReadyH.nil)
      · skip
        go_simp
        go_wp2_with (go_at_call 9; refine (tosheet_any W3 H3 am nm cm M _ (HM.out.on HU10.out) hm24).mono ?_; rintro e y11 ⟨⟨am2, cm2, rfl, hsh⟩, hb11⟩)
        have hr11_0 := (hb11.block _ (lt_heap hr10_0)).trans hr10_0
        have hr11_1 := (hb11.block _ (lt_heap hr10_1)).trans hr10_1
        have hr11_2 := (hb11.block _ (lt_heap hr10_2)).trans hr10_2
        have hr11_3 := (hb11.block _ (lt_heap hr10_3)).trans hr10_3
        have hr11_4 := (hb11.block _ (lt_heap hr10_4)).trans hr10_4
        have HU11 := Lib.hid (HU10.out.trans (hb11.mono HU10.out.size))
        have HF11 := Lib.hid (HF10.out.below hb11)
        have HG11 := Lib.hid (HG10.out.below hb11)
        have hz11 := hb11.size
        have HSH11 := Lib.hid ((⟨hsh.lt (by decide)⟩ : R3 _ _ _ _ _))
        refine hK.out _ _ (⟨(hb11.block _ (lt_heap hS0.1)).trans hS0.1, (hb11.block _ (lt_heap hS0.2.1)).trans hS0.2.1, (hb11.block _ (lt_heap hS0.2.2.1)).trans hS0.2.2.1, (hb11.block _ (lt_heap hS0.2.2.2.1)).trans hS0.2.2.2.1, (hb11.block _ (lt_heap hS0.2.2.2.2)).trans hS0.2.2.2.2⟩) (fun hS11c => ?_)
        clear hK K
        refine wpAnyH_ready (rs := [4, 8]) (by kernel_rfl) (by simp) ?_
        refine AllReadyH.cons rfl (fun K hK => ?_) (AllReadyH.cons rfl (fun K hK => ?_) AllReadyH.nil)
        · skip
          go_simp
          go_wp2_with (go_at_call 8; refine (HBL.out _ (⟨al3, cl3, ad3, cd3, an3, cn3, ab3, cb3, ax3, cx3, af3, cf3⟩ : Pl) (⟨al4, cl4, ad4, cd4, an4, cn4, ab4, cb4, ax4, cx4, af4, cf4⟩ : Pl) am2 cm2 HF11.out.fat HG11.out.fat (HSH11.out.h.rw (by decide))).mono ?_; rintro e y12 ⟨⟨a5, c5, rfl, hbl⟩, hb12⟩)
          have hr12_0 := (hb12.block _ (lt_heap hr11_0)).trans hr11_0
          have hr12_1 := (hb12.block _ (lt_heap hr11_1)).trans hr11_1
          have hr12_2 := (hb12.block _ (lt_heap hr11_2)).trans hr11_2
          have hr12_3 := (hb12.block _ (lt_heap hr11_3)).trans hr11_3
          have hr12_4 := (hb12.block _ (lt_heap hr11_4)).trans hr11_4
          have HU12 := Lib.hid (HU11.out.trans (hb12.mono HU11.out.size))
          have HF12 := Lib.hid (HF11.out.below hb12)
          have HG12 := Lib.hid (HG11.out.below hb12)
          have HSH12 := Lib.hid (HSH11.out.below hb12)
          have hz12 := hb12.size
          have HRB12 := Lib.hid ((⟨hbl.lt (by decide)⟩ : R3 _ _ _ _ _))
          refine hK.out _ _ (⟨(hb12.block _ (lt_heap hS11c.1)).trans hS11c.1, (hb12.block _ (lt_heap hS11c.2.1)).trans hS11c.2.1, (hb12.block _ (lt_heap hS11c.2.2.1)).trans hS11c.2.2.1, (hb12.block _ (lt_heap hS11c.2.2.2.1)).trans hS11c.2.2.2.1, (hb12.block _ (lt_heap hS11c.2.2.2.2)).trans hS11c.2.2.2.2⟩) (fun hS12c => ?_)
          clear hK K
          refine wpAnyH_take (i := 5) (v := ?_) rfl (by kernel_rfl) (by kernel_rfl) (by kernel_rfl) (fun _ _ _ h => h) (Or.inl ⟨by kernel_rfl, by (intro wz hSz; go_simp; try with_reducible rfl)⟩) hS12c ?_
          go_simp
          refine wpAnyH_take (i := 6) (v := ?_) rfl (by kernel_rfl) (by kernel_rfl) (by kernel_rfl) (fun _ _ _ h => h) (Or.inl ⟨by kernel_rfl, by (intro wz hSz; go_simp; try with_reducible rfl)⟩) hS12c ?_
          go_simp
          refine wpAnyH_take (i := 7) (v := ?_) rfl (by kernel_rfl) (by kernel_rfl) (by kernel_rfl) (fun _ _ _ h => h) (Or.inl ⟨by kernel_rfl, by (intro wz hSz; go_simp; try with_reducible rfl)⟩) hS12c ?_
          go_simp
          refine wpAnyH_ready (rs := [8]) (by kernel_rfl) (by simp) ?_
          refine AllReadyH.cons rfl (fun K hK => ?_) AllReadyH.nil
          go_simp
          have hb13 := Ve.below_n1 y12 (.cells #[.int .i64 0, .int .i64 0, .slice none 0 0] 36)
          have hN := heap_alloc_last y12 (.cells #[.int .i64 0, .int .i64 0, .slice none 0 0] 36)
          obtain ⟨y13, hy13⟩ : ∃ y, y12.alloc (.cells #[.int .i64 0, .int .i64 0, .slice none 0 0] 36) = y := ⟨_, rfl⟩
          rw [hy13] at hb13 hN ⊢
          clear hy13
          have hl13_0 := lt_heap hr12_0
          have hr13_0 := (hb13.block _ (lt_heap hr12_0)).trans hr12_0
          have hl13_1 := lt_heap hr12_1
          have hr13_1 := (hb13.block _ (lt_heap hr12_1)).trans hr12_1
          have hl13_2 := lt_heap hr12_2
          have hr13_2 := (hb13.block _ (lt_heap hr12_2)).trans hr12_2
          have hl13_3 := lt_heap hr12_3
          have hr13_3 := (hb13.block _ (lt_heap hr12_3)).trans hr12_3
          have hl13_4 := lt_heap hr12_4
          have hr13_4 := (hb13.block _ (lt_heap hr12_4)).trans hr12_4
          have hr13_5 := hN
          clear hN
          have HU13 := Lib.hid (HU12.out.trans (hb13.mono HU12.out.size))
          have HF13 := Lib.hid (HF12.out.below hb13)
          have HG13 := Lib.hid (HG12.out.below hb13)
          have HSH13 := Lib.hid (HSH12.out.below hb13)
          have HRB13 := Lib.hid (HRB12.out.below hb13)
          have hz13 := lt_heap hr13_5
          refine hK.out _ _ (⟨(hb13.block _ (lt_heap hS12c.1)).trans hS12c.1, (hb13.block _ (lt_heap hS12c.2.1)).trans hS12c.2.1, (hb13.block _ (lt_heap hS12c.2.2.1)).trans hS12c.2.2.1, (hb13.block _ (lt_heap hS12c.2.2.2.1)).trans hS12c.2.2.2.1, (hb13.block _ (lt_heap hS12c.2.2.2.2)).trans hS12c.2.2.2.2⟩) (fun hS13a => ?_)
          clear hK K
          refine wpAnyH_ready (rs := [9]) (by kernel_rfl) (by simp) ?_
          refine AllReadyH.cons rfl (fun K hK => ?_) AllReadyH.nil
          refine step_store_row rfl 36 (.tmp 9) (.tmp 37) rfl #[.int .i64 0, .int .i64 0, .slice none 0 0] #[.int .i64 BW, .int .i64 BH, .slice a5 BN c5] _ 36 hr13_5 rfl (by first | rfl | (go_simp; done) | (go_simp; rfl)) (by kernel_rfl) rfl (by simp [Value.oneCell']) ?_
          have hN := setRow_heap _ (y12.heap.size) _ #[.int .i64 BW, .int .i64 BH, .slice a5 BN c5] _ _ hr13_5
          have hsz := HU13.out.size
          have HUx := below_setRow (g := y12.heap.size) HU13.out (by first | omega | (simp at *; omega)) #[.int .i64 BW, .int .i64 BH, .slice a5 BN c5]
          obtain ⟨y14, hy14⟩ : ∃ y, y13.setRow (y12.heap.size) #[.int .i64 BW, .int .i64 BH, .slice a5 BN c5] = y := ⟨_, rfl⟩
          have hO : ∀ k, k ≠ y12.heap.size → y14.heap[k]? = y13.heap[k]? := fun k hk => by rw [← hy14]; exact setRow_other _ _ _ _ hk
          rw [hy14] at hN HUx ⊢
          clear hy14
          have HU14 := Lib.hid HUx
          clear HUx
          have hr14_0 := (hO _ (by omega)).trans hr13_0
          have hr14_1 := (hO _ (by omega)).trans hr13_1
          have hr14_2 := (hO _ (by omega)).trans hr13_2
          have hr14_3 := (hO _ (by omega)).trans hr13_3
          have hr14_4 := (hO _ (by omega)).trans hr13_4
          have hr14_5 := hN
          clear hN
          have HF14 := Lib.hid (HF13.out.keep (fun b hb => hO b (by omega)))
          have HG14 := Lib.hid (HG13.out.keep (fun b hb => hO b (by omega)))
          have HSH14 := Lib.hid (HSH13.out.keep (fun b hb => hO b (by omega)))
          have HRB14 := Lib.hid (HRB13.out.keep (fun b hb => hO b (by omega)))
          refine hK.out _ _ (⟨(hO _ (by omega)).trans hS13a.1, (hO _ (by omega)).trans hS13a.2.1, (hO _ (by omega)).trans hS13a.2.2.1, (hO _ (by omega)).trans hS13a.2.2.2.1, (hO _ (by omega)).trans hS13a.2.2.2.2⟩) (fun hS14s => ?_)
          clear hK K
          refine wpAnyH_take (i := 10) (v := ?_) rfl (by kernel_rfl) (by kernel_rfl) (by kernel_rfl) (fun _ _ _ h => h) (Or.inl ⟨by kernel_rfl, by (intro wz hSz; go_simp; try with_reducible rfl)⟩) hS14s ?_
          go_simp
          refine wpAnyH_done (by kernel_rfl) ?_ _
          go_wp2_with fail
          go_meet
          exact ⟨_, a5, c5, rfl, rfl, hr14_5, hr14_0, hr14_1, hr14_2, hr14_3, hr14_4, Lib.hid HF14.out.fat, Lib.hid HG14.out.fat, Lib.hid (HRB14.out.h.rw (by decide)), HU14⟩
        · skip
          go_simp
          have hb12 := Ve.below_n1 y11 (.cells #[.int .i64 0, .int .i64 0, .slice none 0 0] 36)
          have hN := heap_alloc_last y11 (.cells #[.int .i64 0, .int .i64 0, .slice none 0 0] 36)
          obtain ⟨y12, hy12⟩ : ∃ y, y11.alloc (.cells #[.int .i64 0, .int .i64 0, .slice none 0 0] 36) = y := ⟨_, rfl⟩
          rw [hy12] at hb12 hN ⊢
          clear hy12
          have hl12_0 := lt_heap hr11_0
          have hr12_0 := (hb12.block _ (lt_heap hr11_0)).trans hr11_0
          have hl12_1 := lt_heap hr11_1
          have hr12_1 := (hb12.block _ (lt_heap hr11_1)).trans hr11_1
          have hl12_2 := lt_heap hr11_2
          have hr12_2 := (hb12.block _ (lt_heap hr11_2)).trans hr11_2
          have hl12_3 := lt_heap hr11_3
          have hr12_3 := (hb12.block _ (lt_heap hr11_3)).trans hr11_3
          have hl12_4 := lt_heap hr11_4
          have hr12_4 := (hb12.block _ (lt_heap hr11_4)).trans hr11_4
          have hr12_5 := hN
          clear hN
          have HU12 := Lib.hid (HU11.out.trans (hb12.mono HU11.out.size))
          have HF12 := Lib.hid (HF11.out.below hb12)
          have HG12 := Lib.hid (HG11.out.below hb12)
          have HSH12 := Lib.hid (HSH11.out.below hb12)
          have hz12 := lt_heap hr12_5
          refine hK.out _ _ (⟨(hb12.block _ (lt_heap hS11c.1)).trans hS11c.1, (hb12.block _ (lt_heap hS11c.2.1)).trans hS11c.2.1, (hb12.block _ (lt_heap hS11c.2.2.1)).trans hS11c.2.2.1, (hb12.block _ (lt_heap hS11c.2.2.2.1)).trans hS11c.2.2.2.1, (hb12.block _ (lt_heap hS11c.2.2.2.2)).trans hS11c.2.2.2.2⟩) (fun hS12a => ?_)
          clear hK K
          refine wpAnyH_ready (rs := [4]) (by kernel_rfl) (by simp) ?_
          refine AllReadyH.cons rfl (fun K hK => ?_) AllReadyH.nil
          go_simp
          go_wp2_with (go_at_call 8; refine (HBL.out _ (⟨al3, cl3, ad3, cd3, an3, cn3, ab3, cb3, ax3, cx3, af3, cf3⟩ : Pl) (⟨al4, cl4, ad4, cd4, an4, cn4, ab4, cb4, ax4, cx4, af4, cf4⟩ : Pl) am2 cm2 HF12.out.fat HG12.out.fat (HSH12.out.h.rw (by decide))).mono ?_; rintro e y13 ⟨⟨a5, c5, rfl, hbl⟩, hb13⟩)
          have hr13_0 := (hb13.block _ (lt_heap hr12_0)).trans hr12_0
          have hr13_1 := (hb13.block _ (lt_heap hr12_1)).trans hr12_1
          have hr13_2 := (hb13.block _ (lt_heap hr12_2)).trans hr12_2
          have hr13_3 := (hb13.block _ (lt_heap hr12_3)).trans hr12_3
          have hr13_4 := (hb13.block _ (lt_heap hr12_4)).trans hr12_4
          have hr13_5 := (hb13.block _ (lt_heap hr12_5)).trans hr12_5
          have HU13 := Lib.hid (HU12.out.trans (hb13.mono HU12.out.size))
          have HF13 := Lib.hid (HF12.out.below hb13)
          have HG13 := Lib.hid (HG12.out.below hb13)
          have HSH13 := Lib.hid (HSH12.out.below hb13)
          have hz13 := hb13.size
          have HRB13 := Lib.hid ((⟨hbl.lt (by decide)⟩ : R3 _ _ _ _ _))
          refine hK.out _ _ (⟨(hb13.block _ (lt_heap hS12a.1)).trans hS12a.1, (hb13.block _ (lt_heap hS12a.2.1)).trans hS12a.2.1, (hb13.block _ (lt_heap hS12a.2.2.1)).trans hS12a.2.2.1, (hb13.block _ (lt_heap hS12a.2.2.2.1)).trans hS12a.2.2.2.1, (hb13.block _ (lt_heap hS12a.2.2.2.2)).trans hS12a.2.2.2.2⟩) (fun hS13c => ?_)
          clear hK K
          refine wpAnyH_take (i := 5) (v := ?_) rfl (by kernel_rfl) (by kernel_rfl) (by kernel_rfl) (fun _ _ _ h => h) (Or.inl ⟨by kernel_rfl, by (intro wz hSz; go_simp; try with_reducible rfl)⟩) hS13c ?_
          go_simp
          refine wpAnyH_take (i := 6) (v := ?_) rfl (by kernel_rfl) (by kernel_rfl) (by kernel_rfl) (fun _ _ _ h => h) (Or.inl ⟨by kernel_rfl, by (intro wz hSz; go_simp; try with_reducible rfl)⟩) hS13c ?_
          go_simp
          refine wpAnyH_take (i := 7) (v := ?_) rfl (by kernel_rfl) (by kernel_rfl) (by kernel_rfl) (fun _ _ _ h => h) (Or.inl ⟨by kernel_rfl, by (intro wz hSz; go_simp; try with_reducible rfl)⟩) hS13c ?_
          go_simp
          refine wpAnyH_ready (rs := [9]) (by kernel_rfl) (by simp) ?_
          refine AllReadyH.cons rfl (fun K hK => ?_) AllReadyH.nil
          refine step_store_row rfl 36 (.tmp 9) (.tmp 37) rfl #[.int .i64 0, .int .i64 0, .slice none 0 0] #[.int .i64 BW, .int .i64 BH, .slice a5 BN c5] _ 36 hr13_5 rfl (by first | rfl | (go_simp; done) | (go_simp; rfl)) (by kernel_rfl) rfl (by simp [Value.oneCell']) ?_
          have hN := setRow_heap _ (y11.heap.size) _ #[.int .i64 BW, .int .i64 BH, .slice a5 BN c5] _ _ hr13_5
          have hsz := HU13.out.size
          have HUx := below_setRow (g := y11.heap.size) HU13.out (by first | omega | (simp at *; omega)) #[.int .i64 BW, .int .i64 BH, .slice a5 BN c5]
          obtain ⟨y14, hy14⟩ : ∃ y, y13.setRow (y11.heap.size) #[.int .i64 BW, .int .i64 BH, .slice a5 BN c5] = y := ⟨_, rfl⟩
          have hO : ∀ k, k ≠ y11.heap.size → y14.heap[k]? = y13.heap[k]? := fun k hk => by rw [← hy14]; exact setRow_other _ _ _ _ hk
          rw [hy14] at hN HUx ⊢
          clear hy14
          have HU14 := Lib.hid HUx
          clear HUx
          have hr14_0 := (hO _ (by omega)).trans hr13_0
          have hr14_1 := (hO _ (by omega)).trans hr13_1
          have hr14_2 := (hO _ (by omega)).trans hr13_2
          have hr14_3 := (hO _ (by omega)).trans hr13_3
          have hr14_4 := (hO _ (by omega)).trans hr13_4
          have hr14_5 := hN
          clear hN
          have HF14 := Lib.hid (HF13.out.keep (fun b hb => hO b (by omega)))
          have HG14 := Lib.hid (HG13.out.keep (fun b hb => hO b (by omega)))
          have HSH14 := Lib.hid (HSH13.out.keep (fun b hb => hO b (by omega)))
          have HRB14 := Lib.hid (HRB13.out.keep (fun b hb => hO b (by omega)))
          refine hK.out _ _ (⟨(hO _ (by omega)).trans hS13c.1, (hO _ (by omega)).trans hS13c.2.1, (hO _ (by omega)).trans hS13c.2.2.1, (hO _ (by omega)).trans hS13c.2.2.2.1, (hO _ (by omega)).trans hS13c.2.2.2.2⟩) (fun hS14s => ?_)
          clear hK K
          refine wpAnyH_take (i := 10) (v := ?_) rfl (by kernel_rfl) (by kernel_rfl) (by kernel_rfl) (fun _ _ _ h => h) (Or.inl ⟨by kernel_rfl, by (intro wz hSz; go_simp; try with_reducible rfl)⟩) hS14s ?_
          go_simp
          refine wpAnyH_done (by kernel_rfl) ?_ _
          go_wp2_with fail
          go_meet
          exact ⟨_, a5, c5, rfl, rfl, hr14_5, hr14_0, hr14_1, hr14_2, hr14_3, hr14_4, Lib.hid HF14.out.fat, Lib.hid HG14.out.fat, Lib.hid (HRB14.out.h.rw (by decide)), HU14⟩
      · skip
        go_simp
        have hb11 := Ve.below_n1 y10 (.cells #[.int .i64 0, .int .i64 0, .slice none 0 0] 36)
        have hN := heap_alloc_last y10 (.cells #[.int .i64 0, .int .i64 0, .slice none 0 0] 36)
        obtain ⟨y11, hy11⟩ : ∃ y, y10.alloc (.cells #[.int .i64 0, .int .i64 0, .slice none 0 0] 36) = y := ⟨_, rfl⟩
        rw [hy11] at hb11 hN ⊢
        clear hy11
        have hl11_0 := lt_heap hr10_0
        have hr11_0 := (hb11.block _ (lt_heap hr10_0)).trans hr10_0
        have hl11_1 := lt_heap hr10_1
        have hr11_1 := (hb11.block _ (lt_heap hr10_1)).trans hr10_1
        have hl11_2 := lt_heap hr10_2
        have hr11_2 := (hb11.block _ (lt_heap hr10_2)).trans hr10_2
        have hl11_3 := lt_heap hr10_3
        have hr11_3 := (hb11.block _ (lt_heap hr10_3)).trans hr10_3
        have hl11_4 := lt_heap hr10_4
        have hr11_4 := (hb11.block _ (lt_heap hr10_4)).trans hr10_4
        have hr11_5 := hN
        clear hN
        have HU11 := Lib.hid (HU10.out.trans (hb11.mono HU10.out.size))
        have HF11 := Lib.hid (HF10.out.below hb11)
        have HG11 := Lib.hid (HG10.out.below hb11)
        have hz11 := lt_heap hr11_5
        refine hK.out _ _ (⟨(hb11.block _ (lt_heap hS0.1)).trans hS0.1, (hb11.block _ (lt_heap hS0.2.1)).trans hS0.2.1, (hb11.block _ (lt_heap hS0.2.2.1)).trans hS0.2.2.1, (hb11.block _ (lt_heap hS0.2.2.2.1)).trans hS0.2.2.2.1, (hb11.block _ (lt_heap hS0.2.2.2.2)).trans hS0.2.2.2.2⟩) (fun hS11a => ?_)
        clear hK K
        refine wpAnyH_ready (rs := [3]) (by kernel_rfl) (by simp) ?_
        refine AllReadyH.cons rfl (fun K hK => ?_) AllReadyH.nil
        go_simp
        go_wp2_with (go_at_call 9; refine (tosheet_any W3 H3 am nm cm M _ (HM.out.on HU11.out) hm24).mono ?_; rintro e y12 ⟨⟨am2, cm2, rfl, hsh⟩, hb12⟩)
        have hr12_0 := (hb12.block _ (lt_heap hr11_0)).trans hr11_0
        have hr12_1 := (hb12.block _ (lt_heap hr11_1)).trans hr11_1
        have hr12_2 := (hb12.block _ (lt_heap hr11_2)).trans hr11_2
        have hr12_3 := (hb12.block _ (lt_heap hr11_3)).trans hr11_3
        have hr12_4 := (hb12.block _ (lt_heap hr11_4)).trans hr11_4
        have hr12_5 := (hb12.block _ (lt_heap hr11_5)).trans hr11_5
        have HU12 := Lib.hid (HU11.out.trans (hb12.mono HU11.out.size))
        have HF12 := Lib.hid (HF11.out.below hb12)
        have HG12 := Lib.hid (HG11.out.below hb12)
        have hz12 := hb12.size
        have HSH12 := Lib.hid ((⟨hsh.lt (by decide)⟩ : R3 _ _ _ _ _))
        refine hK.out _ _ (⟨(hb12.block _ (lt_heap hS11a.1)).trans hS11a.1, (hb12.block _ (lt_heap hS11a.2.1)).trans hS11a.2.1, (hb12.block _ (lt_heap hS11a.2.2.1)).trans hS11a.2.2.1, (hb12.block _ (lt_heap hS11a.2.2.2.1)).trans hS11a.2.2.2.1, (hb12.block _ (lt_heap hS11a.2.2.2.2)).trans hS11a.2.2.2.2⟩) (fun hS12c => ?_)
        clear hK K
        refine wpAnyH_ready (rs := [4]) (by kernel_rfl) (by simp) ?_
        refine AllReadyH.cons rfl (fun K hK => ?_) AllReadyH.nil
        go_simp
        go_wp2_with (go_at_call 8; refine (HBL.out _ (⟨al3, cl3, ad3, cd3, an3, cn3, ab3, cb3, ax3, cx3, af3, cf3⟩ : Pl) (⟨al4, cl4, ad4, cd4, an4, cn4, ab4, cb4, ax4, cx4, af4, cf4⟩ : Pl) am2 cm2 HF12.out.fat HG12.out.fat (HSH12.out.h.rw (by decide))).mono ?_; rintro e y13 ⟨⟨a5, c5, rfl, hbl⟩, hb13⟩)
        have hr13_0 := (hb13.block _ (lt_heap hr12_0)).trans hr12_0
        have hr13_1 := (hb13.block _ (lt_heap hr12_1)).trans hr12_1
        have hr13_2 := (hb13.block _ (lt_heap hr12_2)).trans hr12_2
        have hr13_3 := (hb13.block _ (lt_heap hr12_3)).trans hr12_3
        have hr13_4 := (hb13.block _ (lt_heap hr12_4)).trans hr12_4
        have hr13_5 := (hb13.block _ (lt_heap hr12_5)).trans hr12_5
        have HU13 := Lib.hid (HU12.out.trans (hb13.mono HU12.out.size))
        have HF13 := Lib.hid (HF12.out.below hb13)
        have HG13 := Lib.hid (HG12.out.below hb13)
        have HSH13 := Lib.hid (HSH12.out.below hb13)
        have hz13 := hb13.size
        have HRB13 := Lib.hid ((⟨hbl.lt (by decide)⟩ : R3 _ _ _ _ _))
        refine hK.out _ _ (⟨(hb13.block _ (lt_heap hS12c.1)).trans hS12c.1, (hb13.block _ (lt_heap hS12c.2.1)).trans hS12c.2.1, (hb13.block _ (lt_heap hS12c.2.2.1)).trans hS12c.2.2.1, (hb13.block _ (lt_heap hS12c.2.2.2.1)).trans hS12c.2.2.2.1, (hb13.block _ (lt_heap hS12c.2.2.2.2)).trans hS12c.2.2.2.2⟩) (fun hS13c => ?_)
        clear hK K
        refine wpAnyH_take (i := 5) (v := ?_) rfl (by kernel_rfl) (by kernel_rfl) (by kernel_rfl) (fun _ _ _ h => h) (Or.inl ⟨by kernel_rfl, by (intro wz hSz; go_simp; try with_reducible rfl)⟩) hS13c ?_
        go_simp
        refine wpAnyH_take (i := 6) (v := ?_) rfl (by kernel_rfl) (by kernel_rfl) (by kernel_rfl) (fun _ _ _ h => h) (Or.inl ⟨by kernel_rfl, by (intro wz hSz; go_simp; try with_reducible rfl)⟩) hS13c ?_
        go_simp
        refine wpAnyH_take (i := 7) (v := ?_) rfl (by kernel_rfl) (by kernel_rfl) (by kernel_rfl) (fun _ _ _ h => h) (Or.inl ⟨by kernel_rfl, by (intro wz hSz; go_simp; try with_reducible rfl)⟩) hS13c ?_
        go_simp
        refine wpAnyH_ready (rs := [9]) (by kernel_rfl) (by simp) ?_
        refine AllReadyH.cons rfl (fun K hK => ?_) AllReadyH.nil
        refine step_store_row rfl 36 (.tmp 9) (.tmp 37) rfl #[.int .i64 0, .int .i64 0, .slice none 0 0] #[.int .i64 BW, .int .i64 BH, .slice a5 BN c5] _ 36 hr13_5 rfl (by first | rfl | (go_simp; done) | (go_simp; rfl)) (by kernel_rfl) rfl (by simp [Value.oneCell']) ?_
        have hN := setRow_heap _ (y10.heap.size) _ #[.int .i64 BW, .int .i64 BH, .slice a5 BN c5] _ _ hr13_5
        have hsz := HU13.out.size
        have HUx := below_setRow (g := y10.heap.size) HU13.out (by first | omega | (simp at *; omega)) #[.int .i64 BW, .int .i64 BH, .slice a5 BN c5]
        obtain ⟨y14, hy14⟩ : ∃ y, y13.setRow (y10.heap.size) #[.int .i64 BW, .int .i64 BH, .slice a5 BN c5] = y := ⟨_, rfl⟩
        have hO : ∀ k, k ≠ y10.heap.size → y14.heap[k]? = y13.heap[k]? := fun k hk => by rw [← hy14]; exact setRow_other _ _ _ _ hk
        rw [hy14] at hN HUx ⊢
        clear hy14
        have HU14 := Lib.hid HUx
        clear HUx
        have hr14_0 := (hO _ (by omega)).trans hr13_0
        have hr14_1 := (hO _ (by omega)).trans hr13_1
        have hr14_2 := (hO _ (by omega)).trans hr13_2
        have hr14_3 := (hO _ (by omega)).trans hr13_3
        have hr14_4 := (hO _ (by omega)).trans hr13_4
        have hr14_5 := hN
        clear hN
        have HF14 := Lib.hid (HF13.out.keep (fun b hb => hO b (by omega)))
        have HG14 := Lib.hid (HG13.out.keep (fun b hb => hO b (by omega)))
        have HSH14 := Lib.hid (HSH13.out.keep (fun b hb => hO b (by omega)))
        have HRB14 := Lib.hid (HRB13.out.keep (fun b hb => hO b (by omega)))
        refine hK.out _ _ (⟨(hO _ (by omega)).trans hS13c.1, (hO _ (by omega)).trans hS13c.2.1, (hO _ (by omega)).trans hS13c.2.2.1, (hO _ (by omega)).trans hS13c.2.2.2.1, (hO _ (by omega)).trans hS13c.2.2.2.2⟩) (fun hS14s => ?_)
        clear hK K
        refine wpAnyH_take (i := 10) (v := ?_) rfl (by kernel_rfl) (by kernel_rfl) (by kernel_rfl) (fun _ _ _ h => h) (Or.inl ⟨by kernel_rfl, by (intro wz hSz; go_simp; try with_reducible rfl)⟩) hS14s ?_
        go_simp
        refine wpAnyH_done (by kernel_rfl) ?_ _
        go_wp2_with fail
        go_meet
        exact ⟨_, a5, c5, rfl, rfl, hr14_5, hr14_0, hr14_1, hr14_2, hr14_3, hr14_4, Lib.hid HF14.out.fat, Lib.hid HG14.out.fat, Lib.hid (HRB14.out.h.rw (by decide)), HU14⟩
    case rest =>
      obtain ⟨q3, a5, c5, rfl, rfl, hx, hz0, hz1, hz2, hz3, hz4, HFA, HFB, HRB, HUz⟩ := hcut
      rename World => y20
      have hr20_0 := hz0
      have hr20_1 := hz1
      have hr20_2 := hz2
      have hr20_3 := hz3
      have hr20_4 := hz4
      have hr20_5 := hx
      have HU20 := HUz
      have HF20 := HFA
      have HG20 := HFB
      have HR20 := HRB
      clear hx HUz HFA HFB HRB HF9 HG9 HU9 hz0 hz1 hz2 hz3 hz4
      have c0_0 := cell_of_row _ _ 0 _ _ _ hr20_0
      have c0_1 := cell_of_row _ _ 1 _ _ _ hr20_0
      have c0_2 := cell_of_row _ _ 2 _ _ _ hr20_0
      have c0_3 := cell_of_row _ _ 3 _ _ _ hr20_0
      have c0_4 := cell_of_row _ _ 4 _ _ _ hr20_0
      have c0_5 := cell_of_row _ _ 5 _ _ _ hr20_0
      have c0_6 := cell_of_row _ _ 6 _ _ _ hr20_0
      have c0_7 := cell_of_row _ _ 7 _ _ _ hr20_0
      have c1_0 := cell_of_row _ _ 0 _ _ _ hr20_1
      have c1_1 := cell_of_row _ _ 1 _ _ _ hr20_1
      have c1_2 := cell_of_row _ _ 2 _ _ _ hr20_1
      have c1_3 := cell_of_row _ _ 3 _ _ _ hr20_1
      have c1_4 := cell_of_row _ _ 4 _ _ _ hr20_1
      have c1_5 := cell_of_row _ _ 5 _ _ _ hr20_1
      have c1_6 := cell_of_row _ _ 6 _ _ _ hr20_1
      have c1_7 := cell_of_row _ _ 7 _ _ _ hr20_1
      have c2_0 := cell_of_row _ _ 0 _ _ _ hr20_2
      have c2_1 := cell_of_row _ _ 1 _ _ _ hr20_2
      have c2_2 := cell_of_row _ _ 2 _ _ _ hr20_2
      simp at c0_0 c0_1 c0_2 c0_3 c0_4 c0_5 c0_6 c0_7 c1_0 c1_1 c1_2 c1_3 c1_4 c1_5 c1_6 c1_7 c2_0 c2_1 c2_2
      go_wp2_with fail
      refine (HDB.out _ (⟨al, cl, ad, cd, an, cn, ab, cb, ax, cx, af, cf⟩ : Pl) (⟨al2, cl2, ad2, cd2, an2, cn2, ab2, cb2, ax2, cx2, af2, cf2⟩ : Pl) am cm (HC.out.at_.on HU20.out) (HC2.out.at_.on HU20.out) (HM.out.on HU20.out)).mono ?_
      rintro e y21 ⟨⟨a6, c6, rfl, hdb⟩, hb21⟩
      clear c0_0 c0_1 c0_2 c0_3 c0_4 c0_5 c0_6 c0_7 c1_0 c1_1 c1_2 c1_3 c1_4 c1_5 c1_6 c1_7 c2_0 c2_1 c2_2
      have hr21_0 := (hb21.block _ (lt_heap hr20_0)).trans hr20_0
      have hr21_1 := (hb21.block _ (lt_heap hr20_1)).trans hr20_1
      have hr21_2 := (hb21.block _ (lt_heap hr20_2)).trans hr20_2
      have hr21_3 := (hb21.block _ (lt_heap hr20_3)).trans hr20_3
      have hr21_4 := (hb21.block _ (lt_heap hr20_4)).trans hr20_4
      have hr21_5 := (hb21.block _ (lt_heap hr20_5)).trans hr20_5
      have HU21 := Lib.hid (HU20.out.trans (hb21.mono HU20.out.size))
      clear hr20_0 hr20_1 hr20_2 hr20_3 hr20_4 hr20_5 HU20
      have HF21 := Lib.hid (HF20.out.on hb21)
      clear HF20
      have HG21 := Lib.hid (HG20.out.on hb21)
      clear HG20
      have HR21 := Lib.hid (HR20.out.on hb21)
      clear HR20
      have HD21 := Lib.hid (hdb.rw (by decide))
      clear hdb
      go_upto_region 6 with fail
      have hb22 := Ve.below_n1 y21 (.cells #[.int .i64 BW, .int .i64 BH, .slice a6 BN c6] 24)
      have hN := heap_alloc_last y21 (.cells #[.int .i64 BW, .int .i64 BH, .slice a6 BN c6] 24)
      obtain ⟨y22, hy22⟩ : ∃ y, y21.alloc (.cells #[.int .i64 BW, .int .i64 BH, .slice a6 BN c6] 24) = y := ⟨_, rfl⟩
      have hs22 : y22.heap.size = y21.heap.size + 1 := by rw [← hy22]; simp
      rw [hy22] at hb22 hN ⊢
      clear hy22
      have hl22_0 := lt_heap hr21_0
      have hl22_1 := lt_heap hr21_1
      have hl22_2 := lt_heap hr21_2
      have hl22_3 := lt_heap hr21_3
      have hl22_4 := lt_heap hr21_4
      have hl22_5 := lt_heap hr21_5
      have hr22_0 := (hb22.block _ (lt_heap hr21_0)).trans hr21_0
      have hr22_1 := (hb22.block _ (lt_heap hr21_1)).trans hr21_1
      have hr22_2 := (hb22.block _ (lt_heap hr21_2)).trans hr21_2
      have hr22_3 := (hb22.block _ (lt_heap hr21_3)).trans hr21_3
      have hr22_4 := (hb22.block _ (lt_heap hr21_4)).trans hr21_4
      have hr22_5 := (hb22.block _ (lt_heap hr21_5)).trans hr21_5
      have HU22 := Lib.hid (HU21.out.trans (hb22.mono HU21.out.size))
      clear hr21_0 hr21_1 hr21_2 hr21_3 hr21_4 hr21_5 HU21
      have hr22_6 := hN
      clear hN
      have HF22 := Lib.hid (HF21.out.on hb22)
      clear HF21
      have HG22 := Lib.hid (HG21.out.on hb22)
      clear HG21
      have HR22 := Lib.hid (HR21.out.on hb22)
      clear HR21
      have HD22 := Lib.hid (HD21.out.on hb22)
      clear HD21
      by_cases ho : okF (⟨W, H, nl, nd, nn, nb, ns, nf, L, D, N, B, S, F⟩ : Flm)
      · have HO := Lib.hid ho
        clear ho
        have c3_0 := cell_of_row _ _ 0 _ _ _ hr22_3
        have c3_1 := cell_of_row _ _ 1 _ _ _ hr22_3
        have c3_2 := cell_of_row _ _ 2 _ _ _ hr22_3
        have c3_3 := cell_of_row _ _ 3 _ _ _ hr22_3
        have c3_4 := cell_of_row _ _ 4 _ _ _ hr22_3
        have c3_5 := cell_of_row _ _ 5 _ _ _ hr22_3
        have c3_6 := cell_of_row _ _ 6 _ _ _ hr22_3
        have c3_7 := cell_of_row _ _ 7 _ _ _ hr22_3
        simp at c3_0 c3_1 c3_2 c3_3 c3_4 c3_5 c3_6 c3_7
        go_wp2_with fail
        refine (alone_y (⟨W, H, nl, nd, nn, nb, ns, nf, L, D, N, B, S, F⟩ : Flm) (⟨al3, cl3, ad3, cd3, an3, cn3, ab3, cb3, ax3, cx3, af3, cf3⟩ : Pl) _ HF22.out HO.out).mono ?_
        rintro e y23 ⟨⟨a7, c7, rfl, hal⟩, hb23⟩
        clear c3_0 c3_1 c3_2 c3_3 c3_4 c3_5 c3_6 c3_7
        have hr23_0 := (hb23.block _ (lt_heap hr22_0)).trans hr22_0
        have hr23_1 := (hb23.block _ (lt_heap hr22_1)).trans hr22_1
        have hr23_2 := (hb23.block _ (lt_heap hr22_2)).trans hr22_2
        have hr23_3 := (hb23.block _ (lt_heap hr22_3)).trans hr22_3
        have hr23_4 := (hb23.block _ (lt_heap hr22_4)).trans hr22_4
        have hr23_5 := (hb23.block _ (lt_heap hr22_5)).trans hr22_5
        have hr23_6 := (hb23.block _ (lt_heap hr22_6)).trans hr22_6
        have HU23 := Lib.hid (HU22.out.trans (hb23.mono HU22.out.size))
        clear hr22_0 hr22_1 hr22_2 hr22_3 hr22_4 hr22_5 hr22_6 HU22
        have HF23 := Lib.hid (HF22.out.on hb23)
        clear HF22
        have HG23 := Lib.hid (HG22.out.on hb23)
        clear HG22
        have HR23 := Lib.hid (HR22.out.on hb23)
        clear HR22
        have HD23 := Lib.hid (HD22.out.on hb23)
        clear HD22
        have HL23 := Lib.hid (hal.rw (by decide))
        clear hal
        go_upto_region 7 with fail
        have hb24 := Ve.below_n1 y23 (.cells #[.int .i64 W, .int .i64 H, .slice a7 nl c7] 36)
        have hN := heap_alloc_last y23 (.cells #[.int .i64 W, .int .i64 H, .slice a7 nl c7] 36)
        obtain ⟨y24, hy24⟩ : ∃ y, y23.alloc (.cells #[.int .i64 W, .int .i64 H, .slice a7 nl c7] 36) = y := ⟨_, rfl⟩
        have hs24 : y24.heap.size = y23.heap.size + 1 := by rw [← hy24]; simp
        rw [hy24] at hb24 hN ⊢
        clear hy24
        have hl24_0 := lt_heap hr23_0
        have hl24_1 := lt_heap hr23_1
        have hl24_2 := lt_heap hr23_2
        have hl24_3 := lt_heap hr23_3
        have hl24_4 := lt_heap hr23_4
        have hl24_5 := lt_heap hr23_5
        have hl24_6 := lt_heap hr23_6
        have hr24_0 := (hb24.block _ (lt_heap hr23_0)).trans hr23_0
        have hr24_1 := (hb24.block _ (lt_heap hr23_1)).trans hr23_1
        have hr24_2 := (hb24.block _ (lt_heap hr23_2)).trans hr23_2
        have hr24_3 := (hb24.block _ (lt_heap hr23_3)).trans hr23_3
        have hr24_4 := (hb24.block _ (lt_heap hr23_4)).trans hr23_4
        have hr24_5 := (hb24.block _ (lt_heap hr23_5)).trans hr23_5
        have hr24_6 := (hb24.block _ (lt_heap hr23_6)).trans hr23_6
        have HU24 := Lib.hid (HU23.out.trans (hb24.mono HU23.out.size))
        clear hr23_0 hr23_1 hr23_2 hr23_3 hr23_4 hr23_5 hr23_6 HU23
        have hr24_7 := hN
        clear hN
        have HF24 := Lib.hid (HF23.out.on hb24)
        clear HF23
        have HG24 := Lib.hid (HG23.out.on hb24)
        clear HG23
        have HR24 := Lib.hid (HR23.out.on hb24)
        clear HR23
        have HD24 := Lib.hid (HD23.out.on hb24)
        clear HD23
        have HL24 := Lib.hid (HL23.out.on hb24)
        clear HL23
        have hbn24 : BN * 24 ≤ 140737488351232 := by omega
        have hnl24 : nl * 24 ≤ 140737488351232 := by omega
        have hbn1 : BN ≤ 140737488351232 := by omega
        have hnl1 : nl ≤ 140737488351232 := by omega
        refine wp_region_held_drew (S := fun y => y.heap[w.heap.size]? = some (.cells #[.int .i64 W, .int .i64 H, .slice al nl cl, .slice ad nd cd, .slice an nn cn, .slice ab nb cb, .slice ax ns cx, .slice af nf cf] 29 (0, 0)) ∧ y.heap[w.heap.size + 1]? = some (.cells #[.int .i64 W2, .int .i64 H2, .slice al2 nl2 cl2, .slice ad2 nd2 cd2, .slice an2 nn2 cn2, .slice ab2 nb2 cb2, .slice ax2 ns2 cx2, .slice af2 nf2 cf2] 29 (0, 0)) ∧ y.heap[q1]? = some (.cells #[.int .i64 W, .int .i64 H, .slice al3 nl cl3, .slice ad3 nd cd3, .slice an3 nn cn3, .slice ab3 nb cb3, .slice ax3 ns cx3, .slice af3 nf cf3] 40 (0, 0)) ∧ y.heap[q2]? = some (.cells #[.int .i64 W2, .int .i64 H2, .slice al4 nl2 cl4, .slice ad4 nd2 cd4, .slice an4 nn2 cn4, .slice ab4 nb2 cb4, .slice ax4 ns2 cx4, .slice af4 nf2 cf4] 40 (0, 0)) ∧ y.heap[q3]? = some (.cells #[.int .i64 BW, .int .i64 BH, .slice a5 BN c5] 36 (0, 0)) ∧ y.heap[y21.heap.size]? = some (.cells #[.int .i64 BW, .int .i64 BH, .slice a6 BN c6] 24 (0, 0)) ∧ y.heap[y23.heap.size]? = some (.cells #[.int .i64 W, .int .i64 H, .slice a7 nl c7] 36 (0, 0))) (by kernel_rfl) (⟨hr24_0, hr24_1, hr24_3, hr24_4, hr24_5, hr24_6, hr24_7⟩) (fun hS0 => ?_)
        obtain ⟨y25, hy25⟩ : ∃ y, y24.drew = y := ⟨_, rfl⟩
        have HU25 := Lib.hid (show Below w.heap.size w y25 by rw [← hy25]; exact HU24.out.drew)
        have hr25_0 : y25.heap[w.heap.size]? = some (.cells #[.int .i64 W, .int .i64 H, .slice al nl cl, .slice ad nd cd, .slice an nn cn, .slice ab nb cb, .slice ax ns cx, .slice af nf cf] 29 (0, 0)) := by rw [← hy25]; exact hr24_0
        have hr25_1 : y25.heap[w.heap.size + 1]? = some (.cells #[.int .i64 W2, .int .i64 H2, .slice al2 nl2 cl2, .slice ad2 nd2 cd2, .slice an2 nn2 cn2, .slice ab2 nb2 cb2, .slice ax2 ns2 cx2, .slice af2 nf2 cf2] 29 (0, 0)) := by rw [← hy25]; exact hr24_1
        have hr25_2 : y25.heap[w.heap.size + 1 + 1]? = some (.cells #[.int .i64 W3, .int .i64 H3, .slice am nm cm] 24 (0, 0)) := by rw [← hy25]; exact hr24_2
        have hr25_3 : y25.heap[q1]? = some (.cells #[.int .i64 W, .int .i64 H, .slice al3 nl cl3, .slice ad3 nd cd3, .slice an3 nn cn3, .slice ab3 nb cb3, .slice ax3 ns cx3, .slice af3 nf cf3] 40 (0, 0)) := by rw [← hy25]; exact hr24_3
        have hr25_4 : y25.heap[q2]? = some (.cells #[.int .i64 W2, .int .i64 H2, .slice al4 nl2 cl4, .slice ad4 nd2 cd4, .slice an4 nn2 cn4, .slice ab4 nb2 cb4, .slice ax4 ns2 cx4, .slice af4 nf2 cf4] 40 (0, 0)) := by rw [← hy25]; exact hr24_4
        have hr25_5 : y25.heap[q3]? = some (.cells #[.int .i64 BW, .int .i64 BH, .slice a5 BN c5] 36 (0, 0)) := by rw [← hy25]; exact hr24_5
        have hr25_6 : y25.heap[y21.heap.size]? = some (.cells #[.int .i64 BW, .int .i64 BH, .slice a6 BN c6] 24 (0, 0)) := by rw [← hy25]; exact hr24_6
        have hr25_7 : y25.heap[y23.heap.size]? = some (.cells #[.int .i64 W, .int .i64 H, .slice a7 nl c7] 36 (0, 0)) := by rw [← hy25]; exact hr24_7
        have hz25 : y24.heap.size ≤ y25.heap.size := by rw [← hy25]; exact Nat.le_refl _
        have HF25 := Lib.hid (show FAt y25 (⟨W, H, nl, nd, nn, nb, ns, nf, L, D, N, B, S, F⟩ : Flm) (⟨al3, cl3, ad3, cd3, an3, cn3, ab3, cb3, ax3, cx3, af3, cf3⟩ : Pl) by rw [← hy25]; exact HF24.out.on (Below.refl _ _).drew)
        have HG25 := Lib.hid (show FAt y25 (⟨W2, H2, nl2, nd2, nn2, nb2, ns2, nf2, L2, D2, N2, B2, S2, F2⟩ : Flm) (⟨al4, cl4, ad4, cd4, an4, cn4, ab4, cb4, ax4, cx4, af4, cf4⟩ : Pl) by rw [← hy25]; exact HG24.out.on (Below.refl _ _).drew)
        have HR25 := Lib.hid (show Rw 3 y25 a5 BN LB by rw [← hy25]; exact HR24.out.on (Below.refl _ _).drew)
        have HD25 := Lib.hid (show Rw 3 y25 a6 BN LB by rw [← hy25]; exact HD24.out.on (Below.refl _ _).drew)
        have HL25 := Lib.hid (show Rw 3 y25 a7 nl L by rw [← hy25]; exact HL24.out.on (Below.refl _ _).drew)
        rw [hy25] at hS0 ⊢
        clear hy25
        refine wpAnyH_take (i := 0) (v := ?_) rfl (by kernel_rfl) (by kernel_rfl) (by kernel_rfl) (fun _ _ _ h => h) (Or.inl ⟨by kernel_rfl, by (intro wz hSz; have c0_0 := cell_of_row _ _ 0 _ _ _ hSz.1; have c0_1 := cell_of_row _ _ 1 _ _ _ hSz.1; have c0_2 := cell_of_row _ _ 2 _ _ _ hSz.1; have c0_3 := cell_of_row _ _ 3 _ _ _ hSz.1; have c0_4 := cell_of_row _ _ 4 _ _ _ hSz.1; have c0_5 := cell_of_row _ _ 5 _ _ _ hSz.1; have c0_6 := cell_of_row _ _ 6 _ _ _ hSz.1; have c0_7 := cell_of_row _ _ 7 _ _ _ hSz.1; have c1_0 := cell_of_row _ _ 0 _ _ _ hSz.2.1; have c1_1 := cell_of_row _ _ 1 _ _ _ hSz.2.1; have c1_2 := cell_of_row _ _ 2 _ _ _ hSz.2.1; have c1_3 := cell_of_row _ _ 3 _ _ _ hSz.2.1; have c1_4 := cell_of_row _ _ 4 _ _ _ hSz.2.1; have c1_5 := cell_of_row _ _ 5 _ _ _ hSz.2.1; have c1_6 := cell_of_row _ _ 6 _ _ _ hSz.2.1; have c1_7 := cell_of_row _ _ 7 _ _ _ hSz.2.1; have c3_0 := cell_of_row _ _ 0 _ _ _ hSz.2.2.1; have c3_1 := cell_of_row _ _ 1 _ _ _ hSz.2.2.1; have c3_2 := cell_of_row _ _ 2 _ _ _ hSz.2.2.1; have c3_3 := cell_of_row _ _ 3 _ _ _ hSz.2.2.1; have c3_4 := cell_of_row _ _ 4 _ _ _ hSz.2.2.1; have c3_5 := cell_of_row _ _ 5 _ _ _ hSz.2.2.1; have c3_6 := cell_of_row _ _ 6 _ _ _ hSz.2.2.1; have c3_7 := cell_of_row _ _ 7 _ _ _ hSz.2.2.1; have c4_0 := cell_of_row _ _ 0 _ _ _ hSz.2.2.2.1; have c4_1 := cell_of_row _ _ 1 _ _ _ hSz.2.2.2.1; have c4_2 := cell_of_row _ _ 2 _ _ _ hSz.2.2.2.1; have c4_3 := cell_of_row _ _ 3 _ _ _ hSz.2.2.2.1; have c4_4 := cell_of_row _ _ 4 _ _ _ hSz.2.2.2.1; have c4_5 := cell_of_row _ _ 5 _ _ _ hSz.2.2.2.1; have c4_6 := cell_of_row _ _ 6 _ _ _ hSz.2.2.2.1; have c4_7 := cell_of_row _ _ 7 _ _ _ hSz.2.2.2.1; have c5_0 := cell_of_row _ _ 0 _ _ _ hSz.2.2.2.2.1; have c5_1 := cell_of_row _ _ 1 _ _ _ hSz.2.2.2.2.1; have c5_2 := cell_of_row _ _ 2 _ _ _ hSz.2.2.2.2.1; have c6_0 := cell_of_row _ _ 0 _ _ _ hSz.2.2.2.2.2.1; have c6_1 := cell_of_row _ _ 1 _ _ _ hSz.2.2.2.2.2.1; have c6_2 := cell_of_row _ _ 2 _ _ _ hSz.2.2.2.2.2.1; have c7_0 := cell_of_row _ _ 0 _ _ _ hSz.2.2.2.2.2.2; have c7_1 := cell_of_row _ _ 1 _ _ _ hSz.2.2.2.2.2.2; have c7_2 := cell_of_row _ _ 2 _ _ _ hSz.2.2.2.2.2.2; simp at c0_0 c0_1 c0_2 c0_3 c0_4 c0_5 c0_6 c0_7 c1_0 c1_1 c1_2 c1_3 c1_4 c1_5 c1_6 c1_7 c3_0 c3_1 c3_2 c3_3 c3_4 c3_5 c3_6 c3_7 c4_0 c4_1 c4_2 c4_3 c4_4 c4_5 c4_6 c4_7 c5_0 c5_1 c5_2 c6_0 c6_1 c6_2 c7_0 c7_1 c7_2; go_simp; try with_reducible rfl)⟩) hS0 ?_
        go_simp
        refine wpAnyH_take (i := 2) (v := ?_) rfl (by kernel_rfl) (by kernel_rfl) (by kernel_rfl) (fun _ _ _ h => h) (Or.inl ⟨by kernel_rfl, by (intro wz hSz; go_simp; try with_reducible rfl)⟩) hS0 ?_
        go_simp
        refine wpAnyH_take (i := 3) (v := ?_) rfl (by kernel_rfl) (by kernel_rfl) (by kernel_rfl) (fun _ _ _ h => h) (Or.inl ⟨by kernel_rfl, by (intro wz hSz; go_simp; try with_reducible rfl)⟩) hS0 ?_
        go_simp
        refine wpAnyH_ready (rs := [1]) (by kernel_rfl) (by simp) ?_
        refine AllReadyH.cons rfl (fun K hK => ?_) AllReadyH.nil
        go_simp
        go_wp2_with (go_at_call 12; refine (dright_any (⟨W, H, nl, nd, nn, nb, ns, nf, L, D, N, B, S, F⟩ : Flm) (⟨al, cl, ad, cd, an, cn, ab, cb, ax, cx, af, cf⟩ : Pl) _ (HC.out.at_.on HU25.out)).mono ?_; rintro e y26 ⟨rfl, hb26⟩; rw [decide_eq_true HO.out])
        have hr26_0 := (hb26.block _ (lt_heap hr25_0)).trans hr25_0
        have hr26_1 := (hb26.block _ (lt_heap hr25_1)).trans hr25_1
        have hr26_2 := (hb26.block _ (lt_heap hr25_2)).trans hr25_2
        have hr26_3 := (hb26.block _ (lt_heap hr25_3)).trans hr25_3
        have hr26_4 := (hb26.block _ (lt_heap hr25_4)).trans hr25_4
        have hr26_5 := (hb26.block _ (lt_heap hr25_5)).trans hr25_5
        have hr26_6 := (hb26.block _ (lt_heap hr25_6)).trans hr25_6
        have hr26_7 := (hb26.block _ (lt_heap hr25_7)).trans hr25_7
        have HU26 := Lib.hid (HU25.out.trans (hb26.mono HU25.out.size))
        have HF26 := Lib.hid (HF25.out.on hb26)
        have HG26 := Lib.hid (HG25.out.on hb26)
        have HR26 := Lib.hid (HR25.out.on hb26)
        have HD26 := Lib.hid (HD25.out.on hb26)
        have HL26 := Lib.hid (HL25.out.on hb26)
        have hz26 := hb26.size
        refine hK.out _ _ (⟨(hb26.block _ (lt_heap hS0.1)).trans hS0.1, (hb26.block _ (lt_heap hS0.2.1)).trans hS0.2.1, (hb26.block _ (lt_heap hS0.2.2.1)).trans hS0.2.2.1, (hb26.block _ (lt_heap hS0.2.2.2.1)).trans hS0.2.2.2.1, (hb26.block _ (lt_heap hS0.2.2.2.2.1)).trans hS0.2.2.2.2.1, (hb26.block _ (lt_heap hS0.2.2.2.2.2.1)).trans hS0.2.2.2.2.2.1, (hb26.block _ (lt_heap hS0.2.2.2.2.2.2)).trans hS0.2.2.2.2.2.2⟩) (fun hS26c => ?_)
        clear hK K
        refine wpAnyH_take (i := 4) (v := ?_) rfl (by kernel_rfl) (by kernel_rfl) (by kernel_rfl) (fun _ _ _ h => h) (Or.inl ⟨by kernel_rfl, by (intro wz hSz; go_simp; try with_reducible rfl)⟩) hS26c ?_
        go_simp
        refine wpAnyH_take (i := 5) (v := ?_) rfl (by kernel_rfl) (by kernel_rfl) (by kernel_rfl) (fun _ _ _ h => h) (Or.inl ⟨by kernel_rfl, by (intro wz hSz; go_simp; try with_reducible rfl)⟩) hS26c ?_
        go_simp
        refine wpAnyH_take (i := 6) (v := ?_) rfl (by kernel_rfl) (by kernel_rfl) (by kernel_rfl) (fun _ _ _ h => h) (Or.inl ⟨by kernel_rfl, by (intro wz hSz; go_simp; try with_reducible rfl)⟩) hS26c ?_
        go_simp
        refine wpAnyH_take (i := 7) (v := ?_) rfl (by kernel_rfl) (by kernel_rfl) (by kernel_rfl) (fun _ _ _ h => h) (Or.inl ⟨by kernel_rfl, by (intro wz hSz; go_simp; try with_reducible rfl)⟩) hS26c ?_
        go_simp
        refine wpAnyH_take (i := 8) (v := ?_) rfl (by kernel_rfl) (by kernel_rfl) (by kernel_rfl) (fun _ _ _ h => h) (Or.inl ⟨by kernel_rfl, by (intro wz hSz; go_simp; try with_reducible rfl)⟩) hS26c ?_
        go_simp
        refine wpAnyH_take (i := 9) (v := ?_) rfl (by kernel_rfl) (by kernel_rfl) (by kernel_rfl) (fun _ _ _ h => h) (Or.inl ⟨by kernel_rfl, by (intro wz hSz; have c0_0 := cell_of_row _ _ 0 _ _ _ hSz.1; have c0_1 := cell_of_row _ _ 1 _ _ _ hSz.1; have c0_2 := cell_of_row _ _ 2 _ _ _ hSz.1; have c0_3 := cell_of_row _ _ 3 _ _ _ hSz.1; have c0_4 := cell_of_row _ _ 4 _ _ _ hSz.1; have c0_5 := cell_of_row _ _ 5 _ _ _ hSz.1; have c0_6 := cell_of_row _ _ 6 _ _ _ hSz.1; have c0_7 := cell_of_row _ _ 7 _ _ _ hSz.1; have c1_0 := cell_of_row _ _ 0 _ _ _ hSz.2.1; have c1_1 := cell_of_row _ _ 1 _ _ _ hSz.2.1; have c1_2 := cell_of_row _ _ 2 _ _ _ hSz.2.1; have c1_3 := cell_of_row _ _ 3 _ _ _ hSz.2.1; have c1_4 := cell_of_row _ _ 4 _ _ _ hSz.2.1; have c1_5 := cell_of_row _ _ 5 _ _ _ hSz.2.1; have c1_6 := cell_of_row _ _ 6 _ _ _ hSz.2.1; have c1_7 := cell_of_row _ _ 7 _ _ _ hSz.2.1; have c3_0 := cell_of_row _ _ 0 _ _ _ hSz.2.2.1; have c3_1 := cell_of_row _ _ 1 _ _ _ hSz.2.2.1; have c3_2 := cell_of_row _ _ 2 _ _ _ hSz.2.2.1; have c3_3 := cell_of_row _ _ 3 _ _ _ hSz.2.2.1; have c3_4 := cell_of_row _ _ 4 _ _ _ hSz.2.2.1; have c3_5 := cell_of_row _ _ 5 _ _ _ hSz.2.2.1; have c3_6 := cell_of_row _ _ 6 _ _ _ hSz.2.2.1; have c3_7 := cell_of_row _ _ 7 _ _ _ hSz.2.2.1; have c4_0 := cell_of_row _ _ 0 _ _ _ hSz.2.2.2.1; have c4_1 := cell_of_row _ _ 1 _ _ _ hSz.2.2.2.1; have c4_2 := cell_of_row _ _ 2 _ _ _ hSz.2.2.2.1; have c4_3 := cell_of_row _ _ 3 _ _ _ hSz.2.2.2.1; have c4_4 := cell_of_row _ _ 4 _ _ _ hSz.2.2.2.1; have c4_5 := cell_of_row _ _ 5 _ _ _ hSz.2.2.2.1; have c4_6 := cell_of_row _ _ 6 _ _ _ hSz.2.2.2.1; have c4_7 := cell_of_row _ _ 7 _ _ _ hSz.2.2.2.1; have c5_0 := cell_of_row _ _ 0 _ _ _ hSz.2.2.2.2.1; have c5_1 := cell_of_row _ _ 1 _ _ _ hSz.2.2.2.2.1; have c5_2 := cell_of_row _ _ 2 _ _ _ hSz.2.2.2.2.1; have c6_0 := cell_of_row _ _ 0 _ _ _ hSz.2.2.2.2.2.1; have c6_1 := cell_of_row _ _ 1 _ _ _ hSz.2.2.2.2.2.1; have c6_2 := cell_of_row _ _ 2 _ _ _ hSz.2.2.2.2.2.1; have c7_0 := cell_of_row _ _ 0 _ _ _ hSz.2.2.2.2.2.2; have c7_1 := cell_of_row _ _ 1 _ _ _ hSz.2.2.2.2.2.2; have c7_2 := cell_of_row _ _ 2 _ _ _ hSz.2.2.2.2.2.2; simp at c0_0 c0_1 c0_2 c0_3 c0_4 c0_5 c0_6 c0_7 c1_0 c1_1 c1_2 c1_3 c1_4 c1_5 c1_6 c1_7 c3_0 c3_1 c3_2 c3_3 c3_4 c3_5 c3_6 c3_7 c4_0 c4_1 c4_2 c4_3 c4_4 c4_5 c4_6 c4_7 c5_0 c5_1 c5_2 c6_0 c6_1 c6_2 c7_0 c7_1 c7_2; go_simp; try with_reducible rfl)⟩) hS26c ?_
        go_simp
        refine wpAnyH_take (i := 11) (v := ?_) rfl (by kernel_rfl) (by kernel_rfl) (by kernel_rfl) (fun _ _ _ h => h) (Or.inl ⟨by kernel_rfl, by (intro wz hSz; go_simp; try with_reducible rfl)⟩) hS26c ?_
        go_simp
        refine wpAnyH_take (i := 12) (v := ?_) rfl (by kernel_rfl) (by kernel_rfl) (by kernel_rfl) (fun _ _ _ h => h) (Or.inl ⟨by kernel_rfl, by (intro wz hSz; have c0_0 := cell_of_row _ _ 0 _ _ _ hSz.1; have c0_1 := cell_of_row _ _ 1 _ _ _ hSz.1; have c0_2 := cell_of_row _ _ 2 _ _ _ hSz.1; have c0_3 := cell_of_row _ _ 3 _ _ _ hSz.1; have c0_4 := cell_of_row _ _ 4 _ _ _ hSz.1; have c0_5 := cell_of_row _ _ 5 _ _ _ hSz.1; have c0_6 := cell_of_row _ _ 6 _ _ _ hSz.1; have c0_7 := cell_of_row _ _ 7 _ _ _ hSz.1; have c1_0 := cell_of_row _ _ 0 _ _ _ hSz.2.1; have c1_1 := cell_of_row _ _ 1 _ _ _ hSz.2.1; have c1_2 := cell_of_row _ _ 2 _ _ _ hSz.2.1; have c1_3 := cell_of_row _ _ 3 _ _ _ hSz.2.1; have c1_4 := cell_of_row _ _ 4 _ _ _ hSz.2.1; have c1_5 := cell_of_row _ _ 5 _ _ _ hSz.2.1; have c1_6 := cell_of_row _ _ 6 _ _ _ hSz.2.1; have c1_7 := cell_of_row _ _ 7 _ _ _ hSz.2.1; have c3_0 := cell_of_row _ _ 0 _ _ _ hSz.2.2.1; have c3_1 := cell_of_row _ _ 1 _ _ _ hSz.2.2.1; have c3_2 := cell_of_row _ _ 2 _ _ _ hSz.2.2.1; have c3_3 := cell_of_row _ _ 3 _ _ _ hSz.2.2.1; have c3_4 := cell_of_row _ _ 4 _ _ _ hSz.2.2.1; have c3_5 := cell_of_row _ _ 5 _ _ _ hSz.2.2.1; have c3_6 := cell_of_row _ _ 6 _ _ _ hSz.2.2.1; have c3_7 := cell_of_row _ _ 7 _ _ _ hSz.2.2.1; have c4_0 := cell_of_row _ _ 0 _ _ _ hSz.2.2.2.1; have c4_1 := cell_of_row _ _ 1 _ _ _ hSz.2.2.2.1; have c4_2 := cell_of_row _ _ 2 _ _ _ hSz.2.2.2.1; have c4_3 := cell_of_row _ _ 3 _ _ _ hSz.2.2.2.1; have c4_4 := cell_of_row _ _ 4 _ _ _ hSz.2.2.2.1; have c4_5 := cell_of_row _ _ 5 _ _ _ hSz.2.2.2.1; have c4_6 := cell_of_row _ _ 6 _ _ _ hSz.2.2.2.1; have c4_7 := cell_of_row _ _ 7 _ _ _ hSz.2.2.2.1; have c5_0 := cell_of_row _ _ 0 _ _ _ hSz.2.2.2.2.1; have c5_1 := cell_of_row _ _ 1 _ _ _ hSz.2.2.2.2.1; have c5_2 := cell_of_row _ _ 2 _ _ _ hSz.2.2.2.2.1; have c6_0 := cell_of_row _ _ 0 _ _ _ hSz.2.2.2.2.2.1; have c6_1 := cell_of_row _ _ 1 _ _ _ hSz.2.2.2.2.2.1; have c6_2 := cell_of_row _ _ 2 _ _ _ hSz.2.2.2.2.2.1; have c7_0 := cell_of_row _ _ 0 _ _ _ hSz.2.2.2.2.2.2; have c7_1 := cell_of_row _ _ 1 _ _ _ hSz.2.2.2.2.2.2; have c7_2 := cell_of_row _ _ 2 _ _ _ hSz.2.2.2.2.2.2; simp at c0_0 c0_1 c0_2 c0_3 c0_4 c0_5 c0_6 c0_7 c1_0 c1_1 c1_2 c1_3 c1_4 c1_5 c1_6 c1_7 c3_0 c3_1 c3_2 c3_3 c3_4 c3_5 c3_6 c3_7 c4_0 c4_1 c4_2 c4_3 c4_4 c4_5 c4_6 c4_7 c5_0 c5_1 c5_2 c6_0 c6_1 c6_2 c7_0 c7_1 c7_2; go_simp; try with_reducible rfl)⟩) hS26c ?_
        go_simp
        refine wpAnyH_ready (rs := [10]) (by kernel_rfl) (by simp) ?_
        refine AllReadyH.cons rfl (fun K hK => ?_) AllReadyH.nil
        go_simp
        go_wp2_with (go_at_call 14; refine (fromsheet_any W H a7 nl c7 L _ HL26.out hnl24).mono ?_; rintro e y27 ⟨⟨a8, c8, rfl, hfs⟩, hb27⟩)
        have hr27_0 := (hb27.block _ (lt_heap hr26_0)).trans hr26_0
        have hr27_1 := (hb27.block _ (lt_heap hr26_1)).trans hr26_1
        have hr27_2 := (hb27.block _ (lt_heap hr26_2)).trans hr26_2
        have hr27_3 := (hb27.block _ (lt_heap hr26_3)).trans hr26_3
        have hr27_4 := (hb27.block _ (lt_heap hr26_4)).trans hr26_4
        have hr27_5 := (hb27.block _ (lt_heap hr26_5)).trans hr26_5
        have hr27_6 := (hb27.block _ (lt_heap hr26_6)).trans hr26_6
        have hr27_7 := (hb27.block _ (lt_heap hr26_7)).trans hr26_7
        have HU27 := Lib.hid (HU26.out.trans (hb27.mono HU26.out.size))
        have HF27 := Lib.hid (HF26.out.on hb27)
        have HG27 := Lib.hid (HG26.out.on hb27)
        have HR27 := Lib.hid (HR26.out.on hb27)
        have HD27 := Lib.hid (HD26.out.on hb27)
        have HL27 := Lib.hid (HL26.out.on hb27)
        have hz27 := hb27.size
        have HS27 := Lib.hid (hfs.rw (by decide))
        refine hK.out _ _ (⟨(hb27.block _ (lt_heap hS26c.1)).trans hS26c.1, (hb27.block _ (lt_heap hS26c.2.1)).trans hS26c.2.1, (hb27.block _ (lt_heap hS26c.2.2.1)).trans hS26c.2.2.1, (hb27.block _ (lt_heap hS26c.2.2.2.1)).trans hS26c.2.2.2.1, (hb27.block _ (lt_heap hS26c.2.2.2.2.1)).trans hS26c.2.2.2.2.1, (hb27.block _ (lt_heap hS26c.2.2.2.2.2.1)).trans hS26c.2.2.2.2.2.1, (hb27.block _ (lt_heap hS26c.2.2.2.2.2.2)).trans hS26c.2.2.2.2.2.2⟩) (fun hS27c => ?_)
        clear hK K
        refine wpAnyH_ready (rs := [13]) (by kernel_rfl) (by simp) ?_
        refine AllReadyH.cons rfl (fun K hK => ?_) AllReadyH.nil
        go_simp
        go_wp2_with (go_at_call 13; refine (samesheet_any W H nl a8 al c8 cl L _ HS27.out (HC.out.at_.l.on HU27.out) hnl1).mono ?_; rintro e y28 ⟨rfl, hb28⟩)
        have hr28_0 := (hb28.block _ (lt_heap hr27_0)).trans hr27_0
        have hr28_1 := (hb28.block _ (lt_heap hr27_1)).trans hr27_1
        have hr28_2 := (hb28.block _ (lt_heap hr27_2)).trans hr27_2
        have hr28_3 := (hb28.block _ (lt_heap hr27_3)).trans hr27_3
        have hr28_4 := (hb28.block _ (lt_heap hr27_4)).trans hr27_4
        have hr28_5 := (hb28.block _ (lt_heap hr27_5)).trans hr27_5
        have hr28_6 := (hb28.block _ (lt_heap hr27_6)).trans hr27_6
        have hr28_7 := (hb28.block _ (lt_heap hr27_7)).trans hr27_7
        have HU28 := Lib.hid (HU27.out.trans (hb28.mono HU27.out.size))
        have HF28 := Lib.hid (HF27.out.on hb28)
        have HG28 := Lib.hid (HG27.out.on hb28)
        have HR28 := Lib.hid (HR27.out.on hb28)
        have HD28 := Lib.hid (HD27.out.on hb28)
        have HL28 := Lib.hid (HL27.out.on hb28)
        have HS28 := Lib.hid (HS27.out.on hb28)
        have hz28 := hb28.size
        refine hK.out _ _ (⟨(hb28.block _ (lt_heap hS27c.1)).trans hS27c.1, (hb28.block _ (lt_heap hS27c.2.1)).trans hS27c.2.1, (hb28.block _ (lt_heap hS27c.2.2.1)).trans hS27c.2.2.1, (hb28.block _ (lt_heap hS27c.2.2.2.1)).trans hS27c.2.2.2.1, (hb28.block _ (lt_heap hS27c.2.2.2.2.1)).trans hS27c.2.2.2.2.1, (hb28.block _ (lt_heap hS27c.2.2.2.2.2.1)).trans hS27c.2.2.2.2.2.1, (hb28.block _ (lt_heap hS27c.2.2.2.2.2.2)).trans hS27c.2.2.2.2.2.2⟩) (fun hS28c => ?_)
        clear hK K
        refine wpAnyH_take (i := 14) (v := ?_) rfl (by kernel_rfl) (by kernel_rfl) (by kernel_rfl) (fun _ _ _ h => h) (Or.inl ⟨by kernel_rfl, by (intro wz hSz; go_simp; try with_reducible rfl)⟩) hS28c ?_
        go_simp
        refine wpAnyH_take (i := 15) (v := ?_) rfl (by kernel_rfl) (by kernel_rfl) (by kernel_rfl) (fun _ _ _ h => h) (Or.inl ⟨by kernel_rfl, by (intro wz hSz; go_simp; try with_reducible rfl)⟩) hS28c ?_
        go_simp
        refine wpAnyH_take (i := 16) (v := ?_) rfl (by kernel_rfl) (by kernel_rfl) (by kernel_rfl) (fun _ _ _ h => h) (Or.inl ⟨by kernel_rfl, by (intro wz hSz; go_simp; try with_reducible rfl)⟩) hS28c ?_
        go_simp
        refine wpAnyH_done (by kernel_rfl) ?_ _
        go_upto_region 9 with fail
        refine wp_region_held_drew (S := fun y => y.heap[w.heap.size]? = some (.cells #[.int .i64 W, .int .i64 H, .slice al nl cl, .slice ad nd cd, .slice an nn cn, .slice ab nb cb, .slice ax ns cx, .slice af nf cf] 29 (0, 0)) ∧ y.heap[w.heap.size + 1]? = some (.cells #[.int .i64 W2, .int .i64 H2, .slice al2 nl2 cl2, .slice ad2 nd2 cd2, .slice an2 nn2 cn2, .slice ab2 nb2 cb2, .slice ax2 ns2 cx2, .slice af2 nf2 cf2] 29 (0, 0)) ∧ y.heap[q1]? = some (.cells #[.int .i64 W, .int .i64 H, .slice al3 nl cl3, .slice ad3 nd cd3, .slice an3 nn cn3, .slice ab3 nb cb3, .slice ax3 ns cx3, .slice af3 nf cf3] 40 (0, 0)) ∧ y.heap[q2]? = some (.cells #[.int .i64 W2, .int .i64 H2, .slice al4 nl2 cl4, .slice ad4 nd2 cd4, .slice an4 nn2 cn4, .slice ab4 nb2 cb4, .slice ax4 ns2 cx4, .slice af4 nf2 cf4] 40 (0, 0)) ∧ y.heap[q3]? = some (.cells #[.int .i64 BW, .int .i64 BH, .slice a5 BN c5] 36 (0, 0)) ∧ y.heap[y21.heap.size]? = some (.cells #[.int .i64 BW, .int .i64 BH, .slice a6 BN c6] 24 (0, 0))) (by kernel_rfl) (⟨hr28_0, hr28_1, hr28_3, hr28_4, hr28_5, hr28_6⟩) (fun hS0 => ?_)
        obtain ⟨y29, hy29⟩ : ∃ y, y28.drew = y := ⟨_, rfl⟩
        have HU29 := Lib.hid (show Below w.heap.size w y29 by rw [← hy29]; exact HU28.out.drew)
        have hr29_0 : y29.heap[w.heap.size]? = some (.cells #[.int .i64 W, .int .i64 H, .slice al nl cl, .slice ad nd cd, .slice an nn cn, .slice ab nb cb, .slice ax ns cx, .slice af nf cf] 29 (0, 0)) := by rw [← hy29]; exact hr28_0
        have hr29_1 : y29.heap[w.heap.size + 1]? = some (.cells #[.int .i64 W2, .int .i64 H2, .slice al2 nl2 cl2, .slice ad2 nd2 cd2, .slice an2 nn2 cn2, .slice ab2 nb2 cb2, .slice ax2 ns2 cx2, .slice af2 nf2 cf2] 29 (0, 0)) := by rw [← hy29]; exact hr28_1
        have hr29_2 : y29.heap[w.heap.size + 1 + 1]? = some (.cells #[.int .i64 W3, .int .i64 H3, .slice am nm cm] 24 (0, 0)) := by rw [← hy29]; exact hr28_2
        have hr29_3 : y29.heap[q1]? = some (.cells #[.int .i64 W, .int .i64 H, .slice al3 nl cl3, .slice ad3 nd cd3, .slice an3 nn cn3, .slice ab3 nb cb3, .slice ax3 ns cx3, .slice af3 nf cf3] 40 (0, 0)) := by rw [← hy29]; exact hr28_3
        have hr29_4 : y29.heap[q2]? = some (.cells #[.int .i64 W2, .int .i64 H2, .slice al4 nl2 cl4, .slice ad4 nd2 cd4, .slice an4 nn2 cn4, .slice ab4 nb2 cb4, .slice ax4 ns2 cx4, .slice af4 nf2 cf4] 40 (0, 0)) := by rw [← hy29]; exact hr28_4
        have hr29_5 : y29.heap[q3]? = some (.cells #[.int .i64 BW, .int .i64 BH, .slice a5 BN c5] 36 (0, 0)) := by rw [← hy29]; exact hr28_5
        have hr29_6 : y29.heap[y21.heap.size]? = some (.cells #[.int .i64 BW, .int .i64 BH, .slice a6 BN c6] 24 (0, 0)) := by rw [← hy29]; exact hr28_6
        have hr29_7 : y29.heap[y23.heap.size]? = some (.cells #[.int .i64 W, .int .i64 H, .slice a7 nl c7] 36 (0, 0)) := by rw [← hy29]; exact hr28_7
        have hz29 : y28.heap.size ≤ y29.heap.size := by rw [← hy29]; exact Nat.le_refl _
        have HF29 := Lib.hid (show FAt y29 (⟨W, H, nl, nd, nn, nb, ns, nf, L, D, N, B, S, F⟩ : Flm) (⟨al3, cl3, ad3, cd3, an3, cn3, ab3, cb3, ax3, cx3, af3, cf3⟩ : Pl) by rw [← hy29]; exact HF28.out.on (Below.refl _ _).drew)
        have HG29 := Lib.hid (show FAt y29 (⟨W2, H2, nl2, nd2, nn2, nb2, ns2, nf2, L2, D2, N2, B2, S2, F2⟩ : Flm) (⟨al4, cl4, ad4, cd4, an4, cn4, ab4, cb4, ax4, cx4, af4, cf4⟩ : Pl) by rw [← hy29]; exact HG28.out.on (Below.refl _ _).drew)
        have HR29 := Lib.hid (show Rw 3 y29 a5 BN LB by rw [← hy29]; exact HR28.out.on (Below.refl _ _).drew)
        have HD29 := Lib.hid (show Rw 3 y29 a6 BN LB by rw [← hy29]; exact HD28.out.on (Below.refl _ _).drew)
        have HL29 := Lib.hid (show Rw 3 y29 a7 nl L by rw [← hy29]; exact HL28.out.on (Below.refl _ _).drew)
        have HS29 := Lib.hid (show Rw 3 y29 a8 nl L by rw [← hy29]; exact HS28.out.on (Below.refl _ _).drew)
        rw [hy29] at hS0 ⊢
        clear hy29
        refine wpAnyH_ready (rs := [0]) (by kernel_rfl) (by simp) ?_
        refine AllReadyH.cons rfl (fun K hK => ?_) AllReadyH.nil
        go_simp
        go_wp2_with (go_at_call 6; refine (wawake_any _).mono ?_; rintro e y30 ⟨rfl, hb30⟩)
        have hr30_0 := (hb30.block _ (lt_heap hr29_0)).trans hr29_0
        have hr30_1 := (hb30.block _ (lt_heap hr29_1)).trans hr29_1
        have hr30_2 := (hb30.block _ (lt_heap hr29_2)).trans hr29_2
        have hr30_3 := (hb30.block _ (lt_heap hr29_3)).trans hr29_3
        have hr30_4 := (hb30.block _ (lt_heap hr29_4)).trans hr29_4
        have hr30_5 := (hb30.block _ (lt_heap hr29_5)).trans hr29_5
        have hr30_6 := (hb30.block _ (lt_heap hr29_6)).trans hr29_6
        have hr30_7 := (hb30.block _ (lt_heap hr29_7)).trans hr29_7
        have HU30 := Lib.hid (HU29.out.trans (hb30.mono HU29.out.size))
        have HF30 := Lib.hid (HF29.out.on hb30)
        have HG30 := Lib.hid (HG29.out.on hb30)
        have HR30 := Lib.hid (HR29.out.on hb30)
        have HD30 := Lib.hid (HD29.out.on hb30)
        have HL30 := Lib.hid (HL29.out.on hb30)
        have HS30 := Lib.hid (HS29.out.on hb30)
        have hz30 := hb30.size
        refine hK.out _ _ (⟨(hb30.block _ (lt_heap hS0.1)).trans hS0.1, (hb30.block _ (lt_heap hS0.2.1)).trans hS0.2.1, (hb30.block _ (lt_heap hS0.2.2.1)).trans hS0.2.2.1, (hb30.block _ (lt_heap hS0.2.2.2.1)).trans hS0.2.2.2.1, (hb30.block _ (lt_heap hS0.2.2.2.2.1)).trans hS0.2.2.2.2.1, (hb30.block _ (lt_heap hS0.2.2.2.2.2)).trans hS0.2.2.2.2.2⟩) (fun hS30c => ?_)
        clear hK K
        refine wpAnyH_take (i := 1) (v := ?_) rfl (by kernel_rfl) (by kernel_rfl) (by kernel_rfl) (fun _ _ _ h => h) (Or.inl ⟨by kernel_rfl, by (intro wz hSz; go_simp; try with_reducible rfl)⟩) hS30c ?_
        go_simp
        refine wpAnyH_take (i := 2) (v := ?_) rfl (by kernel_rfl) (by kernel_rfl) (by kernel_rfl) (fun _ _ _ h => h) (Or.inl ⟨by kernel_rfl, by (intro wz hSz; go_simp; try with_reducible rfl)⟩) hS30c ?_
        go_simp
        refine wpAnyH_take (i := 3) (v := ?_) rfl (by kernel_rfl) (by kernel_rfl) (by kernel_rfl) (fun _ _ _ h => h) (Or.inl ⟨by kernel_rfl, by (intro wz hSz; go_simp; try with_reducible rfl)⟩) hS30c ?_
        go_simp
        refine wpAnyH_take (i := 4) (v := ?_) rfl (by kernel_rfl) (by kernel_rfl) (by kernel_rfl) (fun _ _ _ h => h) (Or.inl ⟨by kernel_rfl, by (intro wz hSz; go_simp; try with_reducible rfl)⟩) hS30c ?_
        go_simp
        refine wpAnyH_take (i := 5) (v := ?_) rfl (by kernel_rfl) (by kernel_rfl) (by kernel_rfl) (fun _ _ _ h => h) (Or.inl ⟨by kernel_rfl, by (intro wz hSz; go_simp; try with_reducible rfl)⟩) hS30c ?_
        go_simp
        refine wpAnyH_take (i := 6) (v := ?_) rfl (by kernel_rfl) (by kernel_rfl) (by kernel_rfl) (fun _ _ _ h => h) (Or.inl ⟨by kernel_rfl, by (intro wz hSz; go_simp; try with_reducible rfl)⟩) hS30c ?_
        go_simp
        refine wpAnyH_take (i := 7) (v := ?_) rfl (by kernel_rfl) (by kernel_rfl) (by kernel_rfl) (fun _ _ _ h => h) (Or.inl ⟨by kernel_rfl, by (intro wz hSz; have c0_0 := cell_of_row _ _ 0 _ _ _ hSz.1; have c0_1 := cell_of_row _ _ 1 _ _ _ hSz.1; have c0_2 := cell_of_row _ _ 2 _ _ _ hSz.1; have c0_3 := cell_of_row _ _ 3 _ _ _ hSz.1; have c0_4 := cell_of_row _ _ 4 _ _ _ hSz.1; have c0_5 := cell_of_row _ _ 5 _ _ _ hSz.1; have c0_6 := cell_of_row _ _ 6 _ _ _ hSz.1; have c0_7 := cell_of_row _ _ 7 _ _ _ hSz.1; have c1_0 := cell_of_row _ _ 0 _ _ _ hSz.2.1; have c1_1 := cell_of_row _ _ 1 _ _ _ hSz.2.1; have c1_2 := cell_of_row _ _ 2 _ _ _ hSz.2.1; have c1_3 := cell_of_row _ _ 3 _ _ _ hSz.2.1; have c1_4 := cell_of_row _ _ 4 _ _ _ hSz.2.1; have c1_5 := cell_of_row _ _ 5 _ _ _ hSz.2.1; have c1_6 := cell_of_row _ _ 6 _ _ _ hSz.2.1; have c1_7 := cell_of_row _ _ 7 _ _ _ hSz.2.1; have c3_0 := cell_of_row _ _ 0 _ _ _ hSz.2.2.1; have c3_1 := cell_of_row _ _ 1 _ _ _ hSz.2.2.1; have c3_2 := cell_of_row _ _ 2 _ _ _ hSz.2.2.1; have c3_3 := cell_of_row _ _ 3 _ _ _ hSz.2.2.1; have c3_4 := cell_of_row _ _ 4 _ _ _ hSz.2.2.1; have c3_5 := cell_of_row _ _ 5 _ _ _ hSz.2.2.1; have c3_6 := cell_of_row _ _ 6 _ _ _ hSz.2.2.1; have c3_7 := cell_of_row _ _ 7 _ _ _ hSz.2.2.1; have c4_0 := cell_of_row _ _ 0 _ _ _ hSz.2.2.2.1; have c4_1 := cell_of_row _ _ 1 _ _ _ hSz.2.2.2.1; have c4_2 := cell_of_row _ _ 2 _ _ _ hSz.2.2.2.1; have c4_3 := cell_of_row _ _ 3 _ _ _ hSz.2.2.2.1; have c4_4 := cell_of_row _ _ 4 _ _ _ hSz.2.2.2.1; have c4_5 := cell_of_row _ _ 5 _ _ _ hSz.2.2.2.1; have c4_6 := cell_of_row _ _ 6 _ _ _ hSz.2.2.2.1; have c4_7 := cell_of_row _ _ 7 _ _ _ hSz.2.2.2.1; have c5_0 := cell_of_row _ _ 0 _ _ _ hSz.2.2.2.2.1; have c5_1 := cell_of_row _ _ 1 _ _ _ hSz.2.2.2.2.1; have c5_2 := cell_of_row _ _ 2 _ _ _ hSz.2.2.2.2.1; have c6_0 := cell_of_row _ _ 0 _ _ _ hSz.2.2.2.2.2; have c6_1 := cell_of_row _ _ 1 _ _ _ hSz.2.2.2.2.2; have c6_2 := cell_of_row _ _ 2 _ _ _ hSz.2.2.2.2.2; simp at c0_0 c0_1 c0_2 c0_3 c0_4 c0_5 c0_6 c0_7 c1_0 c1_1 c1_2 c1_3 c1_4 c1_5 c1_6 c1_7 c3_0 c3_1 c3_2 c3_3 c3_4 c3_5 c3_6 c3_7 c4_0 c4_1 c4_2 c4_3 c4_4 c4_5 c4_6 c4_7 c5_0 c5_1 c5_2 c6_0 c6_1 c6_2; go_simp; try with_reducible rfl)⟩) hS30c ?_
        go_simp
        refine wpAnyH_take (i := 9) (v := ?_) rfl (by kernel_rfl) (by kernel_rfl) (by kernel_rfl) (fun _ _ _ h => h) (Or.inl ⟨by kernel_rfl, by (intro wz hSz; have c0_0 := cell_of_row _ _ 0 _ _ _ hSz.1; have c0_1 := cell_of_row _ _ 1 _ _ _ hSz.1; have c0_2 := cell_of_row _ _ 2 _ _ _ hSz.1; have c0_3 := cell_of_row _ _ 3 _ _ _ hSz.1; have c0_4 := cell_of_row _ _ 4 _ _ _ hSz.1; have c0_5 := cell_of_row _ _ 5 _ _ _ hSz.1; have c0_6 := cell_of_row _ _ 6 _ _ _ hSz.1; have c0_7 := cell_of_row _ _ 7 _ _ _ hSz.1; have c1_0 := cell_of_row _ _ 0 _ _ _ hSz.2.1; have c1_1 := cell_of_row _ _ 1 _ _ _ hSz.2.1; have c1_2 := cell_of_row _ _ 2 _ _ _ hSz.2.1; have c1_3 := cell_of_row _ _ 3 _ _ _ hSz.2.1; have c1_4 := cell_of_row _ _ 4 _ _ _ hSz.2.1; have c1_5 := cell_of_row _ _ 5 _ _ _ hSz.2.1; have c1_6 := cell_of_row _ _ 6 _ _ _ hSz.2.1; have c1_7 := cell_of_row _ _ 7 _ _ _ hSz.2.1; have c3_0 := cell_of_row _ _ 0 _ _ _ hSz.2.2.1; have c3_1 := cell_of_row _ _ 1 _ _ _ hSz.2.2.1; have c3_2 := cell_of_row _ _ 2 _ _ _ hSz.2.2.1; have c3_3 := cell_of_row _ _ 3 _ _ _ hSz.2.2.1; have c3_4 := cell_of_row _ _ 4 _ _ _ hSz.2.2.1; have c3_5 := cell_of_row _ _ 5 _ _ _ hSz.2.2.1; have c3_6 := cell_of_row _ _ 6 _ _ _ hSz.2.2.1; have c3_7 := cell_of_row _ _ 7 _ _ _ hSz.2.2.1; have c4_0 := cell_of_row _ _ 0 _ _ _ hSz.2.2.2.1; have c4_1 := cell_of_row _ _ 1 _ _ _ hSz.2.2.2.1; have c4_2 := cell_of_row _ _ 2 _ _ _ hSz.2.2.2.1; have c4_3 := cell_of_row _ _ 3 _ _ _ hSz.2.2.2.1; have c4_4 := cell_of_row _ _ 4 _ _ _ hSz.2.2.2.1; have c4_5 := cell_of_row _ _ 5 _ _ _ hSz.2.2.2.1; have c4_6 := cell_of_row _ _ 6 _ _ _ hSz.2.2.2.1; have c4_7 := cell_of_row _ _ 7 _ _ _ hSz.2.2.2.1; have c5_0 := cell_of_row _ _ 0 _ _ _ hSz.2.2.2.2.1; have c5_1 := cell_of_row _ _ 1 _ _ _ hSz.2.2.2.2.1; have c5_2 := cell_of_row _ _ 2 _ _ _ hSz.2.2.2.2.1; have c6_0 := cell_of_row _ _ 0 _ _ _ hSz.2.2.2.2.2; have c6_1 := cell_of_row _ _ 1 _ _ _ hSz.2.2.2.2.2; have c6_2 := cell_of_row _ _ 2 _ _ _ hSz.2.2.2.2.2; simp at c0_0 c0_1 c0_2 c0_3 c0_4 c0_5 c0_6 c0_7 c1_0 c1_1 c1_2 c1_3 c1_4 c1_5 c1_6 c1_7 c3_0 c3_1 c3_2 c3_3 c3_4 c3_5 c3_6 c3_7 c4_0 c4_1 c4_2 c4_3 c4_4 c4_5 c4_6 c4_7 c5_0 c5_1 c5_2 c6_0 c6_1 c6_2; go_simp; try with_reducible rfl)⟩) hS30c ?_
        go_simp
        refine wpAnyH_ready (rs := [8]) (by kernel_rfl) (by simp) ?_
        refine AllReadyH.cons rfl (fun K hK => ?_) AllReadyH.nil
        go_simp
        go_wp2_with (go_at_call 14; refine (fromsheet_any BW BH a5 BN c5 LB _ HR30.out hbn24).mono ?_; rintro e y31 ⟨⟨a9, c9, rfl, hft⟩, hb31⟩)
        have hr31_0 := (hb31.block _ (lt_heap hr30_0)).trans hr30_0
        have hr31_1 := (hb31.block _ (lt_heap hr30_1)).trans hr30_1
        have hr31_2 := (hb31.block _ (lt_heap hr30_2)).trans hr30_2
        have hr31_3 := (hb31.block _ (lt_heap hr30_3)).trans hr30_3
        have hr31_4 := (hb31.block _ (lt_heap hr30_4)).trans hr30_4
        have hr31_5 := (hb31.block _ (lt_heap hr30_5)).trans hr30_5
        have hr31_6 := (hb31.block _ (lt_heap hr30_6)).trans hr30_6
        have hr31_7 := (hb31.block _ (lt_heap hr30_7)).trans hr30_7
        have HU31 := Lib.hid (HU30.out.trans (hb31.mono HU30.out.size))
        have HF31 := Lib.hid (HF30.out.on hb31)
        have HG31 := Lib.hid (HG30.out.on hb31)
        have HR31 := Lib.hid (HR30.out.on hb31)
        have HD31 := Lib.hid (HD30.out.on hb31)
        have HL31 := Lib.hid (HL30.out.on hb31)
        have HS31 := Lib.hid (HS30.out.on hb31)
        have hz31 := hb31.size
        have HT31 := Lib.hid (hft.rw (by decide))
        refine hK.out _ _ (⟨(hb31.block _ (lt_heap hS30c.1)).trans hS30c.1, (hb31.block _ (lt_heap hS30c.2.1)).trans hS30c.2.1, (hb31.block _ (lt_heap hS30c.2.2.1)).trans hS30c.2.2.1, (hb31.block _ (lt_heap hS30c.2.2.2.1)).trans hS30c.2.2.2.1, (hb31.block _ (lt_heap hS30c.2.2.2.2.1)).trans hS30c.2.2.2.2.1, (hb31.block _ (lt_heap hS30c.2.2.2.2.2)).trans hS30c.2.2.2.2.2⟩) (fun hS31c => ?_)
        clear hK K
        refine wpAnyH_ready (rs := [10]) (by kernel_rfl) (by simp) ?_
        refine AllReadyH.cons rfl (fun K hK => ?_) AllReadyH.nil
        go_simp
        go_wp2_with (go_at_call 13; refine (samesheet_any BW BH BN a9 a6 c9 c6 LB _ HT31.out HD31.out hbn1).mono ?_; rintro e y32 ⟨rfl, hb32⟩)
        have hr32_0 := (hb32.block _ (lt_heap hr31_0)).trans hr31_0
        have hr32_1 := (hb32.block _ (lt_heap hr31_1)).trans hr31_1
        have hr32_2 := (hb32.block _ (lt_heap hr31_2)).trans hr31_2
        have hr32_3 := (hb32.block _ (lt_heap hr31_3)).trans hr31_3
        have hr32_4 := (hb32.block _ (lt_heap hr31_4)).trans hr31_4
        have hr32_5 := (hb32.block _ (lt_heap hr31_5)).trans hr31_5
        have hr32_6 := (hb32.block _ (lt_heap hr31_6)).trans hr31_6
        have hr32_7 := (hb32.block _ (lt_heap hr31_7)).trans hr31_7
        have HU32 := Lib.hid (HU31.out.trans (hb32.mono HU31.out.size))
        have HF32 := Lib.hid (HF31.out.on hb32)
        have HG32 := Lib.hid (HG31.out.on hb32)
        have HR32 := Lib.hid (HR31.out.on hb32)
        have HD32 := Lib.hid (HD31.out.on hb32)
        have HL32 := Lib.hid (HL31.out.on hb32)
        have HS32 := Lib.hid (HS31.out.on hb32)
        have HT32 := Lib.hid (HT31.out.on hb32)
        have hz32 := hb32.size
        refine hK.out _ _ (⟨(hb32.block _ (lt_heap hS31c.1)).trans hS31c.1, (hb32.block _ (lt_heap hS31c.2.1)).trans hS31c.2.1, (hb32.block _ (lt_heap hS31c.2.2.1)).trans hS31c.2.2.1, (hb32.block _ (lt_heap hS31c.2.2.2.1)).trans hS31c.2.2.2.1, (hb32.block _ (lt_heap hS31c.2.2.2.2.1)).trans hS31c.2.2.2.2.1, (hb32.block _ (lt_heap hS31c.2.2.2.2.2)).trans hS31c.2.2.2.2.2⟩) (fun hS32c => ?_)
        clear hK K
        refine wpAnyH_take (i := 11) (v := ?_) rfl (by kernel_rfl) (by kernel_rfl) (by kernel_rfl) (fun _ _ _ h => h) (Or.inl ⟨by kernel_rfl, by (intro wz hSz; go_simp; try with_reducible rfl)⟩) hS32c ?_
        go_simp
        refine wpAnyH_take (i := 12) (v := ?_) rfl (by kernel_rfl) (by kernel_rfl) (by kernel_rfl) (fun _ _ _ h => h) (Or.inl ⟨by kernel_rfl, by (intro wz hSz; go_simp; try with_reducible rfl)⟩) hS32c ?_
        go_simp
        refine wpAnyH_take (i := 13) (v := ?_) rfl (by kernel_rfl) (by kernel_rfl) (by kernel_rfl) (fun _ _ _ h => h) (Or.inl ⟨by kernel_rfl, by (intro wz hSz; have c0_0 := cell_of_row _ _ 0 _ _ _ hSz.1; have c0_1 := cell_of_row _ _ 1 _ _ _ hSz.1; have c0_2 := cell_of_row _ _ 2 _ _ _ hSz.1; have c0_3 := cell_of_row _ _ 3 _ _ _ hSz.1; have c0_4 := cell_of_row _ _ 4 _ _ _ hSz.1; have c0_5 := cell_of_row _ _ 5 _ _ _ hSz.1; have c0_6 := cell_of_row _ _ 6 _ _ _ hSz.1; have c0_7 := cell_of_row _ _ 7 _ _ _ hSz.1; have c1_0 := cell_of_row _ _ 0 _ _ _ hSz.2.1; have c1_1 := cell_of_row _ _ 1 _ _ _ hSz.2.1; have c1_2 := cell_of_row _ _ 2 _ _ _ hSz.2.1; have c1_3 := cell_of_row _ _ 3 _ _ _ hSz.2.1; have c1_4 := cell_of_row _ _ 4 _ _ _ hSz.2.1; have c1_5 := cell_of_row _ _ 5 _ _ _ hSz.2.1; have c1_6 := cell_of_row _ _ 6 _ _ _ hSz.2.1; have c1_7 := cell_of_row _ _ 7 _ _ _ hSz.2.1; have c3_0 := cell_of_row _ _ 0 _ _ _ hSz.2.2.1; have c3_1 := cell_of_row _ _ 1 _ _ _ hSz.2.2.1; have c3_2 := cell_of_row _ _ 2 _ _ _ hSz.2.2.1; have c3_3 := cell_of_row _ _ 3 _ _ _ hSz.2.2.1; have c3_4 := cell_of_row _ _ 4 _ _ _ hSz.2.2.1; have c3_5 := cell_of_row _ _ 5 _ _ _ hSz.2.2.1; have c3_6 := cell_of_row _ _ 6 _ _ _ hSz.2.2.1; have c3_7 := cell_of_row _ _ 7 _ _ _ hSz.2.2.1; have c4_0 := cell_of_row _ _ 0 _ _ _ hSz.2.2.2.1; have c4_1 := cell_of_row _ _ 1 _ _ _ hSz.2.2.2.1; have c4_2 := cell_of_row _ _ 2 _ _ _ hSz.2.2.2.1; have c4_3 := cell_of_row _ _ 3 _ _ _ hSz.2.2.2.1; have c4_4 := cell_of_row _ _ 4 _ _ _ hSz.2.2.2.1; have c4_5 := cell_of_row _ _ 5 _ _ _ hSz.2.2.2.1; have c4_6 := cell_of_row _ _ 6 _ _ _ hSz.2.2.2.1; have c4_7 := cell_of_row _ _ 7 _ _ _ hSz.2.2.2.1; have c5_0 := cell_of_row _ _ 0 _ _ _ hSz.2.2.2.2.1; have c5_1 := cell_of_row _ _ 1 _ _ _ hSz.2.2.2.2.1; have c5_2 := cell_of_row _ _ 2 _ _ _ hSz.2.2.2.2.1; have c6_0 := cell_of_row _ _ 0 _ _ _ hSz.2.2.2.2.2; have c6_1 := cell_of_row _ _ 1 _ _ _ hSz.2.2.2.2.2; have c6_2 := cell_of_row _ _ 2 _ _ _ hSz.2.2.2.2.2; simp at c0_0 c0_1 c0_2 c0_3 c0_4 c0_5 c0_6 c0_7 c1_0 c1_1 c1_2 c1_3 c1_4 c1_5 c1_6 c1_7 c3_0 c3_1 c3_2 c3_3 c3_4 c3_5 c3_6 c3_7 c4_0 c4_1 c4_2 c4_3 c4_4 c4_5 c4_6 c4_7 c5_0 c5_1 c5_2 c6_0 c6_1 c6_2; go_simp; try with_reducible rfl)⟩) hS32c ?_
        go_simp
        refine wpAnyH_take (i := 14) (v := ?_) rfl (by kernel_rfl) (by kernel_rfl) (by kernel_rfl) (fun _ _ _ h => h) (Or.inl ⟨by kernel_rfl, by (intro wz hSz; have c0_0 := cell_of_row _ _ 0 _ _ _ hSz.1; have c0_1 := cell_of_row _ _ 1 _ _ _ hSz.1; have c0_2 := cell_of_row _ _ 2 _ _ _ hSz.1; have c0_3 := cell_of_row _ _ 3 _ _ _ hSz.1; have c0_4 := cell_of_row _ _ 4 _ _ _ hSz.1; have c0_5 := cell_of_row _ _ 5 _ _ _ hSz.1; have c0_6 := cell_of_row _ _ 6 _ _ _ hSz.1; have c0_7 := cell_of_row _ _ 7 _ _ _ hSz.1; have c1_0 := cell_of_row _ _ 0 _ _ _ hSz.2.1; have c1_1 := cell_of_row _ _ 1 _ _ _ hSz.2.1; have c1_2 := cell_of_row _ _ 2 _ _ _ hSz.2.1; have c1_3 := cell_of_row _ _ 3 _ _ _ hSz.2.1; have c1_4 := cell_of_row _ _ 4 _ _ _ hSz.2.1; have c1_5 := cell_of_row _ _ 5 _ _ _ hSz.2.1; have c1_6 := cell_of_row _ _ 6 _ _ _ hSz.2.1; have c1_7 := cell_of_row _ _ 7 _ _ _ hSz.2.1; have c3_0 := cell_of_row _ _ 0 _ _ _ hSz.2.2.1; have c3_1 := cell_of_row _ _ 1 _ _ _ hSz.2.2.1; have c3_2 := cell_of_row _ _ 2 _ _ _ hSz.2.2.1; have c3_3 := cell_of_row _ _ 3 _ _ _ hSz.2.2.1; have c3_4 := cell_of_row _ _ 4 _ _ _ hSz.2.2.1; have c3_5 := cell_of_row _ _ 5 _ _ _ hSz.2.2.1; have c3_6 := cell_of_row _ _ 6 _ _ _ hSz.2.2.1; have c3_7 := cell_of_row _ _ 7 _ _ _ hSz.2.2.1; have c4_0 := cell_of_row _ _ 0 _ _ _ hSz.2.2.2.1; have c4_1 := cell_of_row _ _ 1 _ _ _ hSz.2.2.2.1; have c4_2 := cell_of_row _ _ 2 _ _ _ hSz.2.2.2.1; have c4_3 := cell_of_row _ _ 3 _ _ _ hSz.2.2.2.1; have c4_4 := cell_of_row _ _ 4 _ _ _ hSz.2.2.2.1; have c4_5 := cell_of_row _ _ 5 _ _ _ hSz.2.2.2.1; have c4_6 := cell_of_row _ _ 6 _ _ _ hSz.2.2.2.1; have c4_7 := cell_of_row _ _ 7 _ _ _ hSz.2.2.2.1; have c5_0 := cell_of_row _ _ 0 _ _ _ hSz.2.2.2.2.1; have c5_1 := cell_of_row _ _ 1 _ _ _ hSz.2.2.2.2.1; have c5_2 := cell_of_row _ _ 2 _ _ _ hSz.2.2.2.2.1; have c6_0 := cell_of_row _ _ 0 _ _ _ hSz.2.2.2.2.2; have c6_1 := cell_of_row _ _ 1 _ _ _ hSz.2.2.2.2.2; have c6_2 := cell_of_row _ _ 2 _ _ _ hSz.2.2.2.2.2; simp at c0_0 c0_1 c0_2 c0_3 c0_4 c0_5 c0_6 c0_7 c1_0 c1_1 c1_2 c1_3 c1_4 c1_5 c1_6 c1_7 c3_0 c3_1 c3_2 c3_3 c3_4 c3_5 c3_6 c3_7 c4_0 c4_1 c4_2 c4_3 c4_4 c4_5 c4_6 c4_7 c5_0 c5_1 c5_2 c6_0 c6_1 c6_2; go_simp; try with_reducible rfl)⟩) hS32c ?_
        go_simp
        refine wpAnyH_take (i := 16) (v := ?_) rfl (by kernel_rfl) (by kernel_rfl) (by kernel_rfl) (fun _ _ _ h => h) (Or.inl ⟨by kernel_rfl, by (intro wz hSz; have c0_0 := cell_of_row _ _ 0 _ _ _ hSz.1; have c0_1 := cell_of_row _ _ 1 _ _ _ hSz.1; have c0_2 := cell_of_row _ _ 2 _ _ _ hSz.1; have c0_3 := cell_of_row _ _ 3 _ _ _ hSz.1; have c0_4 := cell_of_row _ _ 4 _ _ _ hSz.1; have c0_5 := cell_of_row _ _ 5 _ _ _ hSz.1; have c0_6 := cell_of_row _ _ 6 _ _ _ hSz.1; have c0_7 := cell_of_row _ _ 7 _ _ _ hSz.1; have c1_0 := cell_of_row _ _ 0 _ _ _ hSz.2.1; have c1_1 := cell_of_row _ _ 1 _ _ _ hSz.2.1; have c1_2 := cell_of_row _ _ 2 _ _ _ hSz.2.1; have c1_3 := cell_of_row _ _ 3 _ _ _ hSz.2.1; have c1_4 := cell_of_row _ _ 4 _ _ _ hSz.2.1; have c1_5 := cell_of_row _ _ 5 _ _ _ hSz.2.1; have c1_6 := cell_of_row _ _ 6 _ _ _ hSz.2.1; have c1_7 := cell_of_row _ _ 7 _ _ _ hSz.2.1; have c3_0 := cell_of_row _ _ 0 _ _ _ hSz.2.2.1; have c3_1 := cell_of_row _ _ 1 _ _ _ hSz.2.2.1; have c3_2 := cell_of_row _ _ 2 _ _ _ hSz.2.2.1; have c3_3 := cell_of_row _ _ 3 _ _ _ hSz.2.2.1; have c3_4 := cell_of_row _ _ 4 _ _ _ hSz.2.2.1; have c3_5 := cell_of_row _ _ 5 _ _ _ hSz.2.2.1; have c3_6 := cell_of_row _ _ 6 _ _ _ hSz.2.2.1; have c3_7 := cell_of_row _ _ 7 _ _ _ hSz.2.2.1; have c4_0 := cell_of_row _ _ 0 _ _ _ hSz.2.2.2.1; have c4_1 := cell_of_row _ _ 1 _ _ _ hSz.2.2.2.1; have c4_2 := cell_of_row _ _ 2 _ _ _ hSz.2.2.2.1; have c4_3 := cell_of_row _ _ 3 _ _ _ hSz.2.2.2.1; have c4_4 := cell_of_row _ _ 4 _ _ _ hSz.2.2.2.1; have c4_5 := cell_of_row _ _ 5 _ _ _ hSz.2.2.2.1; have c4_6 := cell_of_row _ _ 6 _ _ _ hSz.2.2.2.1; have c4_7 := cell_of_row _ _ 7 _ _ _ hSz.2.2.2.1; have c5_0 := cell_of_row _ _ 0 _ _ _ hSz.2.2.2.2.1; have c5_1 := cell_of_row _ _ 1 _ _ _ hSz.2.2.2.2.1; have c5_2 := cell_of_row _ _ 2 _ _ _ hSz.2.2.2.2.1; have c6_0 := cell_of_row _ _ 0 _ _ _ hSz.2.2.2.2.2; have c6_1 := cell_of_row _ _ 1 _ _ _ hSz.2.2.2.2.2; have c6_2 := cell_of_row _ _ 2 _ _ _ hSz.2.2.2.2.2; simp at c0_0 c0_1 c0_2 c0_3 c0_4 c0_5 c0_6 c0_7 c1_0 c1_1 c1_2 c1_3 c1_4 c1_5 c1_6 c1_7 c3_0 c3_1 c3_2 c3_3 c3_4 c3_5 c3_6 c3_7 c4_0 c4_1 c4_2 c4_3 c4_4 c4_5 c4_6 c4_7 c5_0 c5_1 c5_2 c6_0 c6_1 c6_2; go_simp; try with_reducible rfl)⟩) hS32c ?_
        go_simp
        refine wpAnyH_take (i := 17) (v := ?_) rfl (by kernel_rfl) (by kernel_rfl) (by kernel_rfl) (fun _ _ _ h => h) (Or.inl ⟨by kernel_rfl, by (intro wz hSz; have c0_0 := cell_of_row _ _ 0 _ _ _ hSz.1; have c0_1 := cell_of_row _ _ 1 _ _ _ hSz.1; have c0_2 := cell_of_row _ _ 2 _ _ _ hSz.1; have c0_3 := cell_of_row _ _ 3 _ _ _ hSz.1; have c0_4 := cell_of_row _ _ 4 _ _ _ hSz.1; have c0_5 := cell_of_row _ _ 5 _ _ _ hSz.1; have c0_6 := cell_of_row _ _ 6 _ _ _ hSz.1; have c0_7 := cell_of_row _ _ 7 _ _ _ hSz.1; have c1_0 := cell_of_row _ _ 0 _ _ _ hSz.2.1; have c1_1 := cell_of_row _ _ 1 _ _ _ hSz.2.1; have c1_2 := cell_of_row _ _ 2 _ _ _ hSz.2.1; have c1_3 := cell_of_row _ _ 3 _ _ _ hSz.2.1; have c1_4 := cell_of_row _ _ 4 _ _ _ hSz.2.1; have c1_5 := cell_of_row _ _ 5 _ _ _ hSz.2.1; have c1_6 := cell_of_row _ _ 6 _ _ _ hSz.2.1; have c1_7 := cell_of_row _ _ 7 _ _ _ hSz.2.1; have c3_0 := cell_of_row _ _ 0 _ _ _ hSz.2.2.1; have c3_1 := cell_of_row _ _ 1 _ _ _ hSz.2.2.1; have c3_2 := cell_of_row _ _ 2 _ _ _ hSz.2.2.1; have c3_3 := cell_of_row _ _ 3 _ _ _ hSz.2.2.1; have c3_4 := cell_of_row _ _ 4 _ _ _ hSz.2.2.1; have c3_5 := cell_of_row _ _ 5 _ _ _ hSz.2.2.1; have c3_6 := cell_of_row _ _ 6 _ _ _ hSz.2.2.1; have c3_7 := cell_of_row _ _ 7 _ _ _ hSz.2.2.1; have c4_0 := cell_of_row _ _ 0 _ _ _ hSz.2.2.2.1; have c4_1 := cell_of_row _ _ 1 _ _ _ hSz.2.2.2.1; have c4_2 := cell_of_row _ _ 2 _ _ _ hSz.2.2.2.1; have c4_3 := cell_of_row _ _ 3 _ _ _ hSz.2.2.2.1; have c4_4 := cell_of_row _ _ 4 _ _ _ hSz.2.2.2.1; have c4_5 := cell_of_row _ _ 5 _ _ _ hSz.2.2.2.1; have c4_6 := cell_of_row _ _ 6 _ _ _ hSz.2.2.2.1; have c4_7 := cell_of_row _ _ 7 _ _ _ hSz.2.2.2.1; have c5_0 := cell_of_row _ _ 0 _ _ _ hSz.2.2.2.2.1; have c5_1 := cell_of_row _ _ 1 _ _ _ hSz.2.2.2.2.1; have c5_2 := cell_of_row _ _ 2 _ _ _ hSz.2.2.2.2.1; have c6_0 := cell_of_row _ _ 0 _ _ _ hSz.2.2.2.2.2; have c6_1 := cell_of_row _ _ 1 _ _ _ hSz.2.2.2.2.2; have c6_2 := cell_of_row _ _ 2 _ _ _ hSz.2.2.2.2.2; simp at c0_0 c0_1 c0_2 c0_3 c0_4 c0_5 c0_6 c0_7 c1_0 c1_1 c1_2 c1_3 c1_4 c1_5 c1_6 c1_7 c3_0 c3_1 c3_2 c3_3 c3_4 c3_5 c3_6 c3_7 c4_0 c4_1 c4_2 c4_3 c4_4 c4_5 c4_6 c4_7 c5_0 c5_1 c5_2 c6_0 c6_1 c6_2; go_simp; try with_reducible rfl)⟩) hS32c ?_
        go_simp
        refine wpAnyH_ready (rs := [15]) (by kernel_rfl) (by simp) ?_
        refine AllReadyH.cons rfl (fun K hK => ?_) AllReadyH.nil
        go_simp
        go_wp2_with (go_at_call 15; refine (HKP.out _ (⟨al3, cl3, ad3, cd3, an3, cn3, ab3, cb3, ax3, cx3, af3, cf3⟩ : Pl) (⟨al4, cl4, ad4, cd4, an4, cn4, ab4, cb4, ax4, cx4, af4, cf4⟩ : Pl) HF32.out HG32.out).mono ?_; rintro e y33 ⟨rfl, hb33⟩)
        have hr33_0 := (hb33.block _ (lt_heap hr32_0)).trans hr32_0
        have hr33_1 := (hb33.block _ (lt_heap hr32_1)).trans hr32_1
        have hr33_2 := (hb33.block _ (lt_heap hr32_2)).trans hr32_2
        have hr33_3 := (hb33.block _ (lt_heap hr32_3)).trans hr32_3
        have hr33_4 := (hb33.block _ (lt_heap hr32_4)).trans hr32_4
        have hr33_5 := (hb33.block _ (lt_heap hr32_5)).trans hr32_5
        have hr33_6 := (hb33.block _ (lt_heap hr32_6)).trans hr32_6
        have hr33_7 := (hb33.block _ (lt_heap hr32_7)).trans hr32_7
        have HU33 := Lib.hid (HU32.out.trans (hb33.mono HU32.out.size))
        have HF33 := Lib.hid (HF32.out.on hb33)
        have HG33 := Lib.hid (HG32.out.on hb33)
        have HR33 := Lib.hid (HR32.out.on hb33)
        have HD33 := Lib.hid (HD32.out.on hb33)
        have HL33 := Lib.hid (HL32.out.on hb33)
        have HS33 := Lib.hid (HS32.out.on hb33)
        have HT33 := Lib.hid (HT32.out.on hb33)
        have hz33 := hb33.size
        refine hK.out _ _ (⟨(hb33.block _ (lt_heap hS32c.1)).trans hS32c.1, (hb33.block _ (lt_heap hS32c.2.1)).trans hS32c.2.1, (hb33.block _ (lt_heap hS32c.2.2.1)).trans hS32c.2.2.1, (hb33.block _ (lt_heap hS32c.2.2.2.1)).trans hS32c.2.2.2.1, (hb33.block _ (lt_heap hS32c.2.2.2.2.1)).trans hS32c.2.2.2.2.1, (hb33.block _ (lt_heap hS32c.2.2.2.2.2)).trans hS32c.2.2.2.2.2⟩) (fun hS33c => ?_)
        clear hK K
        refine wpAnyH_ready (rs := [18]) (by kernel_rfl) (by simp) ?_
        refine AllReadyH.cons rfl (fun K hK => ?_) AllReadyH.nil
        go_simp
        go_wp2_with (go_at_call 16; refine (HKD.out _ (⟨al, cl, ad, cd, an, cn, ab, cb, ax, cx, af, cf⟩ : Pl) (⟨al2, cl2, ad2, cd2, an2, cn2, ab2, cb2, ax2, cx2, af2, cf2⟩ : Pl) (HC.out.at_.on HU33.out) (HC2.out.at_.on HU33.out)).mono ?_; rintro e y34 ⟨rfl, hb34⟩)
        have hr34_0 := (hb34.block _ (lt_heap hr33_0)).trans hr33_0
        have hr34_1 := (hb34.block _ (lt_heap hr33_1)).trans hr33_1
        have hr34_2 := (hb34.block _ (lt_heap hr33_2)).trans hr33_2
        have hr34_3 := (hb34.block _ (lt_heap hr33_3)).trans hr33_3
        have hr34_4 := (hb34.block _ (lt_heap hr33_4)).trans hr33_4
        have hr34_5 := (hb34.block _ (lt_heap hr33_5)).trans hr33_5
        have hr34_6 := (hb34.block _ (lt_heap hr33_6)).trans hr33_6
        have hr34_7 := (hb34.block _ (lt_heap hr33_7)).trans hr33_7
        have HU34 := Lib.hid (HU33.out.trans (hb34.mono HU33.out.size))
        have HF34 := Lib.hid (HF33.out.on hb34)
        have HG34 := Lib.hid (HG33.out.on hb34)
        have HR34 := Lib.hid (HR33.out.on hb34)
        have HD34 := Lib.hid (HD33.out.on hb34)
        have HL34 := Lib.hid (HL33.out.on hb34)
        have HS34 := Lib.hid (HS33.out.on hb34)
        have HT34 := Lib.hid (HT33.out.on hb34)
        have hz34 := hb34.size
        refine hK.out _ _ (⟨(hb34.block _ (lt_heap hS33c.1)).trans hS33c.1, (hb34.block _ (lt_heap hS33c.2.1)).trans hS33c.2.1, (hb34.block _ (lt_heap hS33c.2.2.1)).trans hS33c.2.2.1, (hb34.block _ (lt_heap hS33c.2.2.2.1)).trans hS33c.2.2.2.1, (hb34.block _ (lt_heap hS33c.2.2.2.2.1)).trans hS33c.2.2.2.2.1, (hb34.block _ (lt_heap hS33c.2.2.2.2.2)).trans hS33c.2.2.2.2.2⟩) (fun hS34c => ?_)
        clear hK K
        refine wpAnyH_take (i := 19) (v := ?_) rfl (by kernel_rfl) (by kernel_rfl) (by kernel_rfl) (fun _ _ _ h => h) (Or.inl ⟨by kernel_rfl, by (intro wz hSz; go_simp; try with_reducible rfl)⟩) hS34c ?_
        go_simp
        refine wpAnyH_take (i := 20) (v := ?_) rfl (by kernel_rfl) (by kernel_rfl) (by kernel_rfl) (fun _ _ _ h => h) (Or.inl ⟨by kernel_rfl, by (intro wz hSz; go_simp; try with_reducible rfl)⟩) hS34c ?_
        go_simp
        refine wpAnyH_take (i := 21) (v := ?_) rfl (by kernel_rfl) (by kernel_rfl) (by kernel_rfl) (fun _ _ _ h => h) (Or.inl ⟨by kernel_rfl, by (intro wz hSz; go_simp; try with_reducible rfl)⟩) hS34c ?_
        go_simp
        refine wpAnyH_done (by kernel_rfl) ?_ _
        go_wp2
        go_ret
        exact ⟨rfl, HU34.out⟩
      · have HO := Lib.hid ho
        clear ho
        have c3_0 := cell_of_row _ _ 0 _ _ _ hr22_3
        have c3_1 := cell_of_row _ _ 1 _ _ _ hr22_3
        have c3_2 := cell_of_row _ _ 2 _ _ _ hr22_3
        have c3_3 := cell_of_row _ _ 3 _ _ _ hr22_3
        have c3_4 := cell_of_row _ _ 4 _ _ _ hr22_3
        have c3_5 := cell_of_row _ _ 5 _ _ _ hr22_3
        have c3_6 := cell_of_row _ _ 6 _ _ _ hr22_3
        have c3_7 := cell_of_row _ _ 7 _ _ _ hr22_3
        simp at c3_0 c3_1 c3_2 c3_3 c3_4 c3_5 c3_6 c3_7
        go_wp2_with fail
        refine (alone_n (⟨W, H, nl, nd, nn, nb, ns, nf, L, D, N, B, S, F⟩ : Flm) (⟨al3, cl3, ad3, cd3, an3, cn3, ab3, cb3, ax3, cx3, af3, cf3⟩ : Pl) _ HF22.out HO.out).mono ?_
        rintro e y23 ⟨rfl, hb23⟩
        clear c3_0 c3_1 c3_2 c3_3 c3_4 c3_5 c3_6 c3_7
        have hr23_0 := (hb23.block _ (lt_heap hr22_0)).trans hr22_0
        have hr23_1 := (hb23.block _ (lt_heap hr22_1)).trans hr22_1
        have hr23_2 := (hb23.block _ (lt_heap hr22_2)).trans hr22_2
        have hr23_3 := (hb23.block _ (lt_heap hr22_3)).trans hr22_3
        have hr23_4 := (hb23.block _ (lt_heap hr22_4)).trans hr22_4
        have hr23_5 := (hb23.block _ (lt_heap hr22_5)).trans hr22_5
        have hr23_6 := (hb23.block _ (lt_heap hr22_6)).trans hr22_6
        have HU23 := Lib.hid (HU22.out.trans (hb23.mono HU22.out.size))
        clear hr22_0 hr22_1 hr22_2 hr22_3 hr22_4 hr22_5 hr22_6 HU22
        have HF23 := Lib.hid (HF22.out.on hb23)
        clear HF22
        have HG23 := Lib.hid (HG22.out.on hb23)
        clear HG22
        have HR23 := Lib.hid (HR22.out.on hb23)
        clear HR22
        have HD23 := Lib.hid (HD22.out.on hb23)
        clear HD22
        go_upto_region 7 with fail
        have hb24 := Ve.below_n1 y23 (.cells #[.int .i64 0, .int .i64 0, .slice none 0 0] 36)
        have hN := heap_alloc_last y23 (.cells #[.int .i64 0, .int .i64 0, .slice none 0 0] 36)
        obtain ⟨y24, hy24⟩ : ∃ y, y23.alloc (.cells #[.int .i64 0, .int .i64 0, .slice none 0 0] 36) = y := ⟨_, rfl⟩
        have hs24 : y24.heap.size = y23.heap.size + 1 := by rw [← hy24]; simp
        rw [hy24] at hb24 hN ⊢
        clear hy24
        have hl24_0 := lt_heap hr23_0
        have hl24_1 := lt_heap hr23_1
        have hl24_2 := lt_heap hr23_2
        have hl24_3 := lt_heap hr23_3
        have hl24_4 := lt_heap hr23_4
        have hl24_5 := lt_heap hr23_5
        have hl24_6 := lt_heap hr23_6
        have hr24_0 := (hb24.block _ (lt_heap hr23_0)).trans hr23_0
        have hr24_1 := (hb24.block _ (lt_heap hr23_1)).trans hr23_1
        have hr24_2 := (hb24.block _ (lt_heap hr23_2)).trans hr23_2
        have hr24_3 := (hb24.block _ (lt_heap hr23_3)).trans hr23_3
        have hr24_4 := (hb24.block _ (lt_heap hr23_4)).trans hr23_4
        have hr24_5 := (hb24.block _ (lt_heap hr23_5)).trans hr23_5
        have hr24_6 := (hb24.block _ (lt_heap hr23_6)).trans hr23_6
        have HU24 := Lib.hid (HU23.out.trans (hb24.mono HU23.out.size))
        clear hr23_0 hr23_1 hr23_2 hr23_3 hr23_4 hr23_5 hr23_6 HU23
        have hr24_7 := hN
        clear hN
        have HF24 := Lib.hid (HF23.out.on hb24)
        clear HF23
        have HG24 := Lib.hid (HG23.out.on hb24)
        clear HG23
        have HR24 := Lib.hid (HR23.out.on hb24)
        clear HR23
        have HD24 := Lib.hid (HD23.out.on hb24)
        clear HD23
        have hbn24 : BN * 24 ≤ 140737488351232 := by omega
        have hnl24 : nl * 24 ≤ 140737488351232 := by omega
        have hbn1 : BN ≤ 140737488351232 := by omega
        have hnl1 : nl ≤ 140737488351232 := by omega
        refine wp_region_held_drew (S := fun y => y.heap[w.heap.size]? = some (.cells #[.int .i64 W, .int .i64 H, .slice al nl cl, .slice ad nd cd, .slice an nn cn, .slice ab nb cb, .slice ax ns cx, .slice af nf cf] 29 (0, 0)) ∧ y.heap[w.heap.size + 1]? = some (.cells #[.int .i64 W2, .int .i64 H2, .slice al2 nl2 cl2, .slice ad2 nd2 cd2, .slice an2 nn2 cn2, .slice ab2 nb2 cb2, .slice ax2 ns2 cx2, .slice af2 nf2 cf2] 29 (0, 0)) ∧ y.heap[q1]? = some (.cells #[.int .i64 W, .int .i64 H, .slice al3 nl cl3, .slice ad3 nd cd3, .slice an3 nn cn3, .slice ab3 nb cb3, .slice ax3 ns cx3, .slice af3 nf cf3] 40 (0, 0)) ∧ y.heap[q2]? = some (.cells #[.int .i64 W2, .int .i64 H2, .slice al4 nl2 cl4, .slice ad4 nd2 cd4, .slice an4 nn2 cn4, .slice ab4 nb2 cb4, .slice ax4 ns2 cx4, .slice af4 nf2 cf4] 40 (0, 0)) ∧ y.heap[q3]? = some (.cells #[.int .i64 BW, .int .i64 BH, .slice a5 BN c5] 36 (0, 0)) ∧ y.heap[y21.heap.size]? = some (.cells #[.int .i64 BW, .int .i64 BH, .slice a6 BN c6] 24 (0, 0)) ∧ y.heap[y23.heap.size]? = some (.cells #[.int .i64 0, .int .i64 0, .slice none 0 0] 36 (0, 0))) (by kernel_rfl) (⟨hr24_0, hr24_1, hr24_3, hr24_4, hr24_5, hr24_6, hr24_7⟩) (fun hS0 => ?_)
        obtain ⟨y25, hy25⟩ : ∃ y, y24.drew = y := ⟨_, rfl⟩
        have HU25 := Lib.hid (show Below w.heap.size w y25 by rw [← hy25]; exact HU24.out.drew)
        have hr25_0 : y25.heap[w.heap.size]? = some (.cells #[.int .i64 W, .int .i64 H, .slice al nl cl, .slice ad nd cd, .slice an nn cn, .slice ab nb cb, .slice ax ns cx, .slice af nf cf] 29 (0, 0)) := by rw [← hy25]; exact hr24_0
        have hr25_1 : y25.heap[w.heap.size + 1]? = some (.cells #[.int .i64 W2, .int .i64 H2, .slice al2 nl2 cl2, .slice ad2 nd2 cd2, .slice an2 nn2 cn2, .slice ab2 nb2 cb2, .slice ax2 ns2 cx2, .slice af2 nf2 cf2] 29 (0, 0)) := by rw [← hy25]; exact hr24_1
        have hr25_2 : y25.heap[w.heap.size + 1 + 1]? = some (.cells #[.int .i64 W3, .int .i64 H3, .slice am nm cm] 24 (0, 0)) := by rw [← hy25]; exact hr24_2
        have hr25_3 : y25.heap[q1]? = some (.cells #[.int .i64 W, .int .i64 H, .slice al3 nl cl3, .slice ad3 nd cd3, .slice an3 nn cn3, .slice ab3 nb cb3, .slice ax3 ns cx3, .slice af3 nf cf3] 40 (0, 0)) := by rw [← hy25]; exact hr24_3
        have hr25_4 : y25.heap[q2]? = some (.cells #[.int .i64 W2, .int .i64 H2, .slice al4 nl2 cl4, .slice ad4 nd2 cd4, .slice an4 nn2 cn4, .slice ab4 nb2 cb4, .slice ax4 ns2 cx4, .slice af4 nf2 cf4] 40 (0, 0)) := by rw [← hy25]; exact hr24_4
        have hr25_5 : y25.heap[q3]? = some (.cells #[.int .i64 BW, .int .i64 BH, .slice a5 BN c5] 36 (0, 0)) := by rw [← hy25]; exact hr24_5
        have hr25_6 : y25.heap[y21.heap.size]? = some (.cells #[.int .i64 BW, .int .i64 BH, .slice a6 BN c6] 24 (0, 0)) := by rw [← hy25]; exact hr24_6
        have hr25_7 : y25.heap[y23.heap.size]? = some (.cells #[.int .i64 0, .int .i64 0, .slice none 0 0] 36 (0, 0)) := by rw [← hy25]; exact hr24_7
        have hz25 : y24.heap.size ≤ y25.heap.size := by rw [← hy25]; exact Nat.le_refl _
        have HF25 := Lib.hid (show FAt y25 (⟨W, H, nl, nd, nn, nb, ns, nf, L, D, N, B, S, F⟩ : Flm) (⟨al3, cl3, ad3, cd3, an3, cn3, ab3, cb3, ax3, cx3, af3, cf3⟩ : Pl) by rw [← hy25]; exact HF24.out.on (Below.refl _ _).drew)
        have HG25 := Lib.hid (show FAt y25 (⟨W2, H2, nl2, nd2, nn2, nb2, ns2, nf2, L2, D2, N2, B2, S2, F2⟩ : Flm) (⟨al4, cl4, ad4, cd4, an4, cn4, ab4, cb4, ax4, cx4, af4, cf4⟩ : Pl) by rw [← hy25]; exact HG24.out.on (Below.refl _ _).drew)
        have HR25 := Lib.hid (show Rw 3 y25 a5 BN LB by rw [← hy25]; exact HR24.out.on (Below.refl _ _).drew)
        have HD25 := Lib.hid (show Rw 3 y25 a6 BN LB by rw [← hy25]; exact HD24.out.on (Below.refl _ _).drew)
        rw [hy25] at hS0 ⊢
        clear hy25
        refine wpAnyH_take (i := 0) (v := ?_) rfl (by kernel_rfl) (by kernel_rfl) (by kernel_rfl) (fun _ _ _ h => h) (Or.inl ⟨by kernel_rfl, by (intro wz hSz; have c0_0 := cell_of_row _ _ 0 _ _ _ hSz.1; have c0_1 := cell_of_row _ _ 1 _ _ _ hSz.1; have c0_2 := cell_of_row _ _ 2 _ _ _ hSz.1; have c0_3 := cell_of_row _ _ 3 _ _ _ hSz.1; have c0_4 := cell_of_row _ _ 4 _ _ _ hSz.1; have c0_5 := cell_of_row _ _ 5 _ _ _ hSz.1; have c0_6 := cell_of_row _ _ 6 _ _ _ hSz.1; have c0_7 := cell_of_row _ _ 7 _ _ _ hSz.1; have c1_0 := cell_of_row _ _ 0 _ _ _ hSz.2.1; have c1_1 := cell_of_row _ _ 1 _ _ _ hSz.2.1; have c1_2 := cell_of_row _ _ 2 _ _ _ hSz.2.1; have c1_3 := cell_of_row _ _ 3 _ _ _ hSz.2.1; have c1_4 := cell_of_row _ _ 4 _ _ _ hSz.2.1; have c1_5 := cell_of_row _ _ 5 _ _ _ hSz.2.1; have c1_6 := cell_of_row _ _ 6 _ _ _ hSz.2.1; have c1_7 := cell_of_row _ _ 7 _ _ _ hSz.2.1; have c3_0 := cell_of_row _ _ 0 _ _ _ hSz.2.2.1; have c3_1 := cell_of_row _ _ 1 _ _ _ hSz.2.2.1; have c3_2 := cell_of_row _ _ 2 _ _ _ hSz.2.2.1; have c3_3 := cell_of_row _ _ 3 _ _ _ hSz.2.2.1; have c3_4 := cell_of_row _ _ 4 _ _ _ hSz.2.2.1; have c3_5 := cell_of_row _ _ 5 _ _ _ hSz.2.2.1; have c3_6 := cell_of_row _ _ 6 _ _ _ hSz.2.2.1; have c3_7 := cell_of_row _ _ 7 _ _ _ hSz.2.2.1; have c4_0 := cell_of_row _ _ 0 _ _ _ hSz.2.2.2.1; have c4_1 := cell_of_row _ _ 1 _ _ _ hSz.2.2.2.1; have c4_2 := cell_of_row _ _ 2 _ _ _ hSz.2.2.2.1; have c4_3 := cell_of_row _ _ 3 _ _ _ hSz.2.2.2.1; have c4_4 := cell_of_row _ _ 4 _ _ _ hSz.2.2.2.1; have c4_5 := cell_of_row _ _ 5 _ _ _ hSz.2.2.2.1; have c4_6 := cell_of_row _ _ 6 _ _ _ hSz.2.2.2.1; have c4_7 := cell_of_row _ _ 7 _ _ _ hSz.2.2.2.1; have c5_0 := cell_of_row _ _ 0 _ _ _ hSz.2.2.2.2.1; have c5_1 := cell_of_row _ _ 1 _ _ _ hSz.2.2.2.2.1; have c5_2 := cell_of_row _ _ 2 _ _ _ hSz.2.2.2.2.1; have c6_0 := cell_of_row _ _ 0 _ _ _ hSz.2.2.2.2.2.1; have c6_1 := cell_of_row _ _ 1 _ _ _ hSz.2.2.2.2.2.1; have c6_2 := cell_of_row _ _ 2 _ _ _ hSz.2.2.2.2.2.1; have c7_0 := cell_of_row _ _ 0 _ _ _ hSz.2.2.2.2.2.2; have c7_1 := cell_of_row _ _ 1 _ _ _ hSz.2.2.2.2.2.2; have c7_2 := cell_of_row _ _ 2 _ _ _ hSz.2.2.2.2.2.2; simp at c0_0 c0_1 c0_2 c0_3 c0_4 c0_5 c0_6 c0_7 c1_0 c1_1 c1_2 c1_3 c1_4 c1_5 c1_6 c1_7 c3_0 c3_1 c3_2 c3_3 c3_4 c3_5 c3_6 c3_7 c4_0 c4_1 c4_2 c4_3 c4_4 c4_5 c4_6 c4_7 c5_0 c5_1 c5_2 c6_0 c6_1 c6_2 c7_0 c7_1 c7_2; go_simp; try with_reducible rfl)⟩) hS0 ?_
        go_simp
        refine wpAnyH_take (i := 2) (v := ?_) rfl (by kernel_rfl) (by kernel_rfl) (by kernel_rfl) (fun _ _ _ h => h) (Or.inl ⟨by kernel_rfl, by (intro wz hSz; go_simp; try with_reducible rfl)⟩) hS0 ?_
        go_simp
        refine wpAnyH_take (i := 3) (v := ?_) rfl (by kernel_rfl) (by kernel_rfl) (by kernel_rfl) (fun _ _ _ h => h) (Or.inl ⟨by kernel_rfl, by (intro wz hSz; go_simp; try with_reducible rfl)⟩) hS0 ?_
        go_simp
        refine wpAnyH_ready (rs := [1]) (by kernel_rfl) (by simp) ?_
        refine AllReadyH.cons rfl (fun K hK => ?_) AllReadyH.nil
        go_simp
        go_wp2_with (go_at_call 12; refine (dright_any (⟨W, H, nl, nd, nn, nb, ns, nf, L, D, N, B, S, F⟩ : Flm) (⟨al, cl, ad, cd, an, cn, ab, cb, ax, cx, af, cf⟩ : Pl) _ (HC.out.at_.on HU25.out)).mono ?_; rintro e y26 ⟨rfl, hb26⟩; rw [decide_eq_false HO.out])
        have hr26_0 := (hb26.block _ (lt_heap hr25_0)).trans hr25_0
        have hr26_1 := (hb26.block _ (lt_heap hr25_1)).trans hr25_1
        have hr26_2 := (hb26.block _ (lt_heap hr25_2)).trans hr25_2
        have hr26_3 := (hb26.block _ (lt_heap hr25_3)).trans hr25_3
        have hr26_4 := (hb26.block _ (lt_heap hr25_4)).trans hr25_4
        have hr26_5 := (hb26.block _ (lt_heap hr25_5)).trans hr25_5
        have hr26_6 := (hb26.block _ (lt_heap hr25_6)).trans hr25_6
        have hr26_7 := (hb26.block _ (lt_heap hr25_7)).trans hr25_7
        have HU26 := Lib.hid (HU25.out.trans (hb26.mono HU25.out.size))
        have HF26 := Lib.hid (HF25.out.on hb26)
        have HG26 := Lib.hid (HG25.out.on hb26)
        have HR26 := Lib.hid (HR25.out.on hb26)
        have HD26 := Lib.hid (HD25.out.on hb26)
        have hz26 := hb26.size
        refine hK.out _ _ (⟨(hb26.block _ (lt_heap hS0.1)).trans hS0.1, (hb26.block _ (lt_heap hS0.2.1)).trans hS0.2.1, (hb26.block _ (lt_heap hS0.2.2.1)).trans hS0.2.2.1, (hb26.block _ (lt_heap hS0.2.2.2.1)).trans hS0.2.2.2.1, (hb26.block _ (lt_heap hS0.2.2.2.2.1)).trans hS0.2.2.2.2.1, (hb26.block _ (lt_heap hS0.2.2.2.2.2.1)).trans hS0.2.2.2.2.2.1, (hb26.block _ (lt_heap hS0.2.2.2.2.2.2)).trans hS0.2.2.2.2.2.2⟩) (fun hS26c => ?_)
        clear hK K
        refine wpAnyH_take (i := 4) (v := ?_) rfl (by kernel_rfl) (by kernel_rfl) (by kernel_rfl) (fun _ _ _ h => h) (Or.inl ⟨by kernel_rfl, by (intro wz hSz; go_simp; try with_reducible rfl)⟩) hS26c ?_
        go_simp
        refine wpAnyH_take (i := 5) (v := ?_) rfl (by kernel_rfl) (by kernel_rfl) (by kernel_rfl) (fun _ _ _ h => h) (Or.inl ⟨by kernel_rfl, by (intro wz hSz; go_simp; try with_reducible rfl)⟩) hS26c ?_
        go_simp
        refine wpAnyH_take (i := 6) (v := ?_) rfl (by kernel_rfl) (by kernel_rfl) (by kernel_rfl) (fun _ _ _ h => h) (Or.inl ⟨by kernel_rfl, by (intro wz hSz; go_simp; try with_reducible rfl)⟩) hS26c ?_
        go_simp
        refine wpAnyH_take (i := 7) (v := ?_) rfl (by kernel_rfl) (by kernel_rfl) (by kernel_rfl) (fun _ _ _ h => h) (Or.inl ⟨by kernel_rfl, by (intro wz hSz; go_simp; try with_reducible rfl)⟩) hS26c ?_
        go_simp
        refine wpAnyH_take (i := 8) (v := ?_) rfl (by kernel_rfl) (by kernel_rfl) (by kernel_rfl) (fun _ _ _ h => h) (Or.inl ⟨by kernel_rfl, by (intro wz hSz; go_simp; try with_reducible rfl)⟩) hS26c ?_
        go_simp
        refine wpAnyH_take (i := 9) (v := undef) rfl (by kernel_rfl) (by kernel_rfl) (by kernel_rfl) (fun _ _ _ h => h) (Or.inr ⟨by kernel_rfl, rfl⟩) hS26c ?_
        go_simp
        refine wpAnyH_take (i := 10) (v := undef) rfl (by kernel_rfl) (by kernel_rfl) (by kernel_rfl) (fun _ _ _ h => h) (Or.inr ⟨by kernel_rfl, rfl⟩) hS26c ?_
        go_simp
        refine wpAnyH_take (i := 11) (v := undef) rfl (by kernel_rfl) (by kernel_rfl) (by kernel_rfl) (fun _ _ _ h => h) (Or.inr ⟨by kernel_rfl, rfl⟩) hS26c ?_
        go_simp
        refine wpAnyH_take (i := 12) (v := undef) rfl (by kernel_rfl) (by kernel_rfl) (by kernel_rfl) (fun _ _ _ h => h) (Or.inr ⟨by kernel_rfl, rfl⟩) hS26c ?_
        go_simp
        refine wpAnyH_take (i := 13) (v := undef) rfl (by kernel_rfl) (by kernel_rfl) (by kernel_rfl) (fun _ _ _ h => h) (Or.inr ⟨by kernel_rfl, rfl⟩) hS26c ?_
        go_simp
        refine wpAnyH_take (i := 14) (v := undef) rfl (by kernel_rfl) (by kernel_rfl) (by kernel_rfl) (fun _ _ _ h => h) (Or.inr ⟨by kernel_rfl, rfl⟩) hS26c ?_
        go_simp
        refine wpAnyH_take (i := 15) (v := ?_) rfl (by kernel_rfl) (by kernel_rfl) (by kernel_rfl) (fun _ _ _ h => h) (Or.inl ⟨by kernel_rfl, by (intro wz hSz; go_simp; try with_reducible rfl)⟩) hS26c ?_
        go_simp
        refine wpAnyH_take (i := 16) (v := ?_) rfl (by kernel_rfl) (by kernel_rfl) (by kernel_rfl) (fun _ _ _ h => h) (Or.inl ⟨by kernel_rfl, by (intro wz hSz; go_simp; try with_reducible rfl)⟩) hS26c ?_
        go_simp
        refine wpAnyH_done (by kernel_rfl) ?_ _
        go_upto_region 9 with fail
        refine wp_region_held_drew (S := fun y => y.heap[w.heap.size]? = some (.cells #[.int .i64 W, .int .i64 H, .slice al nl cl, .slice ad nd cd, .slice an nn cn, .slice ab nb cb, .slice ax ns cx, .slice af nf cf] 29 (0, 0)) ∧ y.heap[w.heap.size + 1]? = some (.cells #[.int .i64 W2, .int .i64 H2, .slice al2 nl2 cl2, .slice ad2 nd2 cd2, .slice an2 nn2 cn2, .slice ab2 nb2 cb2, .slice ax2 ns2 cx2, .slice af2 nf2 cf2] 29 (0, 0)) ∧ y.heap[q1]? = some (.cells #[.int .i64 W, .int .i64 H, .slice al3 nl cl3, .slice ad3 nd cd3, .slice an3 nn cn3, .slice ab3 nb cb3, .slice ax3 ns cx3, .slice af3 nf cf3] 40 (0, 0)) ∧ y.heap[q2]? = some (.cells #[.int .i64 W2, .int .i64 H2, .slice al4 nl2 cl4, .slice ad4 nd2 cd4, .slice an4 nn2 cn4, .slice ab4 nb2 cb4, .slice ax4 ns2 cx4, .slice af4 nf2 cf4] 40 (0, 0)) ∧ y.heap[q3]? = some (.cells #[.int .i64 BW, .int .i64 BH, .slice a5 BN c5] 36 (0, 0)) ∧ y.heap[y21.heap.size]? = some (.cells #[.int .i64 BW, .int .i64 BH, .slice a6 BN c6] 24 (0, 0))) (by kernel_rfl) (⟨hr26_0, hr26_1, hr26_3, hr26_4, hr26_5, hr26_6⟩) (fun hS0 => ?_)
        obtain ⟨y27, hy27⟩ : ∃ y, y26.drew = y := ⟨_, rfl⟩
        have HU27 := Lib.hid (show Below w.heap.size w y27 by rw [← hy27]; exact HU26.out.drew)
        have hr27_0 : y27.heap[w.heap.size]? = some (.cells #[.int .i64 W, .int .i64 H, .slice al nl cl, .slice ad nd cd, .slice an nn cn, .slice ab nb cb, .slice ax ns cx, .slice af nf cf] 29 (0, 0)) := by rw [← hy27]; exact hr26_0
        have hr27_1 : y27.heap[w.heap.size + 1]? = some (.cells #[.int .i64 W2, .int .i64 H2, .slice al2 nl2 cl2, .slice ad2 nd2 cd2, .slice an2 nn2 cn2, .slice ab2 nb2 cb2, .slice ax2 ns2 cx2, .slice af2 nf2 cf2] 29 (0, 0)) := by rw [← hy27]; exact hr26_1
        have hr27_2 : y27.heap[w.heap.size + 1 + 1]? = some (.cells #[.int .i64 W3, .int .i64 H3, .slice am nm cm] 24 (0, 0)) := by rw [← hy27]; exact hr26_2
        have hr27_3 : y27.heap[q1]? = some (.cells #[.int .i64 W, .int .i64 H, .slice al3 nl cl3, .slice ad3 nd cd3, .slice an3 nn cn3, .slice ab3 nb cb3, .slice ax3 ns cx3, .slice af3 nf cf3] 40 (0, 0)) := by rw [← hy27]; exact hr26_3
        have hr27_4 : y27.heap[q2]? = some (.cells #[.int .i64 W2, .int .i64 H2, .slice al4 nl2 cl4, .slice ad4 nd2 cd4, .slice an4 nn2 cn4, .slice ab4 nb2 cb4, .slice ax4 ns2 cx4, .slice af4 nf2 cf4] 40 (0, 0)) := by rw [← hy27]; exact hr26_4
        have hr27_5 : y27.heap[q3]? = some (.cells #[.int .i64 BW, .int .i64 BH, .slice a5 BN c5] 36 (0, 0)) := by rw [← hy27]; exact hr26_5
        have hr27_6 : y27.heap[y21.heap.size]? = some (.cells #[.int .i64 BW, .int .i64 BH, .slice a6 BN c6] 24 (0, 0)) := by rw [← hy27]; exact hr26_6
        have hr27_7 : y27.heap[y23.heap.size]? = some (.cells #[.int .i64 0, .int .i64 0, .slice none 0 0] 36 (0, 0)) := by rw [← hy27]; exact hr26_7
        have hz27 : y26.heap.size ≤ y27.heap.size := by rw [← hy27]; exact Nat.le_refl _
        have HF27 := Lib.hid (show FAt y27 (⟨W, H, nl, nd, nn, nb, ns, nf, L, D, N, B, S, F⟩ : Flm) (⟨al3, cl3, ad3, cd3, an3, cn3, ab3, cb3, ax3, cx3, af3, cf3⟩ : Pl) by rw [← hy27]; exact HF26.out.on (Below.refl _ _).drew)
        have HG27 := Lib.hid (show FAt y27 (⟨W2, H2, nl2, nd2, nn2, nb2, ns2, nf2, L2, D2, N2, B2, S2, F2⟩ : Flm) (⟨al4, cl4, ad4, cd4, an4, cn4, ab4, cb4, ax4, cx4, af4, cf4⟩ : Pl) by rw [← hy27]; exact HG26.out.on (Below.refl _ _).drew)
        have HR27 := Lib.hid (show Rw 3 y27 a5 BN LB by rw [← hy27]; exact HR26.out.on (Below.refl _ _).drew)
        have HD27 := Lib.hid (show Rw 3 y27 a6 BN LB by rw [← hy27]; exact HD26.out.on (Below.refl _ _).drew)
        rw [hy27] at hS0 ⊢
        clear hy27
        refine wpAnyH_ready (rs := [0]) (by kernel_rfl) (by simp) ?_
        refine AllReadyH.cons rfl (fun K hK => ?_) AllReadyH.nil
        go_simp
        go_wp2_with (go_at_call 6; refine (wawake_any _).mono ?_; rintro e y28 ⟨rfl, hb28⟩)
        have hr28_0 := (hb28.block _ (lt_heap hr27_0)).trans hr27_0
        have hr28_1 := (hb28.block _ (lt_heap hr27_1)).trans hr27_1
        have hr28_2 := (hb28.block _ (lt_heap hr27_2)).trans hr27_2
        have hr28_3 := (hb28.block _ (lt_heap hr27_3)).trans hr27_3
        have hr28_4 := (hb28.block _ (lt_heap hr27_4)).trans hr27_4
        have hr28_5 := (hb28.block _ (lt_heap hr27_5)).trans hr27_5
        have hr28_6 := (hb28.block _ (lt_heap hr27_6)).trans hr27_6
        have hr28_7 := (hb28.block _ (lt_heap hr27_7)).trans hr27_7
        have HU28 := Lib.hid (HU27.out.trans (hb28.mono HU27.out.size))
        have HF28 := Lib.hid (HF27.out.on hb28)
        have HG28 := Lib.hid (HG27.out.on hb28)
        have HR28 := Lib.hid (HR27.out.on hb28)
        have HD28 := Lib.hid (HD27.out.on hb28)
        have hz28 := hb28.size
        refine hK.out _ _ (⟨(hb28.block _ (lt_heap hS0.1)).trans hS0.1, (hb28.block _ (lt_heap hS0.2.1)).trans hS0.2.1, (hb28.block _ (lt_heap hS0.2.2.1)).trans hS0.2.2.1, (hb28.block _ (lt_heap hS0.2.2.2.1)).trans hS0.2.2.2.1, (hb28.block _ (lt_heap hS0.2.2.2.2.1)).trans hS0.2.2.2.2.1, (hb28.block _ (lt_heap hS0.2.2.2.2.2)).trans hS0.2.2.2.2.2⟩) (fun hS28c => ?_)
        clear hK K
        refine wpAnyH_take (i := 1) (v := ?_) rfl (by kernel_rfl) (by kernel_rfl) (by kernel_rfl) (fun _ _ _ h => h) (Or.inl ⟨by kernel_rfl, by (intro wz hSz; go_simp; try with_reducible rfl)⟩) hS28c ?_
        go_simp
        refine wpAnyH_take (i := 2) (v := ?_) rfl (by kernel_rfl) (by kernel_rfl) (by kernel_rfl) (fun _ _ _ h => h) (Or.inl ⟨by kernel_rfl, by (intro wz hSz; go_simp; try with_reducible rfl)⟩) hS28c ?_
        go_simp
        refine wpAnyH_take (i := 3) (v := ?_) rfl (by kernel_rfl) (by kernel_rfl) (by kernel_rfl) (fun _ _ _ h => h) (Or.inl ⟨by kernel_rfl, by (intro wz hSz; go_simp; try with_reducible rfl)⟩) hS28c ?_
        go_simp
        refine wpAnyH_take (i := 4) (v := ?_) rfl (by kernel_rfl) (by kernel_rfl) (by kernel_rfl) (fun _ _ _ h => h) (Or.inl ⟨by kernel_rfl, by (intro wz hSz; go_simp; try with_reducible rfl)⟩) hS28c ?_
        go_simp
        refine wpAnyH_take (i := 5) (v := ?_) rfl (by kernel_rfl) (by kernel_rfl) (by kernel_rfl) (fun _ _ _ h => h) (Or.inl ⟨by kernel_rfl, by (intro wz hSz; go_simp; try with_reducible rfl)⟩) hS28c ?_
        go_simp
        refine wpAnyH_take (i := 6) (v := ?_) rfl (by kernel_rfl) (by kernel_rfl) (by kernel_rfl) (fun _ _ _ h => h) (Or.inl ⟨by kernel_rfl, by (intro wz hSz; go_simp; try with_reducible rfl)⟩) hS28c ?_
        go_simp
        refine wpAnyH_take (i := 7) (v := ?_) rfl (by kernel_rfl) (by kernel_rfl) (by kernel_rfl) (fun _ _ _ h => h) (Or.inl ⟨by kernel_rfl, by (intro wz hSz; have c0_0 := cell_of_row _ _ 0 _ _ _ hSz.1; have c0_1 := cell_of_row _ _ 1 _ _ _ hSz.1; have c0_2 := cell_of_row _ _ 2 _ _ _ hSz.1; have c0_3 := cell_of_row _ _ 3 _ _ _ hSz.1; have c0_4 := cell_of_row _ _ 4 _ _ _ hSz.1; have c0_5 := cell_of_row _ _ 5 _ _ _ hSz.1; have c0_6 := cell_of_row _ _ 6 _ _ _ hSz.1; have c0_7 := cell_of_row _ _ 7 _ _ _ hSz.1; have c1_0 := cell_of_row _ _ 0 _ _ _ hSz.2.1; have c1_1 := cell_of_row _ _ 1 _ _ _ hSz.2.1; have c1_2 := cell_of_row _ _ 2 _ _ _ hSz.2.1; have c1_3 := cell_of_row _ _ 3 _ _ _ hSz.2.1; have c1_4 := cell_of_row _ _ 4 _ _ _ hSz.2.1; have c1_5 := cell_of_row _ _ 5 _ _ _ hSz.2.1; have c1_6 := cell_of_row _ _ 6 _ _ _ hSz.2.1; have c1_7 := cell_of_row _ _ 7 _ _ _ hSz.2.1; have c3_0 := cell_of_row _ _ 0 _ _ _ hSz.2.2.1; have c3_1 := cell_of_row _ _ 1 _ _ _ hSz.2.2.1; have c3_2 := cell_of_row _ _ 2 _ _ _ hSz.2.2.1; have c3_3 := cell_of_row _ _ 3 _ _ _ hSz.2.2.1; have c3_4 := cell_of_row _ _ 4 _ _ _ hSz.2.2.1; have c3_5 := cell_of_row _ _ 5 _ _ _ hSz.2.2.1; have c3_6 := cell_of_row _ _ 6 _ _ _ hSz.2.2.1; have c3_7 := cell_of_row _ _ 7 _ _ _ hSz.2.2.1; have c4_0 := cell_of_row _ _ 0 _ _ _ hSz.2.2.2.1; have c4_1 := cell_of_row _ _ 1 _ _ _ hSz.2.2.2.1; have c4_2 := cell_of_row _ _ 2 _ _ _ hSz.2.2.2.1; have c4_3 := cell_of_row _ _ 3 _ _ _ hSz.2.2.2.1; have c4_4 := cell_of_row _ _ 4 _ _ _ hSz.2.2.2.1; have c4_5 := cell_of_row _ _ 5 _ _ _ hSz.2.2.2.1; have c4_6 := cell_of_row _ _ 6 _ _ _ hSz.2.2.2.1; have c4_7 := cell_of_row _ _ 7 _ _ _ hSz.2.2.2.1; have c5_0 := cell_of_row _ _ 0 _ _ _ hSz.2.2.2.2.1; have c5_1 := cell_of_row _ _ 1 _ _ _ hSz.2.2.2.2.1; have c5_2 := cell_of_row _ _ 2 _ _ _ hSz.2.2.2.2.1; have c6_0 := cell_of_row _ _ 0 _ _ _ hSz.2.2.2.2.2; have c6_1 := cell_of_row _ _ 1 _ _ _ hSz.2.2.2.2.2; have c6_2 := cell_of_row _ _ 2 _ _ _ hSz.2.2.2.2.2; simp at c0_0 c0_1 c0_2 c0_3 c0_4 c0_5 c0_6 c0_7 c1_0 c1_1 c1_2 c1_3 c1_4 c1_5 c1_6 c1_7 c3_0 c3_1 c3_2 c3_3 c3_4 c3_5 c3_6 c3_7 c4_0 c4_1 c4_2 c4_3 c4_4 c4_5 c4_6 c4_7 c5_0 c5_1 c5_2 c6_0 c6_1 c6_2; go_simp; try with_reducible rfl)⟩) hS28c ?_
        go_simp
        refine wpAnyH_take (i := 9) (v := ?_) rfl (by kernel_rfl) (by kernel_rfl) (by kernel_rfl) (fun _ _ _ h => h) (Or.inl ⟨by kernel_rfl, by (intro wz hSz; have c0_0 := cell_of_row _ _ 0 _ _ _ hSz.1; have c0_1 := cell_of_row _ _ 1 _ _ _ hSz.1; have c0_2 := cell_of_row _ _ 2 _ _ _ hSz.1; have c0_3 := cell_of_row _ _ 3 _ _ _ hSz.1; have c0_4 := cell_of_row _ _ 4 _ _ _ hSz.1; have c0_5 := cell_of_row _ _ 5 _ _ _ hSz.1; have c0_6 := cell_of_row _ _ 6 _ _ _ hSz.1; have c0_7 := cell_of_row _ _ 7 _ _ _ hSz.1; have c1_0 := cell_of_row _ _ 0 _ _ _ hSz.2.1; have c1_1 := cell_of_row _ _ 1 _ _ _ hSz.2.1; have c1_2 := cell_of_row _ _ 2 _ _ _ hSz.2.1; have c1_3 := cell_of_row _ _ 3 _ _ _ hSz.2.1; have c1_4 := cell_of_row _ _ 4 _ _ _ hSz.2.1; have c1_5 := cell_of_row _ _ 5 _ _ _ hSz.2.1; have c1_6 := cell_of_row _ _ 6 _ _ _ hSz.2.1; have c1_7 := cell_of_row _ _ 7 _ _ _ hSz.2.1; have c3_0 := cell_of_row _ _ 0 _ _ _ hSz.2.2.1; have c3_1 := cell_of_row _ _ 1 _ _ _ hSz.2.2.1; have c3_2 := cell_of_row _ _ 2 _ _ _ hSz.2.2.1; have c3_3 := cell_of_row _ _ 3 _ _ _ hSz.2.2.1; have c3_4 := cell_of_row _ _ 4 _ _ _ hSz.2.2.1; have c3_5 := cell_of_row _ _ 5 _ _ _ hSz.2.2.1; have c3_6 := cell_of_row _ _ 6 _ _ _ hSz.2.2.1; have c3_7 := cell_of_row _ _ 7 _ _ _ hSz.2.2.1; have c4_0 := cell_of_row _ _ 0 _ _ _ hSz.2.2.2.1; have c4_1 := cell_of_row _ _ 1 _ _ _ hSz.2.2.2.1; have c4_2 := cell_of_row _ _ 2 _ _ _ hSz.2.2.2.1; have c4_3 := cell_of_row _ _ 3 _ _ _ hSz.2.2.2.1; have c4_4 := cell_of_row _ _ 4 _ _ _ hSz.2.2.2.1; have c4_5 := cell_of_row _ _ 5 _ _ _ hSz.2.2.2.1; have c4_6 := cell_of_row _ _ 6 _ _ _ hSz.2.2.2.1; have c4_7 := cell_of_row _ _ 7 _ _ _ hSz.2.2.2.1; have c5_0 := cell_of_row _ _ 0 _ _ _ hSz.2.2.2.2.1; have c5_1 := cell_of_row _ _ 1 _ _ _ hSz.2.2.2.2.1; have c5_2 := cell_of_row _ _ 2 _ _ _ hSz.2.2.2.2.1; have c6_0 := cell_of_row _ _ 0 _ _ _ hSz.2.2.2.2.2; have c6_1 := cell_of_row _ _ 1 _ _ _ hSz.2.2.2.2.2; have c6_2 := cell_of_row _ _ 2 _ _ _ hSz.2.2.2.2.2; simp at c0_0 c0_1 c0_2 c0_3 c0_4 c0_5 c0_6 c0_7 c1_0 c1_1 c1_2 c1_3 c1_4 c1_5 c1_6 c1_7 c3_0 c3_1 c3_2 c3_3 c3_4 c3_5 c3_6 c3_7 c4_0 c4_1 c4_2 c4_3 c4_4 c4_5 c4_6 c4_7 c5_0 c5_1 c5_2 c6_0 c6_1 c6_2; go_simp; try with_reducible rfl)⟩) hS28c ?_
        go_simp
        refine wpAnyH_ready (rs := [8]) (by kernel_rfl) (by simp) ?_
        refine AllReadyH.cons rfl (fun K hK => ?_) AllReadyH.nil
        go_simp
        go_wp2_with (go_at_call 14; refine (fromsheet_any BW BH a5 BN c5 LB _ HR28.out hbn24).mono ?_; rintro e y29 ⟨⟨a9, c9, rfl, hft⟩, hb29⟩)
        have hr29_0 := (hb29.block _ (lt_heap hr28_0)).trans hr28_0
        have hr29_1 := (hb29.block _ (lt_heap hr28_1)).trans hr28_1
        have hr29_2 := (hb29.block _ (lt_heap hr28_2)).trans hr28_2
        have hr29_3 := (hb29.block _ (lt_heap hr28_3)).trans hr28_3
        have hr29_4 := (hb29.block _ (lt_heap hr28_4)).trans hr28_4
        have hr29_5 := (hb29.block _ (lt_heap hr28_5)).trans hr28_5
        have hr29_6 := (hb29.block _ (lt_heap hr28_6)).trans hr28_6
        have hr29_7 := (hb29.block _ (lt_heap hr28_7)).trans hr28_7
        have HU29 := Lib.hid (HU28.out.trans (hb29.mono HU28.out.size))
        have HF29 := Lib.hid (HF28.out.on hb29)
        have HG29 := Lib.hid (HG28.out.on hb29)
        have HR29 := Lib.hid (HR28.out.on hb29)
        have HD29 := Lib.hid (HD28.out.on hb29)
        have hz29 := hb29.size
        have HT29 := Lib.hid (hft.rw (by decide))
        refine hK.out _ _ (⟨(hb29.block _ (lt_heap hS28c.1)).trans hS28c.1, (hb29.block _ (lt_heap hS28c.2.1)).trans hS28c.2.1, (hb29.block _ (lt_heap hS28c.2.2.1)).trans hS28c.2.2.1, (hb29.block _ (lt_heap hS28c.2.2.2.1)).trans hS28c.2.2.2.1, (hb29.block _ (lt_heap hS28c.2.2.2.2.1)).trans hS28c.2.2.2.2.1, (hb29.block _ (lt_heap hS28c.2.2.2.2.2)).trans hS28c.2.2.2.2.2⟩) (fun hS29c => ?_)
        clear hK K
        refine wpAnyH_ready (rs := [10]) (by kernel_rfl) (by simp) ?_
        refine AllReadyH.cons rfl (fun K hK => ?_) AllReadyH.nil
        go_simp
        go_wp2_with (go_at_call 13; refine (samesheet_any BW BH BN a9 a6 c9 c6 LB _ HT29.out HD29.out hbn1).mono ?_; rintro e y30 ⟨rfl, hb30⟩)
        have hr30_0 := (hb30.block _ (lt_heap hr29_0)).trans hr29_0
        have hr30_1 := (hb30.block _ (lt_heap hr29_1)).trans hr29_1
        have hr30_2 := (hb30.block _ (lt_heap hr29_2)).trans hr29_2
        have hr30_3 := (hb30.block _ (lt_heap hr29_3)).trans hr29_3
        have hr30_4 := (hb30.block _ (lt_heap hr29_4)).trans hr29_4
        have hr30_5 := (hb30.block _ (lt_heap hr29_5)).trans hr29_5
        have hr30_6 := (hb30.block _ (lt_heap hr29_6)).trans hr29_6
        have hr30_7 := (hb30.block _ (lt_heap hr29_7)).trans hr29_7
        have HU30 := Lib.hid (HU29.out.trans (hb30.mono HU29.out.size))
        have HF30 := Lib.hid (HF29.out.on hb30)
        have HG30 := Lib.hid (HG29.out.on hb30)
        have HR30 := Lib.hid (HR29.out.on hb30)
        have HD30 := Lib.hid (HD29.out.on hb30)
        have HT30 := Lib.hid (HT29.out.on hb30)
        have hz30 := hb30.size
        refine hK.out _ _ (⟨(hb30.block _ (lt_heap hS29c.1)).trans hS29c.1, (hb30.block _ (lt_heap hS29c.2.1)).trans hS29c.2.1, (hb30.block _ (lt_heap hS29c.2.2.1)).trans hS29c.2.2.1, (hb30.block _ (lt_heap hS29c.2.2.2.1)).trans hS29c.2.2.2.1, (hb30.block _ (lt_heap hS29c.2.2.2.2.1)).trans hS29c.2.2.2.2.1, (hb30.block _ (lt_heap hS29c.2.2.2.2.2)).trans hS29c.2.2.2.2.2⟩) (fun hS30c => ?_)
        clear hK K
        refine wpAnyH_take (i := 11) (v := ?_) rfl (by kernel_rfl) (by kernel_rfl) (by kernel_rfl) (fun _ _ _ h => h) (Or.inl ⟨by kernel_rfl, by (intro wz hSz; go_simp; try with_reducible rfl)⟩) hS30c ?_
        go_simp
        refine wpAnyH_take (i := 12) (v := ?_) rfl (by kernel_rfl) (by kernel_rfl) (by kernel_rfl) (fun _ _ _ h => h) (Or.inl ⟨by kernel_rfl, by (intro wz hSz; go_simp; try with_reducible rfl)⟩) hS30c ?_
        go_simp
        refine wpAnyH_take (i := 13) (v := ?_) rfl (by kernel_rfl) (by kernel_rfl) (by kernel_rfl) (fun _ _ _ h => h) (Or.inl ⟨by kernel_rfl, by (intro wz hSz; have c0_0 := cell_of_row _ _ 0 _ _ _ hSz.1; have c0_1 := cell_of_row _ _ 1 _ _ _ hSz.1; have c0_2 := cell_of_row _ _ 2 _ _ _ hSz.1; have c0_3 := cell_of_row _ _ 3 _ _ _ hSz.1; have c0_4 := cell_of_row _ _ 4 _ _ _ hSz.1; have c0_5 := cell_of_row _ _ 5 _ _ _ hSz.1; have c0_6 := cell_of_row _ _ 6 _ _ _ hSz.1; have c0_7 := cell_of_row _ _ 7 _ _ _ hSz.1; have c1_0 := cell_of_row _ _ 0 _ _ _ hSz.2.1; have c1_1 := cell_of_row _ _ 1 _ _ _ hSz.2.1; have c1_2 := cell_of_row _ _ 2 _ _ _ hSz.2.1; have c1_3 := cell_of_row _ _ 3 _ _ _ hSz.2.1; have c1_4 := cell_of_row _ _ 4 _ _ _ hSz.2.1; have c1_5 := cell_of_row _ _ 5 _ _ _ hSz.2.1; have c1_6 := cell_of_row _ _ 6 _ _ _ hSz.2.1; have c1_7 := cell_of_row _ _ 7 _ _ _ hSz.2.1; have c3_0 := cell_of_row _ _ 0 _ _ _ hSz.2.2.1; have c3_1 := cell_of_row _ _ 1 _ _ _ hSz.2.2.1; have c3_2 := cell_of_row _ _ 2 _ _ _ hSz.2.2.1; have c3_3 := cell_of_row _ _ 3 _ _ _ hSz.2.2.1; have c3_4 := cell_of_row _ _ 4 _ _ _ hSz.2.2.1; have c3_5 := cell_of_row _ _ 5 _ _ _ hSz.2.2.1; have c3_6 := cell_of_row _ _ 6 _ _ _ hSz.2.2.1; have c3_7 := cell_of_row _ _ 7 _ _ _ hSz.2.2.1; have c4_0 := cell_of_row _ _ 0 _ _ _ hSz.2.2.2.1; have c4_1 := cell_of_row _ _ 1 _ _ _ hSz.2.2.2.1; have c4_2 := cell_of_row _ _ 2 _ _ _ hSz.2.2.2.1; have c4_3 := cell_of_row _ _ 3 _ _ _ hSz.2.2.2.1; have c4_4 := cell_of_row _ _ 4 _ _ _ hSz.2.2.2.1; have c4_5 := cell_of_row _ _ 5 _ _ _ hSz.2.2.2.1; have c4_6 := cell_of_row _ _ 6 _ _ _ hSz.2.2.2.1; have c4_7 := cell_of_row _ _ 7 _ _ _ hSz.2.2.2.1; have c5_0 := cell_of_row _ _ 0 _ _ _ hSz.2.2.2.2.1; have c5_1 := cell_of_row _ _ 1 _ _ _ hSz.2.2.2.2.1; have c5_2 := cell_of_row _ _ 2 _ _ _ hSz.2.2.2.2.1; have c6_0 := cell_of_row _ _ 0 _ _ _ hSz.2.2.2.2.2; have c6_1 := cell_of_row _ _ 1 _ _ _ hSz.2.2.2.2.2; have c6_2 := cell_of_row _ _ 2 _ _ _ hSz.2.2.2.2.2; simp at c0_0 c0_1 c0_2 c0_3 c0_4 c0_5 c0_6 c0_7 c1_0 c1_1 c1_2 c1_3 c1_4 c1_5 c1_6 c1_7 c3_0 c3_1 c3_2 c3_3 c3_4 c3_5 c3_6 c3_7 c4_0 c4_1 c4_2 c4_3 c4_4 c4_5 c4_6 c4_7 c5_0 c5_1 c5_2 c6_0 c6_1 c6_2; go_simp; try with_reducible rfl)⟩) hS30c ?_
        go_simp
        refine wpAnyH_take (i := 14) (v := ?_) rfl (by kernel_rfl) (by kernel_rfl) (by kernel_rfl) (fun _ _ _ h => h) (Or.inl ⟨by kernel_rfl, by (intro wz hSz; have c0_0 := cell_of_row _ _ 0 _ _ _ hSz.1; have c0_1 := cell_of_row _ _ 1 _ _ _ hSz.1; have c0_2 := cell_of_row _ _ 2 _ _ _ hSz.1; have c0_3 := cell_of_row _ _ 3 _ _ _ hSz.1; have c0_4 := cell_of_row _ _ 4 _ _ _ hSz.1; have c0_5 := cell_of_row _ _ 5 _ _ _ hSz.1; have c0_6 := cell_of_row _ _ 6 _ _ _ hSz.1; have c0_7 := cell_of_row _ _ 7 _ _ _ hSz.1; have c1_0 := cell_of_row _ _ 0 _ _ _ hSz.2.1; have c1_1 := cell_of_row _ _ 1 _ _ _ hSz.2.1; have c1_2 := cell_of_row _ _ 2 _ _ _ hSz.2.1; have c1_3 := cell_of_row _ _ 3 _ _ _ hSz.2.1; have c1_4 := cell_of_row _ _ 4 _ _ _ hSz.2.1; have c1_5 := cell_of_row _ _ 5 _ _ _ hSz.2.1; have c1_6 := cell_of_row _ _ 6 _ _ _ hSz.2.1; have c1_7 := cell_of_row _ _ 7 _ _ _ hSz.2.1; have c3_0 := cell_of_row _ _ 0 _ _ _ hSz.2.2.1; have c3_1 := cell_of_row _ _ 1 _ _ _ hSz.2.2.1; have c3_2 := cell_of_row _ _ 2 _ _ _ hSz.2.2.1; have c3_3 := cell_of_row _ _ 3 _ _ _ hSz.2.2.1; have c3_4 := cell_of_row _ _ 4 _ _ _ hSz.2.2.1; have c3_5 := cell_of_row _ _ 5 _ _ _ hSz.2.2.1; have c3_6 := cell_of_row _ _ 6 _ _ _ hSz.2.2.1; have c3_7 := cell_of_row _ _ 7 _ _ _ hSz.2.2.1; have c4_0 := cell_of_row _ _ 0 _ _ _ hSz.2.2.2.1; have c4_1 := cell_of_row _ _ 1 _ _ _ hSz.2.2.2.1; have c4_2 := cell_of_row _ _ 2 _ _ _ hSz.2.2.2.1; have c4_3 := cell_of_row _ _ 3 _ _ _ hSz.2.2.2.1; have c4_4 := cell_of_row _ _ 4 _ _ _ hSz.2.2.2.1; have c4_5 := cell_of_row _ _ 5 _ _ _ hSz.2.2.2.1; have c4_6 := cell_of_row _ _ 6 _ _ _ hSz.2.2.2.1; have c4_7 := cell_of_row _ _ 7 _ _ _ hSz.2.2.2.1; have c5_0 := cell_of_row _ _ 0 _ _ _ hSz.2.2.2.2.1; have c5_1 := cell_of_row _ _ 1 _ _ _ hSz.2.2.2.2.1; have c5_2 := cell_of_row _ _ 2 _ _ _ hSz.2.2.2.2.1; have c6_0 := cell_of_row _ _ 0 _ _ _ hSz.2.2.2.2.2; have c6_1 := cell_of_row _ _ 1 _ _ _ hSz.2.2.2.2.2; have c6_2 := cell_of_row _ _ 2 _ _ _ hSz.2.2.2.2.2; simp at c0_0 c0_1 c0_2 c0_3 c0_4 c0_5 c0_6 c0_7 c1_0 c1_1 c1_2 c1_3 c1_4 c1_5 c1_6 c1_7 c3_0 c3_1 c3_2 c3_3 c3_4 c3_5 c3_6 c3_7 c4_0 c4_1 c4_2 c4_3 c4_4 c4_5 c4_6 c4_7 c5_0 c5_1 c5_2 c6_0 c6_1 c6_2; go_simp; try with_reducible rfl)⟩) hS30c ?_
        go_simp
        refine wpAnyH_take (i := 16) (v := ?_) rfl (by kernel_rfl) (by kernel_rfl) (by kernel_rfl) (fun _ _ _ h => h) (Or.inl ⟨by kernel_rfl, by (intro wz hSz; have c0_0 := cell_of_row _ _ 0 _ _ _ hSz.1; have c0_1 := cell_of_row _ _ 1 _ _ _ hSz.1; have c0_2 := cell_of_row _ _ 2 _ _ _ hSz.1; have c0_3 := cell_of_row _ _ 3 _ _ _ hSz.1; have c0_4 := cell_of_row _ _ 4 _ _ _ hSz.1; have c0_5 := cell_of_row _ _ 5 _ _ _ hSz.1; have c0_6 := cell_of_row _ _ 6 _ _ _ hSz.1; have c0_7 := cell_of_row _ _ 7 _ _ _ hSz.1; have c1_0 := cell_of_row _ _ 0 _ _ _ hSz.2.1; have c1_1 := cell_of_row _ _ 1 _ _ _ hSz.2.1; have c1_2 := cell_of_row _ _ 2 _ _ _ hSz.2.1; have c1_3 := cell_of_row _ _ 3 _ _ _ hSz.2.1; have c1_4 := cell_of_row _ _ 4 _ _ _ hSz.2.1; have c1_5 := cell_of_row _ _ 5 _ _ _ hSz.2.1; have c1_6 := cell_of_row _ _ 6 _ _ _ hSz.2.1; have c1_7 := cell_of_row _ _ 7 _ _ _ hSz.2.1; have c3_0 := cell_of_row _ _ 0 _ _ _ hSz.2.2.1; have c3_1 := cell_of_row _ _ 1 _ _ _ hSz.2.2.1; have c3_2 := cell_of_row _ _ 2 _ _ _ hSz.2.2.1; have c3_3 := cell_of_row _ _ 3 _ _ _ hSz.2.2.1; have c3_4 := cell_of_row _ _ 4 _ _ _ hSz.2.2.1; have c3_5 := cell_of_row _ _ 5 _ _ _ hSz.2.2.1; have c3_6 := cell_of_row _ _ 6 _ _ _ hSz.2.2.1; have c3_7 := cell_of_row _ _ 7 _ _ _ hSz.2.2.1; have c4_0 := cell_of_row _ _ 0 _ _ _ hSz.2.2.2.1; have c4_1 := cell_of_row _ _ 1 _ _ _ hSz.2.2.2.1; have c4_2 := cell_of_row _ _ 2 _ _ _ hSz.2.2.2.1; have c4_3 := cell_of_row _ _ 3 _ _ _ hSz.2.2.2.1; have c4_4 := cell_of_row _ _ 4 _ _ _ hSz.2.2.2.1; have c4_5 := cell_of_row _ _ 5 _ _ _ hSz.2.2.2.1; have c4_6 := cell_of_row _ _ 6 _ _ _ hSz.2.2.2.1; have c4_7 := cell_of_row _ _ 7 _ _ _ hSz.2.2.2.1; have c5_0 := cell_of_row _ _ 0 _ _ _ hSz.2.2.2.2.1; have c5_1 := cell_of_row _ _ 1 _ _ _ hSz.2.2.2.2.1; have c5_2 := cell_of_row _ _ 2 _ _ _ hSz.2.2.2.2.1; have c6_0 := cell_of_row _ _ 0 _ _ _ hSz.2.2.2.2.2; have c6_1 := cell_of_row _ _ 1 _ _ _ hSz.2.2.2.2.2; have c6_2 := cell_of_row _ _ 2 _ _ _ hSz.2.2.2.2.2; simp at c0_0 c0_1 c0_2 c0_3 c0_4 c0_5 c0_6 c0_7 c1_0 c1_1 c1_2 c1_3 c1_4 c1_5 c1_6 c1_7 c3_0 c3_1 c3_2 c3_3 c3_4 c3_5 c3_6 c3_7 c4_0 c4_1 c4_2 c4_3 c4_4 c4_5 c4_6 c4_7 c5_0 c5_1 c5_2 c6_0 c6_1 c6_2; go_simp; try with_reducible rfl)⟩) hS30c ?_
        go_simp
        refine wpAnyH_take (i := 17) (v := ?_) rfl (by kernel_rfl) (by kernel_rfl) (by kernel_rfl) (fun _ _ _ h => h) (Or.inl ⟨by kernel_rfl, by (intro wz hSz; have c0_0 := cell_of_row _ _ 0 _ _ _ hSz.1; have c0_1 := cell_of_row _ _ 1 _ _ _ hSz.1; have c0_2 := cell_of_row _ _ 2 _ _ _ hSz.1; have c0_3 := cell_of_row _ _ 3 _ _ _ hSz.1; have c0_4 := cell_of_row _ _ 4 _ _ _ hSz.1; have c0_5 := cell_of_row _ _ 5 _ _ _ hSz.1; have c0_6 := cell_of_row _ _ 6 _ _ _ hSz.1; have c0_7 := cell_of_row _ _ 7 _ _ _ hSz.1; have c1_0 := cell_of_row _ _ 0 _ _ _ hSz.2.1; have c1_1 := cell_of_row _ _ 1 _ _ _ hSz.2.1; have c1_2 := cell_of_row _ _ 2 _ _ _ hSz.2.1; have c1_3 := cell_of_row _ _ 3 _ _ _ hSz.2.1; have c1_4 := cell_of_row _ _ 4 _ _ _ hSz.2.1; have c1_5 := cell_of_row _ _ 5 _ _ _ hSz.2.1; have c1_6 := cell_of_row _ _ 6 _ _ _ hSz.2.1; have c1_7 := cell_of_row _ _ 7 _ _ _ hSz.2.1; have c3_0 := cell_of_row _ _ 0 _ _ _ hSz.2.2.1; have c3_1 := cell_of_row _ _ 1 _ _ _ hSz.2.2.1; have c3_2 := cell_of_row _ _ 2 _ _ _ hSz.2.2.1; have c3_3 := cell_of_row _ _ 3 _ _ _ hSz.2.2.1; have c3_4 := cell_of_row _ _ 4 _ _ _ hSz.2.2.1; have c3_5 := cell_of_row _ _ 5 _ _ _ hSz.2.2.1; have c3_6 := cell_of_row _ _ 6 _ _ _ hSz.2.2.1; have c3_7 := cell_of_row _ _ 7 _ _ _ hSz.2.2.1; have c4_0 := cell_of_row _ _ 0 _ _ _ hSz.2.2.2.1; have c4_1 := cell_of_row _ _ 1 _ _ _ hSz.2.2.2.1; have c4_2 := cell_of_row _ _ 2 _ _ _ hSz.2.2.2.1; have c4_3 := cell_of_row _ _ 3 _ _ _ hSz.2.2.2.1; have c4_4 := cell_of_row _ _ 4 _ _ _ hSz.2.2.2.1; have c4_5 := cell_of_row _ _ 5 _ _ _ hSz.2.2.2.1; have c4_6 := cell_of_row _ _ 6 _ _ _ hSz.2.2.2.1; have c4_7 := cell_of_row _ _ 7 _ _ _ hSz.2.2.2.1; have c5_0 := cell_of_row _ _ 0 _ _ _ hSz.2.2.2.2.1; have c5_1 := cell_of_row _ _ 1 _ _ _ hSz.2.2.2.2.1; have c5_2 := cell_of_row _ _ 2 _ _ _ hSz.2.2.2.2.1; have c6_0 := cell_of_row _ _ 0 _ _ _ hSz.2.2.2.2.2; have c6_1 := cell_of_row _ _ 1 _ _ _ hSz.2.2.2.2.2; have c6_2 := cell_of_row _ _ 2 _ _ _ hSz.2.2.2.2.2; simp at c0_0 c0_1 c0_2 c0_3 c0_4 c0_5 c0_6 c0_7 c1_0 c1_1 c1_2 c1_3 c1_4 c1_5 c1_6 c1_7 c3_0 c3_1 c3_2 c3_3 c3_4 c3_5 c3_6 c3_7 c4_0 c4_1 c4_2 c4_3 c4_4 c4_5 c4_6 c4_7 c5_0 c5_1 c5_2 c6_0 c6_1 c6_2; go_simp; try with_reducible rfl)⟩) hS30c ?_
        go_simp
        refine wpAnyH_ready (rs := [15]) (by kernel_rfl) (by simp) ?_
        refine AllReadyH.cons rfl (fun K hK => ?_) AllReadyH.nil
        go_simp
        go_wp2_with (go_at_call 15; refine (HKP.out _ (⟨al3, cl3, ad3, cd3, an3, cn3, ab3, cb3, ax3, cx3, af3, cf3⟩ : Pl) (⟨al4, cl4, ad4, cd4, an4, cn4, ab4, cb4, ax4, cx4, af4, cf4⟩ : Pl) HF30.out HG30.out).mono ?_; rintro e y31 ⟨rfl, hb31⟩)
        have hr31_0 := (hb31.block _ (lt_heap hr30_0)).trans hr30_0
        have hr31_1 := (hb31.block _ (lt_heap hr30_1)).trans hr30_1
        have hr31_2 := (hb31.block _ (lt_heap hr30_2)).trans hr30_2
        have hr31_3 := (hb31.block _ (lt_heap hr30_3)).trans hr30_3
        have hr31_4 := (hb31.block _ (lt_heap hr30_4)).trans hr30_4
        have hr31_5 := (hb31.block _ (lt_heap hr30_5)).trans hr30_5
        have hr31_6 := (hb31.block _ (lt_heap hr30_6)).trans hr30_6
        have hr31_7 := (hb31.block _ (lt_heap hr30_7)).trans hr30_7
        have HU31 := Lib.hid (HU30.out.trans (hb31.mono HU30.out.size))
        have HF31 := Lib.hid (HF30.out.on hb31)
        have HG31 := Lib.hid (HG30.out.on hb31)
        have HR31 := Lib.hid (HR30.out.on hb31)
        have HD31 := Lib.hid (HD30.out.on hb31)
        have HT31 := Lib.hid (HT30.out.on hb31)
        have hz31 := hb31.size
        refine hK.out _ _ (⟨(hb31.block _ (lt_heap hS30c.1)).trans hS30c.1, (hb31.block _ (lt_heap hS30c.2.1)).trans hS30c.2.1, (hb31.block _ (lt_heap hS30c.2.2.1)).trans hS30c.2.2.1, (hb31.block _ (lt_heap hS30c.2.2.2.1)).trans hS30c.2.2.2.1, (hb31.block _ (lt_heap hS30c.2.2.2.2.1)).trans hS30c.2.2.2.2.1, (hb31.block _ (lt_heap hS30c.2.2.2.2.2)).trans hS30c.2.2.2.2.2⟩) (fun hS31c => ?_)
        clear hK K
        refine wpAnyH_ready (rs := [18]) (by kernel_rfl) (by simp) ?_
        refine AllReadyH.cons rfl (fun K hK => ?_) AllReadyH.nil
        go_simp
        go_wp2_with (go_at_call 16; refine (HKD.out _ (⟨al, cl, ad, cd, an, cn, ab, cb, ax, cx, af, cf⟩ : Pl) (⟨al2, cl2, ad2, cd2, an2, cn2, ab2, cb2, ax2, cx2, af2, cf2⟩ : Pl) (HC.out.at_.on HU31.out) (HC2.out.at_.on HU31.out)).mono ?_; rintro e y32 ⟨rfl, hb32⟩)
        have hr32_0 := (hb32.block _ (lt_heap hr31_0)).trans hr31_0
        have hr32_1 := (hb32.block _ (lt_heap hr31_1)).trans hr31_1
        have hr32_2 := (hb32.block _ (lt_heap hr31_2)).trans hr31_2
        have hr32_3 := (hb32.block _ (lt_heap hr31_3)).trans hr31_3
        have hr32_4 := (hb32.block _ (lt_heap hr31_4)).trans hr31_4
        have hr32_5 := (hb32.block _ (lt_heap hr31_5)).trans hr31_5
        have hr32_6 := (hb32.block _ (lt_heap hr31_6)).trans hr31_6
        have hr32_7 := (hb32.block _ (lt_heap hr31_7)).trans hr31_7
        have HU32 := Lib.hid (HU31.out.trans (hb32.mono HU31.out.size))
        have HF32 := Lib.hid (HF31.out.on hb32)
        have HG32 := Lib.hid (HG31.out.on hb32)
        have HR32 := Lib.hid (HR31.out.on hb32)
        have HD32 := Lib.hid (HD31.out.on hb32)
        have HT32 := Lib.hid (HT31.out.on hb32)
        have hz32 := hb32.size
        refine hK.out _ _ (⟨(hb32.block _ (lt_heap hS31c.1)).trans hS31c.1, (hb32.block _ (lt_heap hS31c.2.1)).trans hS31c.2.1, (hb32.block _ (lt_heap hS31c.2.2.1)).trans hS31c.2.2.1, (hb32.block _ (lt_heap hS31c.2.2.2.1)).trans hS31c.2.2.2.1, (hb32.block _ (lt_heap hS31c.2.2.2.2.1)).trans hS31c.2.2.2.2.1, (hb32.block _ (lt_heap hS31c.2.2.2.2.2)).trans hS31c.2.2.2.2.2⟩) (fun hS32c => ?_)
        clear hK K
        refine wpAnyH_take (i := 19) (v := ?_) rfl (by kernel_rfl) (by kernel_rfl) (by kernel_rfl) (fun _ _ _ h => h) (Or.inl ⟨by kernel_rfl, by (intro wz hSz; go_simp; try with_reducible rfl)⟩) hS32c ?_
        go_simp
        refine wpAnyH_take (i := 20) (v := ?_) rfl (by kernel_rfl) (by kernel_rfl) (by kernel_rfl) (fun _ _ _ h => h) (Or.inl ⟨by kernel_rfl, by (intro wz hSz; go_simp; try with_reducible rfl)⟩) hS32c ?_
        go_simp
        refine wpAnyH_take (i := 21) (v := ?_) rfl (by kernel_rfl) (by kernel_rfl) (by kernel_rfl) (fun _ _ _ h => h) (Or.inl ⟨by kernel_rfl, by (intro wz hSz; go_simp; try with_reducible rfl)⟩) hS32c ?_
        go_simp
        refine wpAnyH_done (by kernel_rfl) ?_ _
        go_wp2
        go_ret
        exact ⟨rfl, HU32.out⟩

theorem walk (f g : Flm) (p q : Pl) (W3 H3 : Int) (am : Option Addr) (nm cm : Nat) (M : Nat → Int) (w : World) (hc : Came w f p) (hc2 : Came w g q) (hm : Rw 3 w am nm M) (hm24 : nm * 24 ≤ 140737488351232) : Calls Try.prog 3 #[.agg (FC f p), .agg (FC g q), .agg #[.int .i64 W3, .int .i64 H3, .slice am nm cm]] w fun e' w' => e' = .returned (.bool true) ∧ Below w.heap.size w w' := by
  obtain ⟨W, H, nl, nd, nn, nb, ns, nf, L, D, N, B, S, F⟩ := f
  obtain ⟨al, cl, ad, cd, an, cn, ab, cb, ax, cx, af, cf⟩ := p
  obtain ⟨W2, H2, nl2, nd2, nn2, nb2, ns2, nf2, L2, D2, N2, B2, S2, F2⟩ := g
  obtain ⟨al2, cl2, ad2, cd2, an2, cn2, ab2, cb2, ax2, cx2, af2, cf2⟩ := q
  by_cases k0 : 5000 < nl
  · exact big_0 W H al ad an ab ax af cl cd cn cb cx cf nl nd nn nb ns nf L D N B S F W2 H2 al2 ad2 an2 ab2 ax2 af2 cl2 cd2 cn2 cb2 cx2 cf2 nl2 nd2 nn2 nb2 ns2 nf2 L2 D2 N2 B2 S2 F2 W3 H3 am nm cm M w hc hc2 hm hm24 k0
  by_cases k1 : 5000 < ns
  · exact big_1 W H al ad an ab ax af cl cd cn cb cx cf nl nd nn nb ns nf L D N B S F W2 H2 al2 ad2 an2 ab2 ax2 af2 cl2 cd2 cn2 cb2 cx2 cf2 nl2 nd2 nn2 nb2 ns2 nf2 L2 D2 N2 B2 S2 F2 W3 H3 am nm cm M w hc hc2 hm hm24 k0 k1
  by_cases k2 : 5000 < nf
  · exact big_2 W H al ad an ab ax af cl cd cn cb cx cf nl nd nn nb ns nf L D N B S F W2 H2 al2 ad2 an2 ab2 ax2 af2 cl2 cd2 cn2 cb2 cx2 cf2 nl2 nd2 nn2 nb2 ns2 nf2 L2 D2 N2 B2 S2 F2 W3 H3 am nm cm M w hc hc2 hm hm24 k0 k1 k2
  by_cases k3 : 5000 < nl2
  · exact big_3 W H al ad an ab ax af cl cd cn cb cx cf nl nd nn nb ns nf L D N B S F W2 H2 al2 ad2 an2 ab2 ax2 af2 cl2 cd2 cn2 cb2 cx2 cf2 nl2 nd2 nn2 nb2 ns2 nf2 L2 D2 N2 B2 S2 F2 W3 H3 am nm cm M w hc hc2 hm hm24 k0 k1 k2 k3
  by_cases k4 : 5000 < ns2
  · exact big_4 W H al ad an ab ax af cl cd cn cb cx cf nl nd nn nb ns nf L D N B S F W2 H2 al2 ad2 an2 ab2 ax2 af2 cl2 cd2 cn2 cb2 cx2 cf2 nl2 nd2 nn2 nb2 ns2 nf2 L2 D2 N2 B2 S2 F2 W3 H3 am nm cm M w hc hc2 hm hm24 k0 k1 k2 k3 k4
  by_cases k5 : 5000 < nf2
  · exact big_5 W H al ad an ab ax af cl cd cn cb cx cf nl nd nn nb ns nf L D N B S F W2 H2 al2 ad2 an2 ab2 ax2 af2 cl2 cd2 cn2 cb2 cx2 cf2 nl2 nd2 nn2 nb2 ns2 nf2 L2 D2 N2 B2 S2 F2 W3 H3 am nm cm M w hc hc2 hm hm24 k0 k1 k2 k3 k4 k5
  by_cases k6 : 5000 < nm
  · exact big_6 W H al ad an ab ax af cl cd cn cb cx cf nl nd nn nb ns nf L D N B S F W2 H2 al2 ad2 an2 ab2 ax2 af2 cl2 cd2 cn2 cb2 cx2 cf2 nl2 nd2 nn2 nb2 ns2 nf2 L2 D2 N2 B2 S2 F2 W3 H3 am nm cm M w hc hc2 hm hm24 k0 k1 k2 k3 k4 k5 k6
  exact go_on W H al ad an ab ax af cl cd cn cb cx cf nl nd nn nb ns nf L D N B S F W2 H2 al2 ad2 an2 ab2 ax2 af2 cl2 cd2 cn2 cb2 cx2 cf2 nl2 nd2 nn2 nb2 ns2 nf2 L2 D2 N2 B2 S2 F2 W3 H3 am nm cm M w hc hc2 hm hm24 k0 k1 k2 k3 k4 k5 k6 (bW (⟨W, H, nl, nd, nn, nb, ns, nf, L, D, N, B, S, F⟩ : Flm) (⟨W2, H2, nl2, nd2, nn2, nb2, ns2, nf2, L2, D2, N2, B2, S2, F2⟩ : Flm) W3 H3 nm) (bH (⟨W, H, nl, nd, nn, nb, ns, nf, L, D, N, B, S, F⟩ : Flm) (⟨W2, H2, nl2, nd2, nn2, nb2, ns2, nf2, L2, D2, N2, B2, S2, F2⟩ : Flm) W3 H3 nm) (bE (⟨W, H, nl, nd, nn, nb, ns, nf, L, D, N, B, S, F⟩ : Flm) (⟨W2, H2, nl2, nd2, nn2, nb2, ns2, nf2, L2, D2, N2, B2, S2, F2⟩ : Flm) W3 H3 nm) (kK (⟨W, H, nl, nd, nn, nb, ns, nf, L, D, N, B, S, F⟩ : Flm) (⟨W2, H2, nl2, nd2, nn2, nb2, ns2, nf2, L2, D2, N2, B2, S2, F2⟩ : Flm)) (bN (⟨W, H, nl, nd, nn, nb, ns, nf, L, D, N, B, S, F⟩ : Flm) (⟨W2, H2, nl2, nd2, nn2, nb2, ns2, nf2, L2, D2, N2, B2, S2, F2⟩ : Flm) W3 H3 nm) (blend (⟨W, H, nl, nd, nn, nb, ns, nf, L, D, N, B, S, F⟩ : Flm) (⟨W2, H2, nl2, nd2, nn2, nb2, ns2, nf2, L2, D2, N2, B2, S2, F2⟩ : Flm) M) (bN_le _ _ _ _ _) (fun W' p q am cm h1 h2 h3 => blend_all _ _ p q W3 H3 am nm cm M W' h1 h2 h3) (fun W' p q am cm h1 h2 h3 => dblend_all _ _ p q W3 H3 am nm cm M W' h1 h2 h3) (fun W' p q h1 h2 => kept_all _ _ p q W' h1 h2) (fun W' p q h1 h2 => dkept_all _ _ p q W' h1 h2)

end Go.Proofs.Ytgpbnpnnbipfpaa.warpBlendsW
