/- WarpBetween: the walk. -/
import Derived.Test.YtgpbnpnnbipfpaaE52
import Derived.Test.YtgpbnpnnbipfpaaK1
namespace Go.Proofs.Ytgpbnpnnbipfpaa.warpBetweenW
open Go Go.RowKit Go.Proofs.Ytgpbnpnnbipfpaa Go.Proofs.Ytgpbnpnnbipfpaa.Rp Go.Proofs.Ytgpbnpnnbipfpaa.Re Go.Proofs.Ytgpbnpnnbipfpaa.Au Go.Proofs.Ytgpbnpnnbipfpaa.Jw Go.Proofs.Ytgpbnpnnbipfpaa.Fm
set_option linter.unusedVariables false
set_option linter.unusedSimpArgs false

set_option maxHeartbeats 16000000 in
set_option maxRecDepth 100000 in
theorem go_on (W H : Int) (al ad an ab ax af : Option Addr) (cl cd cn cb cx cf nl nd nn nb ns nf : Nat) (L D N B S F : Nat → Int) (W2 H2 : Int) (al2 ad2 an2 ab2 ax2 af2 : Option Addr) (cl2 cd2 cn2 cb2 cx2 cf2 nl2 nd2 nn2 nb2 ns2 nf2 : Nat) (L2 D2 N2 B2 S2 F2 : Nat → Int) (w : World) (hc : Came w (⟨W, H, nl, nd, nn, nb, ns, nf, L, D, N, B, S, F⟩ : Flm) (⟨al, cl, ad, cd, an, cn, ab, cb, ax, cx, af, cf⟩ : Pl)) (hc2 : Came w (⟨W2, H2, nl2, nd2, nn2, nb2, ns2, nf2, L2, D2, N2, B2, S2, F2⟩ : Flm) (⟨al2, cl2, ad2, cd2, an2, cn2, ab2, cb2, ax2, cx2, af2, cf2⟩ : Pl)) (k0 : ¬ 5000 < nl) (k1 : ¬ 5000 < ns) (k2 : ¬ 5000 < nf) (k3 : ¬ 5000 < nl2) (k4 : ¬ 5000 < ns2) (k5 : ¬ 5000 < nf2) (BW BH BE : Int) (BN : Nat) (LB : Nat → Int) (hLB : LB = blend (⟨W, H, nl, nd, nn, nb, ns, nf, L, D, N, B, S, F⟩ : Flm) (⟨W2, H2, nl2, nd2, nn2, nb2, ns2, nf2, L2, D2, N2, B2, S2, F2⟩ : Flm) L2) (hno : ¬ (okF (⟨W, H, nl, nd, nn, nb, ns, nf, L, D, N, B, S, F⟩ : Flm) ∧ okF (⟨W2, H2, nl2, nd2, nn2, nb2, ns2, nf2, L2, D2, N2, B2, S2, F2⟩ : Flm)) → BE = 1) (hyes : okF (⟨W, H, nl, nd, nn, nb, ns, nf, L, D, N, B, S, F⟩ : Flm) ∧ okF (⟨W2, H2, nl2, nd2, nn2, nb2, ns2, nf2, L2, D2, N2, B2, S2, F2⟩ : Flm) → BE = 0 ∧ BN = nl ∧ BW = W ∧ BH = H) (hBl : ∀ (W' : World) (p q : Pl) (am : Option Addr) (cm : Nat), FAt W' (⟨W, H, nl, nd, nn, nb, ns, nf, L, D, N, B, S, F⟩ : Flm) p → FAt W' (⟨W2, H2, nl2, nd2, nn2, nb2, ns2, nf2, L2, D2, N2, B2, S2, F2⟩ : Flm) q → Rw 3 W' am nl2 L2 → Calls Try.prog 8 #[.agg (FC (⟨W, H, nl, nd, nn, nb, ns, nf, L, D, N, B, S, F⟩ : Flm) p), .agg (FC (⟨W2, H2, nl2, nd2, nn2, nb2, ns2, nf2, L2, D2, N2, B2, S2, F2⟩ : Flm) q), .agg #[.int .i64 W2, .int .i64 H2, .slice am nl2 cm]] W' fun e' w' => (∃ a c, e' = .returned (.tuple #[.agg #[.int .i64 BW, .int .i64 BH, .slice a BN c], .int .i64 BE]) ∧ RwP (fun b => W'.heap.size ≤ b) 3 w' a BN LB) ∧ Below W'.heap.size W' w') : Calls Try.prog 4 #[.agg #[.int .i64 W, .int .i64 H, .slice al nl cl, .slice ad nd cd, .slice an nn cn, .slice ab nb cb, .slice ax ns cx, .slice af nf cf], .agg #[.int .i64 W2, .int .i64 H2, .slice al2 nl2 cl2, .slice ad2 nd2 cd2, .slice an2 nn2 cn2, .slice ab2 nb2 cb2, .slice ax2 ns2 cx2, .slice af2 nf2 cf2]] w fun e' w' => e' = .returned (.bool true) ∧ Below w.heap.size w w' := by
 have HC := Lib.hid hc
 have HC2 := Lib.hid hc2
 clear hc hc2
 have HBL := Lib.hid hBl
 have HLB := Lib.hid hLB
 have HNO := Lib.hid hno
 have HYES := Lib.hid hyes
 clear hBl hLB hno hyes
 go_enter Try.func4, Try.ntmps4
 go_upto_region 1 with fail
 have hR := Au.rows2 w (.cells #[.int .i64 W, .int .i64 H, .slice al nl cl, .slice ad nd cd, .slice an nn cn, .slice ab nb cb, .slice ax ns cx, .slice af nf cf] 29) (.cells #[.int .i64 W2, .int .i64 H2, .slice al2 nl2 cl2, .slice ad2 nd2 cd2, .slice an2 nn2 cn2, .slice ab2 nb2 cb2, .slice ax2 ns2 cx2, .slice af2 nf2 cf2] 29)
 have HUx := Ve.below_n2 w (.cells #[.int .i64 W, .int .i64 H, .slice al nl cl, .slice ad nd cd, .slice an nn cn, .slice ab nb cb, .slice ax ns cx, .slice af nf cf] 29) (.cells #[.int .i64 W2, .int .i64 H2, .slice al2 nl2 cl2, .slice ad2 nd2 cd2, .slice an2 nn2 cn2, .slice ab2 nb2 cb2, .slice ax2 ns2 cx2, .slice af2 nf2 cf2] 29)
 obtain ⟨y0, hy0⟩ : ∃ y0, (w.alloc (.cells #[.int .i64 W, .int .i64 H, .slice al nl cl, .slice ad nd cd, .slice an nn cn, .slice ab nb cb, .slice ax ns cx, .slice af nf cf] 29)).alloc (.cells #[.int .i64 W2, .int .i64 H2, .slice al2 nl2 cl2, .slice ad2 nd2 cd2, .slice an2 nn2 cn2, .slice ab2 nb2 cb2, .slice ax2 ns2 cx2, .slice af2 nf2 cf2] 29) = y0 := ⟨_, rfl⟩
 rw [hy0] at hR HUx ⊢
 clear hy0
 have HU0 := Lib.hid HUx
 clear HUx
 obtain ⟨hr0_0, hr0_1⟩ := hR
 have c0_0 := cell_of_row _ _ 0 _ _ _ hr0_0
 have c0_1 := cell_of_row _ _ 1 _ _ _ hr0_0
 have c0_2 := cell_of_row _ _ 2 _ _ _ hr0_0
 have c0_3 := cell_of_row _ _ 3 _ _ _ hr0_0
 have c0_4 := cell_of_row _ _ 4 _ _ _ hr0_0
 have c0_5 := cell_of_row _ _ 5 _ _ _ hr0_0
 have c0_6 := cell_of_row _ _ 6 _ _ _ hr0_0
 have c0_7 := cell_of_row _ _ 7 _ _ _ hr0_0
 have c1_0 := cell_of_row _ _ 0 _ _ _ hr0_1
 have c1_1 := cell_of_row _ _ 1 _ _ _ hr0_1
 have c1_2 := cell_of_row _ _ 2 _ _ _ hr0_1
 have c1_3 := cell_of_row _ _ 3 _ _ _ hr0_1
 have c1_4 := cell_of_row _ _ 4 _ _ _ hr0_1
 have c1_5 := cell_of_row _ _ 5 _ _ _ hr0_1
 have c1_6 := cell_of_row _ _ 6 _ _ _ hr0_1
 have c1_7 := cell_of_row _ _ 7 _ _ _ hr0_1
 simp at c0_0 c0_1 c0_2 c0_3 c0_4 c0_5 c0_6 c0_7 c1_0 c1_1 c1_2 c1_3 c1_4 c1_5 c1_6 c1_7
 go_wp2_with fail
 clear c0_0 c0_1 c0_2 c0_3 c0_4 c0_5 c0_6 c0_7 c1_0 c1_1 c1_2 c1_3 c1_4 c1_5 c1_6 c1_7
 have hb1 := Ve.below_n1 y0 (.cells #[.int .i64 W, .int .i64 H, .slice al nl cl, .slice ad nd cd, .slice an nn cn, .slice ab nb cb, .slice ax ns cx, .slice af nf cf, .int .i64 W2, .int .i64 H2, .slice al2 nl2 cl2, .slice ad2 nd2 cd2, .slice an2 nn2 cn2, .slice ab2 nb2 cb2, .slice ax2 ns2 cx2, .slice af2 nf2 cf2] 29)
 have hN := heap_alloc_last y0 (.cells #[.int .i64 W, .int .i64 H, .slice al nl cl, .slice ad nd cd, .slice an nn cn, .slice ab nb cb, .slice ax ns cx, .slice af nf cf, .int .i64 W2, .int .i64 H2, .slice al2 nl2 cl2, .slice ad2 nd2 cd2, .slice an2 nn2 cn2, .slice ab2 nb2 cb2, .slice ax2 ns2 cx2, .slice af2 nf2 cf2] 29)
 obtain ⟨y1, hy1⟩ : ∃ y, y0.alloc (.cells #[.int .i64 W, .int .i64 H, .slice al nl cl, .slice ad nd cd, .slice an nn cn, .slice ab nb cb, .slice ax ns cx, .slice af nf cf, .int .i64 W2, .int .i64 H2, .slice al2 nl2 cl2, .slice ad2 nd2 cd2, .slice an2 nn2 cn2, .slice ab2 nb2 cb2, .slice ax2 ns2 cx2, .slice af2 nf2 cf2] 29) = y := ⟨_, rfl⟩
 have hs1 : y1.heap.size = y0.heap.size + 1 := by rw [← hy1]; simp
 rw [hy1] at hb1 hN ⊢
 clear hy1
 have hl1_0 := lt_heap hr0_0
 have hl1_1 := lt_heap hr0_1
 have hr1_0 := (hb1.block _ (lt_heap hr0_0)).trans hr0_0
 have hr1_1 := (hb1.block _ (lt_heap hr0_1)).trans hr0_1
 have HU1 := Lib.hid (HU0.out.trans (hb1.mono HU0.out.size))
 clear hr0_0 hr0_1 HU0
 have hr1_2 := hN
 clear hN
 refine (light_6 W H W2 H2 al ad an ab ax af al2 ad2 an2 ab2 ax2 af2 cl cd cn cb cx cf nl nd nn nb ns nf cl2 cd2 cn2 cb2 cx2 cf2 nl2 nd2 nn2 nb2 ns2 nf2 _ _ hr1_2 k0 k1 k2 k3 k4 k5).mono ?_
 rintro e y2 ⟨rfl, hb2⟩
 have hr2_0 := (hb2.block _ (lt_heap hr1_0)).trans hr1_0
 have hr2_1 := (hb2.block _ (lt_heap hr1_1)).trans hr1_1
 have hr2_2 := (hb2.block _ (lt_heap hr1_2)).trans hr1_2
 have HU2 := Lib.hid (HU1.out.trans (hb2.mono HU1.out.size))
 clear hr1_0 hr1_1 hr1_2 HU1
 have c0_0 := cell_of_row _ _ 0 _ _ _ hr2_0
 have c0_1 := cell_of_row _ _ 1 _ _ _ hr2_0
 have c0_2 := cell_of_row _ _ 2 _ _ _ hr2_0
 have c0_3 := cell_of_row _ _ 3 _ _ _ hr2_0
 have c0_4 := cell_of_row _ _ 4 _ _ _ hr2_0
 have c0_5 := cell_of_row _ _ 5 _ _ _ hr2_0
 have c0_6 := cell_of_row _ _ 6 _ _ _ hr2_0
 have c0_7 := cell_of_row _ _ 7 _ _ _ hr2_0
 simp at c0_0 c0_1 c0_2 c0_3 c0_4 c0_5 c0_6 c0_7
 go_wp2_with fail
 refine (held_film (⟨W, H, nl, nd, nn, nb, ns, nf, L, D, N, B, S, F⟩ : Flm) (⟨al, cl, ad, cd, an, cn, ab, cb, ax, cx, af, cf⟩ : Pl) _ (HC.out.at_.on HU2.out) HC.out.bl HC.out.bd HC.out.bn HC.out.bb).mono ?_
 rintro e y3 ⟨t1, rfl, hst1, hb3⟩
 clear c0_0 c0_1 c0_2 c0_3 c0_4 c0_5 c0_6 c0_7
 have hr3_0 := (hb3.block _ (lt_heap hr2_0)).trans hr2_0
 have hr3_1 := (hb3.block _ (lt_heap hr2_1)).trans hr2_1
 have hr3_2 := (hb3.block _ (lt_heap hr2_2)).trans hr2_2
 have HU3 := Lib.hid (HU2.out.trans (hb3.mono HU2.out.size))
 clear hr2_0 hr2_1 hr2_2 HU2
 have HS_t1 := Lib.hid hst1
 clear hst1
 cases t1
 case false =>
  go_wp2_with fail
  refine (wawake_any _).mono ?_
  rintro e y4 ⟨rfl, hb4⟩
  have hr4_0 := (hb4.block _ (lt_heap hr3_0)).trans hr3_0
  have hr4_1 := (hb4.block _ (lt_heap hr3_1)).trans hr3_1
  have hr4_2 := (hb4.block _ (lt_heap hr3_2)).trans hr3_2
  have HU4 := Lib.hid (HU3.out.trans (hb4.mono HU3.out.size))
  clear hr3_0 hr3_1 hr3_2 HU3
  go_wp2
  go_ret
  exact ⟨rfl, HU4.out⟩
 case true =>
  have c1_0 := cell_of_row _ _ 0 _ _ _ hr3_1
  have c1_1 := cell_of_row _ _ 1 _ _ _ hr3_1
  have c1_2 := cell_of_row _ _ 2 _ _ _ hr3_1
  have c1_3 := cell_of_row _ _ 3 _ _ _ hr3_1
  have c1_4 := cell_of_row _ _ 4 _ _ _ hr3_1
  have c1_5 := cell_of_row _ _ 5 _ _ _ hr3_1
  have c1_6 := cell_of_row _ _ 6 _ _ _ hr3_1
  have c1_7 := cell_of_row _ _ 7 _ _ _ hr3_1
  simp at c1_0 c1_1 c1_2 c1_3 c1_4 c1_5 c1_6 c1_7
  go_wp2_with fail
  refine (held_film (⟨W2, H2, nl2, nd2, nn2, nb2, ns2, nf2, L2, D2, N2, B2, S2, F2⟩ : Flm) (⟨al2, cl2, ad2, cd2, an2, cn2, ab2, cb2, ax2, cx2, af2, cf2⟩ : Pl) _ (HC2.out.at_.on HU3.out) HC2.out.bl HC2.out.bd HC2.out.bn HC2.out.bb).mono ?_
  rintro e y4 ⟨t2, rfl, hst2, hb4⟩
  clear c1_0 c1_1 c1_2 c1_3 c1_4 c1_5 c1_6 c1_7
  have hr4_0 := (hb4.block _ (lt_heap hr3_0)).trans hr3_0
  have hr4_1 := (hb4.block _ (lt_heap hr3_1)).trans hr3_1
  have hr4_2 := (hb4.block _ (lt_heap hr3_2)).trans hr3_2
  have HU4 := Lib.hid (HU3.out.trans (hb4.mono HU3.out.size))
  clear hr3_0 hr3_1 hr3_2 HU3
  have HS_t2 := Lib.hid hst2
  clear hst2
  cases t2
  case false =>
   go_wp2_with fail
   refine (wawake_any _).mono ?_
   rintro e y5 ⟨rfl, hb5⟩
   have hr5_0 := (hb5.block _ (lt_heap hr4_0)).trans hr4_0
   have hr5_1 := (hb5.block _ (lt_heap hr4_1)).trans hr4_1
   have hr5_2 := (hb5.block _ (lt_heap hr4_2)).trans hr4_2
   have HU5 := Lib.hid (HU4.out.trans (hb5.mono HU4.out.size))
   clear hr4_0 hr4_1 hr4_2 HU4
   go_wp2
   go_ret
   exact ⟨rfl, HU5.out⟩
  case true =>
   have HSP1 := Lib.hid (HS_t1.out (by trivial))
   have HSP2 := Lib.hid (HS_t2.out (by trivial))
   clear HS_t1 HS_t2
   go_upto_region 3 with fail
   go_cut [5, 6] (fun s7 s8 wx => ∃ (q1 q2 : Nat) (P1 P2 : Pl), s7 = .pointer (some ⟨q1, 0, none⟩) ∧ s8 = .pointer (some ⟨q2, 0, none⟩) ∧ wx.heap[q1]? = some (.cells (FC (⟨W, H, nl, nd, nn, nb, ns, nf, L, D, N, B, S, F⟩ : Flm) P1) 40 (0, 0)) ∧ wx.heap[q2]? = some (.cells (FC (⟨W2, H2, nl2, nd2, nn2, nb2, ns2, nf2, L2, D2, N2, B2, S2, F2⟩ : Flm) P2) 40 (0, 0)) ∧ wx.heap[w.heap.size]? = some (.cells #[.int .i64 W, .int .i64 H, .slice al nl cl, .slice ad nd cd, .slice an nn cn, .slice ab nb cb, .slice ax ns cx, .slice af nf cf] 29 (0, 0)) ∧ wx.heap[w.heap.size + 1]? = some (.cells #[.int .i64 W2, .int .i64 H2, .slice al2 nl2 cl2, .slice ad2 nd2 cd2, .slice an2 nn2 cn2, .slice ab2 nb2 cb2, .slice ax2 ns2 cx2, .slice af2 nf2 cf2] 29 (0, 0)) ∧ Hid (FAt wx (⟨W, H, nl, nd, nn, nb, ns, nf, L, D, N, B, S, F⟩ : Flm) P1) ∧ Hid (FAt wx (⟨W2, H2, nl2, nd2, nn2, nb2, ns2, nf2, L2, D2, N2, B2, S2, F2⟩ : Flm) P2) ∧ Hid (Below w.heap.size w wx))
   case first =>
    refine wp_region_held_drew (S := fun y => y.heap[w.heap.size]? = some (.cells #[.int .i64 W, .int .i64 H, .slice al nl cl, .slice ad nd cd, .slice an nn cn, .slice ab nb cb, .slice ax ns cx, .slice af nf cf] 29 (0, 0)) ∧ y.heap[w.heap.size + 1]? = some (.cells #[.int .i64 W2, .int .i64 H2, .slice al2 nl2 cl2, .slice ad2 nd2 cd2, .slice an2 nn2 cn2, .slice ab2 nb2 cb2, .slice ax2 ns2 cx2, .slice af2 nf2 cf2] 29 (0, 0))) (by kernel_rfl) (⟨hr4_0, hr4_1⟩) (fun hS0 => ?_)
    obtain ⟨y5, hy5⟩ : ∃ y, y4.drew = y := ⟨_, rfl⟩
    have HU5 := Lib.hid (show Below w.heap.size w y5 by rw [← hy5]; exact HU4.out.drew)
    have hr5_0 : y5.heap[w.heap.size]? = some (.cells #[.int .i64 W, .int .i64 H, .slice al nl cl, .slice ad nd cd, .slice an nn cn, .slice ab nb cb, .slice ax ns cx, .slice af nf cf] 29 (0, 0)) := by rw [← hy5]; exact hr4_0
    have hr5_1 : y5.heap[w.heap.size + 1]? = some (.cells #[.int .i64 W2, .int .i64 H2, .slice al2 nl2 cl2, .slice ad2 nd2 cd2, .slice an2 nn2 cn2, .slice ab2 nb2 cb2, .slice ax2 ns2 cx2, .slice af2 nf2 cf2] 29 (0, 0)) := by rw [← hy5]; exact hr4_1
    have hz5 : y4.heap.size ≤ y5.heap.size := by rw [← hy5]; exact Nat.le_refl _
    rw [hy5] at hS0 ⊢
    clear hy5
    refine wpAnyH_take (i := 0) (v := ?_) rfl (by kernel_rfl) (by kernel_rfl) (by kernel_rfl) (fun _ _ _ h => h) (Or.inl ⟨by kernel_rfl, by (intro wz hSz; have c0_0 := cell_of_row _ _ 0 _ _ _ hSz.1; have c0_1 := cell_of_row _ _ 1 _ _ _ hSz.1; have c0_2 := cell_of_row _ _ 2 _ _ _ hSz.1; have c0_3 := cell_of_row _ _ 3 _ _ _ hSz.1; have c0_4 := cell_of_row _ _ 4 _ _ _ hSz.1; have c0_5 := cell_of_row _ _ 5 _ _ _ hSz.1; have c0_6 := cell_of_row _ _ 6 _ _ _ hSz.1; have c0_7 := cell_of_row _ _ 7 _ _ _ hSz.1; have c1_0 := cell_of_row _ _ 0 _ _ _ hSz.2; have c1_1 := cell_of_row _ _ 1 _ _ _ hSz.2; have c1_2 := cell_of_row _ _ 2 _ _ _ hSz.2; have c1_3 := cell_of_row _ _ 3 _ _ _ hSz.2; have c1_4 := cell_of_row _ _ 4 _ _ _ hSz.2; have c1_5 := cell_of_row _ _ 5 _ _ _ hSz.2; have c1_6 := cell_of_row _ _ 6 _ _ _ hSz.2; have c1_7 := cell_of_row _ _ 7 _ _ _ hSz.2; simp at c0_0 c0_1 c0_2 c0_3 c0_4 c0_5 c0_6 c0_7 c1_0 c1_1 c1_2 c1_3 c1_4 c1_5 c1_6 c1_7; go_simp; try with_reducible rfl)⟩) hS0 ?_
    go_simp
    refine wpAnyH_take (i := 2) (v := ?_) rfl (by kernel_rfl) (by kernel_rfl) (by kernel_rfl) (fun _ _ _ h => h) (Or.inl ⟨by kernel_rfl, by (intro wz hSz; have c0_0 := cell_of_row _ _ 0 _ _ _ hSz.1; have c0_1 := cell_of_row _ _ 1 _ _ _ hSz.1; have c0_2 := cell_of_row _ _ 2 _ _ _ hSz.1; have c0_3 := cell_of_row _ _ 3 _ _ _ hSz.1; have c0_4 := cell_of_row _ _ 4 _ _ _ hSz.1; have c0_5 := cell_of_row _ _ 5 _ _ _ hSz.1; have c0_6 := cell_of_row _ _ 6 _ _ _ hSz.1; have c0_7 := cell_of_row _ _ 7 _ _ _ hSz.1; have c1_0 := cell_of_row _ _ 0 _ _ _ hSz.2; have c1_1 := cell_of_row _ _ 1 _ _ _ hSz.2; have c1_2 := cell_of_row _ _ 2 _ _ _ hSz.2; have c1_3 := cell_of_row _ _ 3 _ _ _ hSz.2; have c1_4 := cell_of_row _ _ 4 _ _ _ hSz.2; have c1_5 := cell_of_row _ _ 5 _ _ _ hSz.2; have c1_6 := cell_of_row _ _ 6 _ _ _ hSz.2; have c1_7 := cell_of_row _ _ 7 _ _ _ hSz.2; simp at c0_0 c0_1 c0_2 c0_3 c0_4 c0_5 c0_6 c0_7 c1_0 c1_1 c1_2 c1_3 c1_4 c1_5 c1_6 c1_7; go_simp; try with_reducible rfl)⟩) hS0 ?_
    go_simp
    refine wpAnyH_ready (rs := [1, 4, 5]) (by kernel_rfl) (by simp) ?_
    refine AllReadyH.cons rfl (fun K hK => ?_) (AllReadyH.cons rfl (fun K hK => ?_) (AllReadyH.cons rfl (fun K hK => ?_) AllReadyH.nil))
    ·
     skip
     go_simp
     go_wp2_with (go_at_call 7; refine (to_film_q (⟨W, H, nl, nd, nn, nb, ns, nf, L, D, N, B, S, F⟩ : Flm) (⟨al, cl, ad, cd, an, cn, ab, cb, ax, cx, af, cf⟩ : Pl) _ (HC.out.at_.on HU5.out) HC.out.bl HC.out.bd HC.out.bn HC.out.bb HC.out.bs HC.out.bf HC.out.ks HC.out.kf).mono ?_; rintro e y6 ⟨⟨⟨al3, cl3, ad3, cd3, an3, cn3, ab3, cb3, ax3, cx3, af3, cf3⟩, rfl, hq1⟩, hb6⟩)
     have hr6_0 := (hb6.block _ (lt_heap hr5_0)).trans hr5_0
     have hr6_1 := (hb6.block _ (lt_heap hr5_1)).trans hr5_1
     have HU6 := Lib.hid (HU5.out.trans (hb6.mono HU5.out.size))
     have hz6 := hb6.size
     have HQA6 := Lib.hid (hq1.lt)
     refine hK.out _ _ (⟨(hb6.block _ (lt_heap hS0.1)).trans hS0.1, (hb6.block _ (lt_heap hS0.2)).trans hS0.2⟩) (fun hS6c => ?_)
     clear hK K
     refine wpAnyH_ready (rs := [3, 4, 5]) (by kernel_rfl) (by simp) ?_
     refine AllReadyH.cons rfl (fun K hK => ?_) (AllReadyH.cons rfl (fun K hK => ?_) (AllReadyH.cons rfl (fun K hK => ?_) AllReadyH.nil))
     ·
      skip
      go_simp
      go_wp2_with (go_at_call 7; refine (to_film_q (⟨W2, H2, nl2, nd2, nn2, nb2, ns2, nf2, L2, D2, N2, B2, S2, F2⟩ : Flm) (⟨al2, cl2, ad2, cd2, an2, cn2, ab2, cb2, ax2, cx2, af2, cf2⟩ : Pl) _ (HC2.out.at_.on HU6.out) HC2.out.bl HC2.out.bd HC2.out.bn HC2.out.bb HC2.out.bs HC2.out.bf HC2.out.ks HC2.out.kf).mono ?_; rintro e y7 ⟨⟨⟨al4, cl4, ad4, cd4, an4, cn4, ab4, cb4, ax4, cx4, af4, cf4⟩, rfl, hq2⟩, hb7⟩)
      have hr7_0 := (hb7.block _ (lt_heap hr6_0)).trans hr6_0
      have hr7_1 := (hb7.block _ (lt_heap hr6_1)).trans hr6_1
      have HU7 := Lib.hid (HU6.out.trans (hb7.mono HU6.out.size))
      have HQA7 := Lib.hid (HQA6.out.below hb7)
      have hz7 := hb7.size
      have HQB7 := Lib.hid (hq2.lt)
      refine hK.out _ _ (⟨(hb7.block _ (lt_heap hS6c.1)).trans hS6c.1, (hb7.block _ (lt_heap hS6c.2)).trans hS6c.2⟩) (fun hS7c => ?_)
      clear hK K
      refine wpAnyH_ready (rs := [4, 5]) (by kernel_rfl) (by simp) ?_
      refine AllReadyH.cons rfl (fun K hK => ?_) (AllReadyH.cons rfl (fun K hK => ?_) AllReadyH.nil)
      ·
       skip
       go_simp
       have hb8 := Ve.below_n1 y7 (.cells #[.int .i64 0, .int .i64 0, .slice none 0 0, .slice none 0 0, .slice none 0 0, .slice none 0 0, .slice none 0 0, .slice none 0 0] 40)
       have hN := heap_alloc_last y7 (.cells #[.int .i64 0, .int .i64 0, .slice none 0 0, .slice none 0 0, .slice none 0 0, .slice none 0 0, .slice none 0 0, .slice none 0 0] 40)
       obtain ⟨y8, hy8⟩ : ∃ y, y7.alloc (.cells #[.int .i64 0, .int .i64 0, .slice none 0 0, .slice none 0 0, .slice none 0 0, .slice none 0 0, .slice none 0 0, .slice none 0 0] 40) = y := ⟨_, rfl⟩
       rw [hy8] at hb8 hN ⊢
       clear hy8
       have hl8_0 := lt_heap hr7_0
       have hr8_0 := (hb8.block _ (lt_heap hr7_0)).trans hr7_0
       have hl8_1 := lt_heap hr7_1
       have hr8_1 := (hb8.block _ (lt_heap hr7_1)).trans hr7_1
       have hr8_2 := hN
       clear hN
       have HU8 := Lib.hid (HU7.out.trans (hb8.mono HU7.out.size))
       have HQA8 := Lib.hid (HQA7.out.below hb8)
       have HQB8 := Lib.hid (HQB7.out.below hb8)
       have hz8 := lt_heap hr8_2
       refine hK.out _ _ (⟨(hb8.block _ (lt_heap hS7c.1)).trans hS7c.1, (hb8.block _ (lt_heap hS7c.2)).trans hS7c.2⟩) (fun hS8a => ?_)
       clear hK K
       refine wpAnyH_ready (rs := [5]) (by kernel_rfl) (by simp) ?_
       refine AllReadyH.cons rfl (fun K hK => ?_) AllReadyH.nil
       go_simp
       have hb9 := Ve.below_n1 y8 (.cells #[.int .i64 0, .int .i64 0, .slice none 0 0, .slice none 0 0, .slice none 0 0, .slice none 0 0, .slice none 0 0, .slice none 0 0] 40)
       have hN := heap_alloc_last y8 (.cells #[.int .i64 0, .int .i64 0, .slice none 0 0, .slice none 0 0, .slice none 0 0, .slice none 0 0, .slice none 0 0, .slice none 0 0] 40)
       obtain ⟨y9, hy9⟩ : ∃ y, y8.alloc (.cells #[.int .i64 0, .int .i64 0, .slice none 0 0, .slice none 0 0, .slice none 0 0, .slice none 0 0, .slice none 0 0, .slice none 0 0] 40) = y := ⟨_, rfl⟩
       rw [hy9] at hb9 hN ⊢
       clear hy9
       have hl9_0 := lt_heap hr8_0
       have hr9_0 := (hb9.block _ (lt_heap hr8_0)).trans hr8_0
       have hl9_1 := lt_heap hr8_1
       have hr9_1 := (hb9.block _ (lt_heap hr8_1)).trans hr8_1
       have hl9_2 := lt_heap hr8_2
       have hr9_2 := (hb9.block _ (lt_heap hr8_2)).trans hr8_2
       have hr9_3 := hN
       clear hN
       have HU9 := Lib.hid (HU8.out.trans (hb9.mono HU8.out.size))
       have HQA9 := Lib.hid (HQA8.out.below hb9)
       have HQB9 := Lib.hid (HQB8.out.below hb9)
       have hz9 := lt_heap hr9_3
       refine hK.out _ _ (⟨(hb9.block _ (lt_heap hS8a.1)).trans hS8a.1, (hb9.block _ (lt_heap hS8a.2)).trans hS8a.2⟩) (fun hS9a => ?_)
       clear hK K
       refine wpAnyH_ready (rs := [6]) (by kernel_rfl) (by simp) ?_
       refine AllReadyH.cons rfl (fun K hK => ?_) AllReadyH.nil
       refine step_store_row rfl 40 (.tmp 5) (.tmp 32) rfl #[.int .i64 0, .int .i64 0, .slice none 0 0, .slice none 0 0, .slice none 0 0, .slice none 0 0, .slice none 0 0, .slice none 0 0] #[.int .i64 W, .int .i64 H, .slice al3 nl cl3, .slice ad3 nd cd3, .slice an3 nn cn3, .slice ab3 nb cb3, .slice ax3 ns cx3, .slice af3 nf cf3] _ 40 hr9_2 rfl (by first | rfl | (go_simp; done) | (go_simp; rfl)) (by kernel_rfl) rfl (by simp [Value.oneCell']) ?_
       have hN := setRow_heap _ (y7.heap.size) _ #[.int .i64 W, .int .i64 H, .slice al3 nl cl3, .slice ad3 nd cd3, .slice an3 nn cn3, .slice ab3 nb cb3, .slice ax3 ns cx3, .slice af3 nf cf3] _ _ hr9_2
       have hsz := HU9.out.size
       have HUx := below_setRow (g := y7.heap.size) HU9.out (by first | omega | (simp at *; omega)) #[.int .i64 W, .int .i64 H, .slice al3 nl cl3, .slice ad3 nd cd3, .slice an3 nn cn3, .slice ab3 nb cb3, .slice ax3 ns cx3, .slice af3 nf cf3]
       obtain ⟨y10, hy10⟩ : ∃ y, y9.setRow (y7.heap.size) #[.int .i64 W, .int .i64 H, .slice al3 nl cl3, .slice ad3 nd cd3, .slice an3 nn cn3, .slice ab3 nb cb3, .slice ax3 ns cx3, .slice af3 nf cf3] = y := ⟨_, rfl⟩
       have hO : ∀ k, k ≠ y7.heap.size → y10.heap[k]? = y9.heap[k]? := fun k hk => by rw [← hy10]; exact setRow_other _ _ _ _ hk
       rw [hy10] at hN HUx ⊢
       clear hy10
       have HU10 := Lib.hid HUx
       clear HUx
       have hr10_0 := (hO _ (by omega)).trans hr9_0
       have hr10_1 := (hO _ (by omega)).trans hr9_1
       have hr10_2 := hN
       have hr10_3 := (hO _ (by omega)).trans hr9_3
       clear hN
       have HQA10 := Lib.hid (HQA9.out.keep (fun b hb => hO b (by omega)))
       have HQB10 := Lib.hid (HQB9.out.keep (fun b hb => hO b (by omega)))
       refine hK.out _ _ (⟨(hO _ (by omega)).trans hS9a.1, (hO _ (by omega)).trans hS9a.2⟩) (fun hS10s => ?_)
       clear hK K
       refine wpAnyH_ready (rs := [7]) (by kernel_rfl) (by simp) ?_
       refine AllReadyH.cons rfl (fun K hK => ?_) AllReadyH.nil
       refine step_store_row rfl 40 (.tmp 6) (.tmp 34) rfl #[.int .i64 0, .int .i64 0, .slice none 0 0, .slice none 0 0, .slice none 0 0, .slice none 0 0, .slice none 0 0, .slice none 0 0] #[.int .i64 W2, .int .i64 H2, .slice al4 nl2 cl4, .slice ad4 nd2 cd4, .slice an4 nn2 cn4, .slice ab4 nb2 cb4, .slice ax4 ns2 cx4, .slice af4 nf2 cf4] _ 40 hr10_3 rfl (by first | rfl | (go_simp; done) | (go_simp; rfl)) (by kernel_rfl) rfl (by simp [Value.oneCell']) ?_
       have hN := setRow_heap _ (y8.heap.size) _ #[.int .i64 W2, .int .i64 H2, .slice al4 nl2 cl4, .slice ad4 nd2 cd4, .slice an4 nn2 cn4, .slice ab4 nb2 cb4, .slice ax4 ns2 cx4, .slice af4 nf2 cf4] _ _ hr10_3
       have hsz := HU10.out.size
       have HUx := below_setRow (g := y8.heap.size) HU10.out (by first | omega | (simp at *; omega)) #[.int .i64 W2, .int .i64 H2, .slice al4 nl2 cl4, .slice ad4 nd2 cd4, .slice an4 nn2 cn4, .slice ab4 nb2 cb4, .slice ax4 ns2 cx4, .slice af4 nf2 cf4]
       obtain ⟨y11, hy11⟩ : ∃ y, y10.setRow (y8.heap.size) #[.int .i64 W2, .int .i64 H2, .slice al4 nl2 cl4, .slice ad4 nd2 cd4, .slice an4 nn2 cn4, .slice ab4 nb2 cb4, .slice ax4 ns2 cx4, .slice af4 nf2 cf4] = y := ⟨_, rfl⟩
       have hO : ∀ k, k ≠ y8.heap.size → y11.heap[k]? = y10.heap[k]? := fun k hk => by rw [← hy11]; exact setRow_other _ _ _ _ hk
       rw [hy11] at hN HUx ⊢
       clear hy11
       have HU11 := Lib.hid HUx
       clear HUx
       have hr11_0 := (hO _ (by omega)).trans hr10_0
       have hr11_1 := (hO _ (by omega)).trans hr10_1
       have hr11_2 := (hO _ (by omega)).trans hr10_2
       have hr11_3 := hN
       clear hN
       have HQA11 := Lib.hid (HQA10.out.keep (fun b hb => hO b (by omega)))
       have HQB11 := Lib.hid (HQB10.out.keep (fun b hb => hO b (by omega)))
       refine hK.out _ _ (⟨(hO _ (by omega)).trans hS10s.1, (hO _ (by omega)).trans hS10s.2⟩) (fun hS11s => ?_)
       clear hK K
       refine wpAnyH_done (by kernel_rfl) ?_ _
       go_wp2_with fail
       go_meet
       exact ⟨_, _, (⟨al3, cl3, ad3, cd3, an3, cn3, ab3, cb3, ax3, cx3, af3, cf3⟩ : Pl), (⟨al4, cl4, ad4, cd4, an4, cn4, ab4, cb4, ax4, cx4, af4, cf4⟩ : Pl), rfl, rfl, hr11_2, hr11_3, hr11_0, hr11_1, Lib.hid HQA11.out.fat, Lib.hid HQB11.out.fat, HU11⟩
      ·
       skip
       go_simp
       have hb8 := Ve.below_n1 y7 (.cells #[.int .i64 0, .int .i64 0, .slice none 0 0, .slice none 0 0, .slice none 0 0, .slice none 0 0, .slice none 0 0, .slice none 0 0] 40)
       have hN := heap_alloc_last y7 (.cells #[.int .i64 0, .int .i64 0, .slice none 0 0, .slice none 0 0, .slice none 0 0, .slice none 0 0, .slice none 0 0, .slice none 0 0] 40)
       obtain ⟨y8, hy8⟩ : ∃ y, y7.alloc (.cells #[.int .i64 0, .int .i64 0, .slice none 0 0, .slice none 0 0, .slice none 0 0, .slice none 0 0, .slice none 0 0, .slice none 0 0] 40) = y := ⟨_, rfl⟩
       rw [hy8] at hb8 hN ⊢
       clear hy8
       have hl8_0 := lt_heap hr7_0
       have hr8_0 := (hb8.block _ (lt_heap hr7_0)).trans hr7_0
       have hl8_1 := lt_heap hr7_1
       have hr8_1 := (hb8.block _ (lt_heap hr7_1)).trans hr7_1
       have hr8_2 := hN
       clear hN
       have HU8 := Lib.hid (HU7.out.trans (hb8.mono HU7.out.size))
       have HQA8 := Lib.hid (HQA7.out.below hb8)
       have HQB8 := Lib.hid (HQB7.out.below hb8)
       have hz8 := lt_heap hr8_2
       refine hK.out _ _ (⟨(hb8.block _ (lt_heap hS7c.1)).trans hS7c.1, (hb8.block _ (lt_heap hS7c.2)).trans hS7c.2⟩) (fun hS8a => ?_)
       clear hK K
       refine wpAnyH_ready (rs := [4]) (by kernel_rfl) (by simp) ?_
       refine AllReadyH.cons rfl (fun K hK => ?_) AllReadyH.nil
       go_simp
       have hb9 := Ve.below_n1 y8 (.cells #[.int .i64 0, .int .i64 0, .slice none 0 0, .slice none 0 0, .slice none 0 0, .slice none 0 0, .slice none 0 0, .slice none 0 0] 40)
       have hN := heap_alloc_last y8 (.cells #[.int .i64 0, .int .i64 0, .slice none 0 0, .slice none 0 0, .slice none 0 0, .slice none 0 0, .slice none 0 0, .slice none 0 0] 40)
       obtain ⟨y9, hy9⟩ : ∃ y, y8.alloc (.cells #[.int .i64 0, .int .i64 0, .slice none 0 0, .slice none 0 0, .slice none 0 0, .slice none 0 0, .slice none 0 0, .slice none 0 0] 40) = y := ⟨_, rfl⟩
       rw [hy9] at hb9 hN ⊢
       clear hy9
       have hl9_0 := lt_heap hr8_0
       have hr9_0 := (hb9.block _ (lt_heap hr8_0)).trans hr8_0
       have hl9_1 := lt_heap hr8_1
       have hr9_1 := (hb9.block _ (lt_heap hr8_1)).trans hr8_1
       have hl9_2 := lt_heap hr8_2
       have hr9_2 := (hb9.block _ (lt_heap hr8_2)).trans hr8_2
       have hr9_3 := hN
       clear hN
       have HU9 := Lib.hid (HU8.out.trans (hb9.mono HU8.out.size))
       have HQA9 := Lib.hid (HQA8.out.below hb9)
       have HQB9 := Lib.hid (HQB8.out.below hb9)
       have hz9 := lt_heap hr9_3
       refine hK.out _ _ (⟨(hb9.block _ (lt_heap hS8a.1)).trans hS8a.1, (hb9.block _ (lt_heap hS8a.2)).trans hS8a.2⟩) (fun hS9a => ?_)
       clear hK K
       refine wpAnyH_ready (rs := [6]) (by kernel_rfl) (by simp) ?_
       refine AllReadyH.cons rfl (fun K hK => ?_) AllReadyH.nil
       refine step_store_row rfl 40 (.tmp 5) (.tmp 32) rfl #[.int .i64 0, .int .i64 0, .slice none 0 0, .slice none 0 0, .slice none 0 0, .slice none 0 0, .slice none 0 0, .slice none 0 0] #[.int .i64 W, .int .i64 H, .slice al3 nl cl3, .slice ad3 nd cd3, .slice an3 nn cn3, .slice ab3 nb cb3, .slice ax3 ns cx3, .slice af3 nf cf3] _ 40 hr9_3 rfl (by first | rfl | (go_simp; done) | (go_simp; rfl)) (by kernel_rfl) rfl (by simp [Value.oneCell']) ?_
       have hN := setRow_heap _ (y8.heap.size) _ #[.int .i64 W, .int .i64 H, .slice al3 nl cl3, .slice ad3 nd cd3, .slice an3 nn cn3, .slice ab3 nb cb3, .slice ax3 ns cx3, .slice af3 nf cf3] _ _ hr9_3
       have hsz := HU9.out.size
       have HUx := below_setRow (g := y8.heap.size) HU9.out (by first | omega | (simp at *; omega)) #[.int .i64 W, .int .i64 H, .slice al3 nl cl3, .slice ad3 nd cd3, .slice an3 nn cn3, .slice ab3 nb cb3, .slice ax3 ns cx3, .slice af3 nf cf3]
       obtain ⟨y10, hy10⟩ : ∃ y, y9.setRow (y8.heap.size) #[.int .i64 W, .int .i64 H, .slice al3 nl cl3, .slice ad3 nd cd3, .slice an3 nn cn3, .slice ab3 nb cb3, .slice ax3 ns cx3, .slice af3 nf cf3] = y := ⟨_, rfl⟩
       have hO : ∀ k, k ≠ y8.heap.size → y10.heap[k]? = y9.heap[k]? := fun k hk => by rw [← hy10]; exact setRow_other _ _ _ _ hk
       rw [hy10] at hN HUx ⊢
       clear hy10
       have HU10 := Lib.hid HUx
       clear HUx
       have hr10_0 := (hO _ (by omega)).trans hr9_0
       have hr10_1 := (hO _ (by omega)).trans hr9_1
       have hr10_2 := (hO _ (by omega)).trans hr9_2
       have hr10_3 := hN
       clear hN
       have HQA10 := Lib.hid (HQA9.out.keep (fun b hb => hO b (by omega)))
       have HQB10 := Lib.hid (HQB9.out.keep (fun b hb => hO b (by omega)))
       refine hK.out _ _ (⟨(hO _ (by omega)).trans hS9a.1, (hO _ (by omega)).trans hS9a.2⟩) (fun hS10s => ?_)
       clear hK K
       refine wpAnyH_ready (rs := [7]) (by kernel_rfl) (by simp) ?_
       refine AllReadyH.cons rfl (fun K hK => ?_) AllReadyH.nil
       refine step_store_row rfl 40 (.tmp 6) (.tmp 34) rfl #[.int .i64 0, .int .i64 0, .slice none 0 0, .slice none 0 0, .slice none 0 0, .slice none 0 0, .slice none 0 0, .slice none 0 0] #[.int .i64 W2, .int .i64 H2, .slice al4 nl2 cl4, .slice ad4 nd2 cd4, .slice an4 nn2 cn4, .slice ab4 nb2 cb4, .slice ax4 ns2 cx4, .slice af4 nf2 cf4] _ 40 hr10_2 rfl (by first | rfl | (go_simp; done) | (go_simp; rfl)) (by kernel_rfl) rfl (by simp [Value.oneCell']) ?_
       have hN := setRow_heap _ (y7.heap.size) _ #[.int .i64 W2, .int .i64 H2, .slice al4 nl2 cl4, .slice ad4 nd2 cd4, .slice an4 nn2 cn4, .slice ab4 nb2 cb4, .slice ax4 ns2 cx4, .slice af4 nf2 cf4] _ _ hr10_2
       have hsz := HU10.out.size
       have HUx := below_setRow (g := y7.heap.size) HU10.out (by first | omega | (simp at *; omega)) #[.int .i64 W2, .int .i64 H2, .slice al4 nl2 cl4, .slice ad4 nd2 cd4, .slice an4 nn2 cn4, .slice ab4 nb2 cb4, .slice ax4 ns2 cx4, .slice af4 nf2 cf4]
       obtain ⟨y11, hy11⟩ : ∃ y, y10.setRow (y7.heap.size) #[.int .i64 W2, .int .i64 H2, .slice al4 nl2 cl4, .slice ad4 nd2 cd4, .slice an4 nn2 cn4, .slice ab4 nb2 cb4, .slice ax4 ns2 cx4, .slice af4 nf2 cf4] = y := ⟨_, rfl⟩
       have hO : ∀ k, k ≠ y7.heap.size → y11.heap[k]? = y10.heap[k]? := fun k hk => by rw [← hy11]; exact setRow_other _ _ _ _ hk
       rw [hy11] at hN HUx ⊢
       clear hy11
       have HU11 := Lib.hid HUx
       clear HUx
       have hr11_0 := (hO _ (by omega)).trans hr10_0
       have hr11_1 := (hO _ (by omega)).trans hr10_1
       have hr11_2 := hN
       have hr11_3 := (hO _ (by omega)).trans hr10_3
       clear hN
       have HQA11 := Lib.hid (HQA10.out.keep (fun b hb => hO b (by omega)))
       have HQB11 := Lib.hid (HQB10.out.keep (fun b hb => hO b (by omega)))
       refine hK.out _ _ (⟨(hO _ (by omega)).trans hS10s.1, (hO _ (by omega)).trans hS10s.2⟩) (fun hS11s => ?_)
       clear hK K
       refine wpAnyH_done (by kernel_rfl) ?_ _
       go_wp2_with fail
       go_meet
       exact ⟨_, _, (⟨al3, cl3, ad3, cd3, an3, cn3, ab3, cb3, ax3, cx3, af3, cf3⟩ : Pl), (⟨al4, cl4, ad4, cd4, an4, cn4, ab4, cb4, ax4, cx4, af4, cf4⟩ : Pl), rfl, rfl, hr11_3, hr11_2, hr11_0, hr11_1, Lib.hid HQA11.out.fat, Lib.hid HQB11.out.fat, HU11⟩
     ·
      skip
      go_simp
      have hb7 := Ve.below_n1 y6 (.cells #[.int .i64 0, .int .i64 0, .slice none 0 0, .slice none 0 0, .slice none 0 0, .slice none 0 0, .slice none 0 0, .slice none 0 0] 40)
      have hN := heap_alloc_last y6 (.cells #[.int .i64 0, .int .i64 0, .slice none 0 0, .slice none 0 0, .slice none 0 0, .slice none 0 0, .slice none 0 0, .slice none 0 0] 40)
      obtain ⟨y7, hy7⟩ : ∃ y, y6.alloc (.cells #[.int .i64 0, .int .i64 0, .slice none 0 0, .slice none 0 0, .slice none 0 0, .slice none 0 0, .slice none 0 0, .slice none 0 0] 40) = y := ⟨_, rfl⟩
      rw [hy7] at hb7 hN ⊢
      clear hy7
      have hl7_0 := lt_heap hr6_0
      have hr7_0 := (hb7.block _ (lt_heap hr6_0)).trans hr6_0
      have hl7_1 := lt_heap hr6_1
      have hr7_1 := (hb7.block _ (lt_heap hr6_1)).trans hr6_1
      have hr7_2 := hN
      clear hN
      have HU7 := Lib.hid (HU6.out.trans (hb7.mono HU6.out.size))
      have HQA7 := Lib.hid (HQA6.out.below hb7)
      have hz7 := lt_heap hr7_2
      refine hK.out _ _ (⟨(hb7.block _ (lt_heap hS6c.1)).trans hS6c.1, (hb7.block _ (lt_heap hS6c.2)).trans hS6c.2⟩) (fun hS7a => ?_)
      clear hK K
      refine wpAnyH_ready (rs := [3, 5]) (by kernel_rfl) (by simp) ?_
      refine AllReadyH.cons rfl (fun K hK => ?_) (AllReadyH.cons rfl (fun K hK => ?_) AllReadyH.nil)
      ·
       skip
       go_simp
       go_wp2_with (go_at_call 7; refine (to_film_q (⟨W2, H2, nl2, nd2, nn2, nb2, ns2, nf2, L2, D2, N2, B2, S2, F2⟩ : Flm) (⟨al2, cl2, ad2, cd2, an2, cn2, ab2, cb2, ax2, cx2, af2, cf2⟩ : Pl) _ (HC2.out.at_.on HU7.out) HC2.out.bl HC2.out.bd HC2.out.bn HC2.out.bb HC2.out.bs HC2.out.bf HC2.out.ks HC2.out.kf).mono ?_; rintro e y8 ⟨⟨⟨al4, cl4, ad4, cd4, an4, cn4, ab4, cb4, ax4, cx4, af4, cf4⟩, rfl, hq2⟩, hb8⟩)
       have hr8_0 := (hb8.block _ (lt_heap hr7_0)).trans hr7_0
       have hr8_1 := (hb8.block _ (lt_heap hr7_1)).trans hr7_1
       have hr8_2 := (hb8.block _ (lt_heap hr7_2)).trans hr7_2
       have HU8 := Lib.hid (HU7.out.trans (hb8.mono HU7.out.size))
       have HQA8 := Lib.hid (HQA7.out.below hb8)
       have hz8 := hb8.size
       have HQB8 := Lib.hid (hq2.lt)
       refine hK.out _ _ (⟨(hb8.block _ (lt_heap hS7a.1)).trans hS7a.1, (hb8.block _ (lt_heap hS7a.2)).trans hS7a.2⟩) (fun hS8c => ?_)
       clear hK K
       refine wpAnyH_ready (rs := [5]) (by kernel_rfl) (by simp) ?_
       refine AllReadyH.cons rfl (fun K hK => ?_) AllReadyH.nil
       go_simp
       have hb9 := Ve.below_n1 y8 (.cells #[.int .i64 0, .int .i64 0, .slice none 0 0, .slice none 0 0, .slice none 0 0, .slice none 0 0, .slice none 0 0, .slice none 0 0] 40)
       have hN := heap_alloc_last y8 (.cells #[.int .i64 0, .int .i64 0, .slice none 0 0, .slice none 0 0, .slice none 0 0, .slice none 0 0, .slice none 0 0, .slice none 0 0] 40)
       obtain ⟨y9, hy9⟩ : ∃ y, y8.alloc (.cells #[.int .i64 0, .int .i64 0, .slice none 0 0, .slice none 0 0, .slice none 0 0, .slice none 0 0, .slice none 0 0, .slice none 0 0] 40) = y := ⟨_, rfl⟩
       rw [hy9] at hb9 hN ⊢
       clear hy9
       have hl9_0 := lt_heap hr8_0
       have hr9_0 := (hb9.block _ (lt_heap hr8_0)).trans hr8_0
       have hl9_1 := lt_heap hr8_1
       have hr9_1 := (hb9.block _ (lt_heap hr8_1)).trans hr8_1
       have hl9_2 := lt_heap hr8_2
       have hr9_2 := (hb9.block _ (lt_heap hr8_2)).trans hr8_2
       have hr9_3 := hN
       clear hN
       have HU9 := Lib.hid (HU8.out.trans (hb9.mono HU8.out.size))
       have HQA9 := Lib.hid (HQA8.out.below hb9)
       have HQB9 := Lib.hid (HQB8.out.below hb9)
       have hz9 := lt_heap hr9_3
       refine hK.out _ _ (⟨(hb9.block _ (lt_heap hS8c.1)).trans hS8c.1, (hb9.block _ (lt_heap hS8c.2)).trans hS8c.2⟩) (fun hS9a => ?_)
       clear hK K
       refine wpAnyH_ready (rs := [6]) (by kernel_rfl) (by simp) ?_
       refine AllReadyH.cons rfl (fun K hK => ?_) AllReadyH.nil
       refine step_store_row rfl 40 (.tmp 5) (.tmp 32) rfl #[.int .i64 0, .int .i64 0, .slice none 0 0, .slice none 0 0, .slice none 0 0, .slice none 0 0, .slice none 0 0, .slice none 0 0] #[.int .i64 W, .int .i64 H, .slice al3 nl cl3, .slice ad3 nd cd3, .slice an3 nn cn3, .slice ab3 nb cb3, .slice ax3 ns cx3, .slice af3 nf cf3] _ 40 hr9_2 rfl (by first | rfl | (go_simp; done) | (go_simp; rfl)) (by kernel_rfl) rfl (by simp [Value.oneCell']) ?_
       have hN := setRow_heap _ (y6.heap.size) _ #[.int .i64 W, .int .i64 H, .slice al3 nl cl3, .slice ad3 nd cd3, .slice an3 nn cn3, .slice ab3 nb cb3, .slice ax3 ns cx3, .slice af3 nf cf3] _ _ hr9_2
       have hsz := HU9.out.size
       have HUx := below_setRow (g := y6.heap.size) HU9.out (by first | omega | (simp at *; omega)) #[.int .i64 W, .int .i64 H, .slice al3 nl cl3, .slice ad3 nd cd3, .slice an3 nn cn3, .slice ab3 nb cb3, .slice ax3 ns cx3, .slice af3 nf cf3]
       obtain ⟨y10, hy10⟩ : ∃ y, y9.setRow (y6.heap.size) #[.int .i64 W, .int .i64 H, .slice al3 nl cl3, .slice ad3 nd cd3, .slice an3 nn cn3, .slice ab3 nb cb3, .slice ax3 ns cx3, .slice af3 nf cf3] = y := ⟨_, rfl⟩
       have hO : ∀ k, k ≠ y6.heap.size → y10.heap[k]? = y9.heap[k]? := fun k hk => by rw [← hy10]; exact setRow_other _ _ _ _ hk
       rw [hy10] at hN HUx ⊢
       clear hy10
       have HU10 := Lib.hid HUx
       clear HUx
       have hr10_0 := (hO _ (by omega)).trans hr9_0
       have hr10_1 := (hO _ (by omega)).trans hr9_1
       have hr10_2 := hN
       have hr10_3 := (hO _ (by omega)).trans hr9_3
       clear hN
       have HQA10 := Lib.hid (HQA9.out.keep (fun b hb => hO b (by omega)))
       have HQB10 := Lib.hid (HQB9.out.keep (fun b hb => hO b (by omega)))
       refine hK.out _ _ (⟨(hO _ (by omega)).trans hS9a.1, (hO _ (by omega)).trans hS9a.2⟩) (fun hS10s => ?_)
       clear hK K
       refine wpAnyH_ready (rs := [7]) (by kernel_rfl) (by simp) ?_
       refine AllReadyH.cons rfl (fun K hK => ?_) AllReadyH.nil
       refine step_store_row rfl 40 (.tmp 6) (.tmp 34) rfl #[.int .i64 0, .int .i64 0, .slice none 0 0, .slice none 0 0, .slice none 0 0, .slice none 0 0, .slice none 0 0, .slice none 0 0] #[.int .i64 W2, .int .i64 H2, .slice al4 nl2 cl4, .slice ad4 nd2 cd4, .slice an4 nn2 cn4, .slice ab4 nb2 cb4, .slice ax4 ns2 cx4, .slice af4 nf2 cf4] _ 40 hr10_3 rfl (by first | rfl | (go_simp; done) | (go_simp; rfl)) (by kernel_rfl) rfl (by simp [Value.oneCell']) ?_
       have hN := setRow_heap _ (y8.heap.size) _ #[.int .i64 W2, .int .i64 H2, .slice al4 nl2 cl4, .slice ad4 nd2 cd4, .slice an4 nn2 cn4, .slice ab4 nb2 cb4, .slice ax4 ns2 cx4, .slice af4 nf2 cf4] _ _ hr10_3
       have hsz := HU10.out.size
       have HUx := below_setRow (g := y8.heap.size) HU10.out (by first | omega | (simp at *; omega)) #[.int .i64 W2, .int .i64 H2, .slice al4 nl2 cl4, .slice ad4 nd2 cd4, .slice an4 nn2 cn4, .slice ab4 nb2 cb4, .slice ax4 ns2 cx4, .slice af4 nf2 cf4]
       obtain ⟨y11, hy11⟩ : ∃ y, y10.setRow (y8.heap.size) #[.int .i64 W2, .int .i64 H2, .slice al4 nl2 cl4, .slice ad4 nd2 cd4, .slice an4 nn2 cn4, .slice ab4 nb2 cb4, .slice ax4 ns2 cx4, .slice af4 nf2 cf4] = y := ⟨_, rfl⟩
       have hO : ∀ k, k ≠ y8.heap.size → y11.heap[k]? = y10.heap[k]? := fun k hk => by rw [← hy11]; exact setRow_other _ _ _ _ hk
       rw [hy11] at hN HUx ⊢
       clear hy11
       have HU11 := Lib.hid HUx
       clear HUx
       have hr11_0 := (hO _ (by omega)).trans hr10_0
       have hr11_1 := (hO _ (by omega)).trans hr10_1
       have hr11_2 := (hO _ (by omega)).trans hr10_2
       have hr11_3 := hN
       clear hN
       have HQA11 := Lib.hid (HQA10.out.keep (fun b hb => hO b (by omega)))
       have HQB11 := Lib.hid (HQB10.out.keep (fun b hb => hO b (by omega)))
       refine hK.out _ _ (⟨(hO _ (by omega)).trans hS10s.1, (hO _ (by omega)).trans hS10s.2⟩) (fun hS11s => ?_)
       clear hK K
       refine wpAnyH_done (by kernel_rfl) ?_ _
       go_wp2_with fail
       go_meet
       exact ⟨_, _, (⟨al3, cl3, ad3, cd3, an3, cn3, ab3, cb3, ax3, cx3, af3, cf3⟩ : Pl), (⟨al4, cl4, ad4, cd4, an4, cn4, ab4, cb4, ax4, cx4, af4, cf4⟩ : Pl), rfl, rfl, hr11_2, hr11_3, hr11_0, hr11_1, Lib.hid HQA11.out.fat, Lib.hid HQB11.out.fat, HU11⟩
      ·
       skip
       go_simp
       have hb8 := Ve.below_n1 y7 (.cells #[.int .i64 0, .int .i64 0, .slice none 0 0, .slice none 0 0, .slice none 0 0, .slice none 0 0, .slice none 0 0, .slice none 0 0] 40)
       have hN := heap_alloc_last y7 (.cells #[.int .i64 0, .int .i64 0, .slice none 0 0, .slice none 0 0, .slice none 0 0, .slice none 0 0, .slice none 0 0, .slice none 0 0] 40)
       obtain ⟨y8, hy8⟩ : ∃ y, y7.alloc (.cells #[.int .i64 0, .int .i64 0, .slice none 0 0, .slice none 0 0, .slice none 0 0, .slice none 0 0, .slice none 0 0, .slice none 0 0] 40) = y := ⟨_, rfl⟩
       rw [hy8] at hb8 hN ⊢
       clear hy8
       have hl8_0 := lt_heap hr7_0
       have hr8_0 := (hb8.block _ (lt_heap hr7_0)).trans hr7_0
       have hl8_1 := lt_heap hr7_1
       have hr8_1 := (hb8.block _ (lt_heap hr7_1)).trans hr7_1
       have hl8_2 := lt_heap hr7_2
       have hr8_2 := (hb8.block _ (lt_heap hr7_2)).trans hr7_2
       have hr8_3 := hN
       clear hN
       have HU8 := Lib.hid (HU7.out.trans (hb8.mono HU7.out.size))
       have HQA8 := Lib.hid (HQA7.out.below hb8)
       have hz8 := lt_heap hr8_3
       refine hK.out _ _ (⟨(hb8.block _ (lt_heap hS7a.1)).trans hS7a.1, (hb8.block _ (lt_heap hS7a.2)).trans hS7a.2⟩) (fun hS8a => ?_)
       clear hK K
       refine wpAnyH_ready (rs := [3]) (by kernel_rfl) (by simp) ?_
       refine AllReadyH.cons rfl (fun K hK => ?_) AllReadyH.nil
       go_simp
       go_wp2_with (go_at_call 7; refine (to_film_q (⟨W2, H2, nl2, nd2, nn2, nb2, ns2, nf2, L2, D2, N2, B2, S2, F2⟩ : Flm) (⟨al2, cl2, ad2, cd2, an2, cn2, ab2, cb2, ax2, cx2, af2, cf2⟩ : Pl) _ (HC2.out.at_.on HU8.out) HC2.out.bl HC2.out.bd HC2.out.bn HC2.out.bb HC2.out.bs HC2.out.bf HC2.out.ks HC2.out.kf).mono ?_; rintro e y9 ⟨⟨⟨al4, cl4, ad4, cd4, an4, cn4, ab4, cb4, ax4, cx4, af4, cf4⟩, rfl, hq2⟩, hb9⟩)
       have hr9_0 := (hb9.block _ (lt_heap hr8_0)).trans hr8_0
       have hr9_1 := (hb9.block _ (lt_heap hr8_1)).trans hr8_1
       have hr9_2 := (hb9.block _ (lt_heap hr8_2)).trans hr8_2
       have hr9_3 := (hb9.block _ (lt_heap hr8_3)).trans hr8_3
       have HU9 := Lib.hid (HU8.out.trans (hb9.mono HU8.out.size))
       have HQA9 := Lib.hid (HQA8.out.below hb9)
       have hz9 := hb9.size
       have HQB9 := Lib.hid (hq2.lt)
       refine hK.out _ _ (⟨(hb9.block _ (lt_heap hS8a.1)).trans hS8a.1, (hb9.block _ (lt_heap hS8a.2)).trans hS8a.2⟩) (fun hS9c => ?_)
       clear hK K
       refine wpAnyH_ready (rs := [6]) (by kernel_rfl) (by simp) ?_
       refine AllReadyH.cons rfl (fun K hK => ?_) AllReadyH.nil
       refine step_store_row rfl 40 (.tmp 5) (.tmp 32) rfl #[.int .i64 0, .int .i64 0, .slice none 0 0, .slice none 0 0, .slice none 0 0, .slice none 0 0, .slice none 0 0, .slice none 0 0] #[.int .i64 W, .int .i64 H, .slice al3 nl cl3, .slice ad3 nd cd3, .slice an3 nn cn3, .slice ab3 nb cb3, .slice ax3 ns cx3, .slice af3 nf cf3] _ 40 hr9_2 rfl (by first | rfl | (go_simp; done) | (go_simp; rfl)) (by kernel_rfl) rfl (by simp [Value.oneCell']) ?_
       have hN := setRow_heap _ (y6.heap.size) _ #[.int .i64 W, .int .i64 H, .slice al3 nl cl3, .slice ad3 nd cd3, .slice an3 nn cn3, .slice ab3 nb cb3, .slice ax3 ns cx3, .slice af3 nf cf3] _ _ hr9_2
       have hsz := HU9.out.size
       have HUx := below_setRow (g := y6.heap.size) HU9.out (by first | omega | (simp at *; omega)) #[.int .i64 W, .int .i64 H, .slice al3 nl cl3, .slice ad3 nd cd3, .slice an3 nn cn3, .slice ab3 nb cb3, .slice ax3 ns cx3, .slice af3 nf cf3]
       obtain ⟨y10, hy10⟩ : ∃ y, y9.setRow (y6.heap.size) #[.int .i64 W, .int .i64 H, .slice al3 nl cl3, .slice ad3 nd cd3, .slice an3 nn cn3, .slice ab3 nb cb3, .slice ax3 ns cx3, .slice af3 nf cf3] = y := ⟨_, rfl⟩
       have hO : ∀ k, k ≠ y6.heap.size → y10.heap[k]? = y9.heap[k]? := fun k hk => by rw [← hy10]; exact setRow_other _ _ _ _ hk
       rw [hy10] at hN HUx ⊢
       clear hy10
       have HU10 := Lib.hid HUx
       clear HUx
       have hr10_0 := (hO _ (by omega)).trans hr9_0
       have hr10_1 := (hO _ (by omega)).trans hr9_1
       have hr10_2 := hN
       have hr10_3 := (hO _ (by omega)).trans hr9_3
       clear hN
       have HQA10 := Lib.hid (HQA9.out.keep (fun b hb => hO b (by omega)))
       have HQB10 := Lib.hid (HQB9.out.keep (fun b hb => hO b (by omega)))
       refine hK.out _ _ (⟨(hO _ (by omega)).trans hS9c.1, (hO _ (by omega)).trans hS9c.2⟩) (fun hS10s => ?_)
       clear hK K
       refine wpAnyH_ready (rs := [7]) (by kernel_rfl) (by simp) ?_
       refine AllReadyH.cons rfl (fun K hK => ?_) AllReadyH.nil
       refine step_store_row rfl 40 (.tmp 6) (.tmp 34) rfl #[.int .i64 0, .int .i64 0, .slice none 0 0, .slice none 0 0, .slice none 0 0, .slice none 0 0, .slice none 0 0, .slice none 0 0] #[.int .i64 W2, .int .i64 H2, .slice al4 nl2 cl4, .slice ad4 nd2 cd4, .slice an4 nn2 cn4, .slice ab4 nb2 cb4, .slice ax4 ns2 cx4, .slice af4 nf2 cf4] _ 40 hr10_3 rfl (by first | rfl | (go_simp; done) | (go_simp; rfl)) (by kernel_rfl) rfl (by simp [Value.oneCell']) ?_
       have hN := setRow_heap _ (y7.heap.size) _ #[.int .i64 W2, .int .i64 H2, .slice al4 nl2 cl4, .slice ad4 nd2 cd4, .slice an4 nn2 cn4, .slice ab4 nb2 cb4, .slice ax4 ns2 cx4, .slice af4 nf2 cf4] _ _ hr10_3
       have hsz := HU10.out.size
       have HUx := below_setRow (g := y7.heap.size) HU10.out (by first | omega | (simp at *; omega)) #[.int .i64 W2, .int .i64 H2, .slice al4 nl2 cl4, .slice ad4 nd2 cd4, .slice an4 nn2 cn4, .slice ab4 nb2 cb4, .slice ax4 ns2 cx4, .slice af4 nf2 cf4]
       obtain ⟨y11, hy11⟩ : ∃ y, y10.setRow (y7.heap.size) #[.int .i64 W2, .int .i64 H2, .slice al4 nl2 cl4, .slice ad4 nd2 cd4, .slice an4 nn2 cn4, .slice ab4 nb2 cb4, .slice ax4 ns2 cx4, .slice af4 nf2 cf4] = y := ⟨_, rfl⟩
       have hO : ∀ k, k ≠ y7.heap.size → y11.heap[k]? = y10.heap[k]? := fun k hk => by rw [← hy11]; exact setRow_other _ _ _ _ hk
       rw [hy11] at hN HUx ⊢
       clear hy11
       have HU11 := Lib.hid HUx
       clear HUx
       have hr11_0 := (hO _ (by omega)).trans hr10_0
       have hr11_1 := (hO _ (by omega)).trans hr10_1
       have hr11_2 := (hO _ (by omega)).trans hr10_2
       have hr11_3 := hN
       clear hN
       have HQA11 := Lib.hid (HQA10.out.keep (fun b hb => hO b (by omega)))
       have HQB11 := Lib.hid (HQB10.out.keep (fun b hb => hO b (by omega)))
       refine hK.out _ _ (⟨(hO _ (by omega)).trans hS10s.1, (hO _ (by omega)).trans hS10s.2⟩) (fun hS11s => ?_)
       clear hK K
       refine wpAnyH_done (by kernel_rfl) ?_ _
       go_wp2_with fail
       go_meet
       exact ⟨_, _, (⟨al3, cl3, ad3, cd3, an3, cn3, ab3, cb3, ax3, cx3, af3, cf3⟩ : Pl), (⟨al4, cl4, ad4, cd4, an4, cn4, ab4, cb4, ax4, cx4, af4, cf4⟩ : Pl), rfl, rfl, hr11_2, hr11_3, hr11_0, hr11_1, Lib.hid HQA11.out.fat, Lib.hid HQB11.out.fat, HU11⟩
     ·
      skip
      go_simp
      have hb7 := Ve.below_n1 y6 (.cells #[.int .i64 0, .int .i64 0, .slice none 0 0, .slice none 0 0, .slice none 0 0, .slice none 0 0, .slice none 0 0, .slice none 0 0] 40)
      have hN := heap_alloc_last y6 (.cells #[.int .i64 0, .int .i64 0, .slice none 0 0, .slice none 0 0, .slice none 0 0, .slice none 0 0, .slice none 0 0, .slice none 0 0] 40)
      obtain ⟨y7, hy7⟩ : ∃ y, y6.alloc (.cells #[.int .i64 0, .int .i64 0, .slice none 0 0, .slice none 0 0, .slice none 0 0, .slice none 0 0, .slice none 0 0, .slice none 0 0] 40) = y := ⟨_, rfl⟩
      rw [hy7] at hb7 hN ⊢
      clear hy7
      have hl7_0 := lt_heap hr6_0
      have hr7_0 := (hb7.block _ (lt_heap hr6_0)).trans hr6_0
      have hl7_1 := lt_heap hr6_1
      have hr7_1 := (hb7.block _ (lt_heap hr6_1)).trans hr6_1
      have hr7_2 := hN
      clear hN
      have HU7 := Lib.hid (HU6.out.trans (hb7.mono HU6.out.size))
      have HQA7 := Lib.hid (HQA6.out.below hb7)
      have hz7 := lt_heap hr7_2
      refine hK.out _ _ (⟨(hb7.block _ (lt_heap hS6c.1)).trans hS6c.1, (hb7.block _ (lt_heap hS6c.2)).trans hS6c.2⟩) (fun hS7a => ?_)
      clear hK K
      refine wpAnyH_ready (rs := [3, 4]) (by kernel_rfl) (by simp) ?_
      refine AllReadyH.cons rfl (fun K hK => ?_) (AllReadyH.cons rfl (fun K hK => ?_) AllReadyH.nil)
      ·
       skip
       go_simp
       go_wp2_with (go_at_call 7; refine (to_film_q (⟨W2, H2, nl2, nd2, nn2, nb2, ns2, nf2, L2, D2, N2, B2, S2, F2⟩ : Flm) (⟨al2, cl2, ad2, cd2, an2, cn2, ab2, cb2, ax2, cx2, af2, cf2⟩ : Pl) _ (HC2.out.at_.on HU7.out) HC2.out.bl HC2.out.bd HC2.out.bn HC2.out.bb HC2.out.bs HC2.out.bf HC2.out.ks HC2.out.kf).mono ?_; rintro e y8 ⟨⟨⟨al4, cl4, ad4, cd4, an4, cn4, ab4, cb4, ax4, cx4, af4, cf4⟩, rfl, hq2⟩, hb8⟩)
       have hr8_0 := (hb8.block _ (lt_heap hr7_0)).trans hr7_0
       have hr8_1 := (hb8.block _ (lt_heap hr7_1)).trans hr7_1
       have hr8_2 := (hb8.block _ (lt_heap hr7_2)).trans hr7_2
       have HU8 := Lib.hid (HU7.out.trans (hb8.mono HU7.out.size))
       have HQA8 := Lib.hid (HQA7.out.below hb8)
       have hz8 := hb8.size
       have HQB8 := Lib.hid (hq2.lt)
       refine hK.out _ _ (⟨(hb8.block _ (lt_heap hS7a.1)).trans hS7a.1, (hb8.block _ (lt_heap hS7a.2)).trans hS7a.2⟩) (fun hS8c => ?_)
       clear hK K
       refine wpAnyH_ready (rs := [4]) (by kernel_rfl) (by simp) ?_
       refine AllReadyH.cons rfl (fun K hK => ?_) AllReadyH.nil
       go_simp
       have hb9 := Ve.below_n1 y8 (.cells #[.int .i64 0, .int .i64 0, .slice none 0 0, .slice none 0 0, .slice none 0 0, .slice none 0 0, .slice none 0 0, .slice none 0 0] 40)
       have hN := heap_alloc_last y8 (.cells #[.int .i64 0, .int .i64 0, .slice none 0 0, .slice none 0 0, .slice none 0 0, .slice none 0 0, .slice none 0 0, .slice none 0 0] 40)
       obtain ⟨y9, hy9⟩ : ∃ y, y8.alloc (.cells #[.int .i64 0, .int .i64 0, .slice none 0 0, .slice none 0 0, .slice none 0 0, .slice none 0 0, .slice none 0 0, .slice none 0 0] 40) = y := ⟨_, rfl⟩
       rw [hy9] at hb9 hN ⊢
       clear hy9
       have hl9_0 := lt_heap hr8_0
       have hr9_0 := (hb9.block _ (lt_heap hr8_0)).trans hr8_0
       have hl9_1 := lt_heap hr8_1
       have hr9_1 := (hb9.block _ (lt_heap hr8_1)).trans hr8_1
       have hl9_2 := lt_heap hr8_2
       have hr9_2 := (hb9.block _ (lt_heap hr8_2)).trans hr8_2
       have hr9_3 := hN
       clear hN
       have HU9 := Lib.hid (HU8.out.trans (hb9.mono HU8.out.size))
       have HQA9 := Lib.hid (HQA8.out.below hb9)
       have HQB9 := Lib.hid (HQB8.out.below hb9)
       have hz9 := lt_heap hr9_3
       refine hK.out _ _ (⟨(hb9.block _ (lt_heap hS8c.1)).trans hS8c.1, (hb9.block _ (lt_heap hS8c.2)).trans hS8c.2⟩) (fun hS9a => ?_)
       clear hK K
       refine wpAnyH_ready (rs := [6]) (by kernel_rfl) (by simp) ?_
       refine AllReadyH.cons rfl (fun K hK => ?_) AllReadyH.nil
       refine step_store_row rfl 40 (.tmp 5) (.tmp 32) rfl #[.int .i64 0, .int .i64 0, .slice none 0 0, .slice none 0 0, .slice none 0 0, .slice none 0 0, .slice none 0 0, .slice none 0 0] #[.int .i64 W, .int .i64 H, .slice al3 nl cl3, .slice ad3 nd cd3, .slice an3 nn cn3, .slice ab3 nb cb3, .slice ax3 ns cx3, .slice af3 nf cf3] _ 40 hr9_3 rfl (by first | rfl | (go_simp; done) | (go_simp; rfl)) (by kernel_rfl) rfl (by simp [Value.oneCell']) ?_
       have hN := setRow_heap _ (y8.heap.size) _ #[.int .i64 W, .int .i64 H, .slice al3 nl cl3, .slice ad3 nd cd3, .slice an3 nn cn3, .slice ab3 nb cb3, .slice ax3 ns cx3, .slice af3 nf cf3] _ _ hr9_3
       have hsz := HU9.out.size
       have HUx := below_setRow (g := y8.heap.size) HU9.out (by first | omega | (simp at *; omega)) #[.int .i64 W, .int .i64 H, .slice al3 nl cl3, .slice ad3 nd cd3, .slice an3 nn cn3, .slice ab3 nb cb3, .slice ax3 ns cx3, .slice af3 nf cf3]
       obtain ⟨y10, hy10⟩ : ∃ y, y9.setRow (y8.heap.size) #[.int .i64 W, .int .i64 H, .slice al3 nl cl3, .slice ad3 nd cd3, .slice an3 nn cn3, .slice ab3 nb cb3, .slice ax3 ns cx3, .slice af3 nf cf3] = y := ⟨_, rfl⟩
       have hO : ∀ k, k ≠ y8.heap.size → y10.heap[k]? = y9.heap[k]? := fun k hk => by rw [← hy10]; exact setRow_other _ _ _ _ hk
       rw [hy10] at hN HUx ⊢
       clear hy10
       have HU10 := Lib.hid HUx
       clear HUx
       have hr10_0 := (hO _ (by omega)).trans hr9_0
       have hr10_1 := (hO _ (by omega)).trans hr9_1
       have hr10_2 := (hO _ (by omega)).trans hr9_2
       have hr10_3 := hN
       clear hN
       have HQA10 := Lib.hid (HQA9.out.keep (fun b hb => hO b (by omega)))
       have HQB10 := Lib.hid (HQB9.out.keep (fun b hb => hO b (by omega)))
       refine hK.out _ _ (⟨(hO _ (by omega)).trans hS9a.1, (hO _ (by omega)).trans hS9a.2⟩) (fun hS10s => ?_)
       clear hK K
       refine wpAnyH_ready (rs := [7]) (by kernel_rfl) (by simp) ?_
       refine AllReadyH.cons rfl (fun K hK => ?_) AllReadyH.nil
       refine step_store_row rfl 40 (.tmp 6) (.tmp 34) rfl #[.int .i64 0, .int .i64 0, .slice none 0 0, .slice none 0 0, .slice none 0 0, .slice none 0 0, .slice none 0 0, .slice none 0 0] #[.int .i64 W2, .int .i64 H2, .slice al4 nl2 cl4, .slice ad4 nd2 cd4, .slice an4 nn2 cn4, .slice ab4 nb2 cb4, .slice ax4 ns2 cx4, .slice af4 nf2 cf4] _ 40 hr10_2 rfl (by first | rfl | (go_simp; done) | (go_simp; rfl)) (by kernel_rfl) rfl (by simp [Value.oneCell']) ?_
       have hN := setRow_heap _ (y6.heap.size) _ #[.int .i64 W2, .int .i64 H2, .slice al4 nl2 cl4, .slice ad4 nd2 cd4, .slice an4 nn2 cn4, .slice ab4 nb2 cb4, .slice ax4 ns2 cx4, .slice af4 nf2 cf4] _ _ hr10_2
       have hsz := HU10.out.size
       have HUx := below_setRow (g := y6.heap.size) HU10.out (by first | omega | (simp at *; omega)) #[.int .i64 W2, .int .i64 H2, .slice al4 nl2 cl4, .slice ad4 nd2 cd4, .slice an4 nn2 cn4, .slice ab4 nb2 cb4, .slice ax4 ns2 cx4, .slice af4 nf2 cf4]
       obtain ⟨y11, hy11⟩ : ∃ y, y10.setRow (y6.heap.size) #[.int .i64 W2, .int .i64 H2, .slice al4 nl2 cl4, .slice ad4 nd2 cd4, .slice an4 nn2 cn4, .slice ab4 nb2 cb4, .slice ax4 ns2 cx4, .slice af4 nf2 cf4] = y := ⟨_, rfl⟩
       have hO : ∀ k, k ≠ y6.heap.size → y11.heap[k]? = y10.heap[k]? := fun k hk => by rw [← hy11]; exact setRow_other _ _ _ _ hk
       rw [hy11] at hN HUx ⊢
       clear hy11
       have HU11 := Lib.hid HUx
       clear HUx
       have hr11_0 := (hO _ (by omega)).trans hr10_0
       have hr11_1 := (hO _ (by omega)).trans hr10_1
       have hr11_2 := hN
       have hr11_3 := (hO _ (by omega)).trans hr10_3
       clear hN
       have HQA11 := Lib.hid (HQA10.out.keep (fun b hb => hO b (by omega)))
       have HQB11 := Lib.hid (HQB10.out.keep (fun b hb => hO b (by omega)))
       refine hK.out _ _ (⟨(hO _ (by omega)).trans hS10s.1, (hO _ (by omega)).trans hS10s.2⟩) (fun hS11s => ?_)
       clear hK K
       refine wpAnyH_done (by kernel_rfl) ?_ _
       go_wp2_with fail
       go_meet
       exact ⟨_, _, (⟨al3, cl3, ad3, cd3, an3, cn3, ab3, cb3, ax3, cx3, af3, cf3⟩ : Pl), (⟨al4, cl4, ad4, cd4, an4, cn4, ab4, cb4, ax4, cx4, af4, cf4⟩ : Pl), rfl, rfl, hr11_3, hr11_2, hr11_0, hr11_1, Lib.hid HQA11.out.fat, Lib.hid HQB11.out.fat, HU11⟩
      ·
       skip
       go_simp
       have hb8 := Ve.below_n1 y7 (.cells #[.int .i64 0, .int .i64 0, .slice none 0 0, .slice none 0 0, .slice none 0 0, .slice none 0 0, .slice none 0 0, .slice none 0 0] 40)
       have hN := heap_alloc_last y7 (.cells #[.int .i64 0, .int .i64 0, .slice none 0 0, .slice none 0 0, .slice none 0 0, .slice none 0 0, .slice none 0 0, .slice none 0 0] 40)
       obtain ⟨y8, hy8⟩ : ∃ y, y7.alloc (.cells #[.int .i64 0, .int .i64 0, .slice none 0 0, .slice none 0 0, .slice none 0 0, .slice none 0 0, .slice none 0 0, .slice none 0 0] 40) = y := ⟨_, rfl⟩
       rw [hy8] at hb8 hN ⊢
       clear hy8
       have hl8_0 := lt_heap hr7_0
       have hr8_0 := (hb8.block _ (lt_heap hr7_0)).trans hr7_0
       have hl8_1 := lt_heap hr7_1
       have hr8_1 := (hb8.block _ (lt_heap hr7_1)).trans hr7_1
       have hl8_2 := lt_heap hr7_2
       have hr8_2 := (hb8.block _ (lt_heap hr7_2)).trans hr7_2
       have hr8_3 := hN
       clear hN
       have HU8 := Lib.hid (HU7.out.trans (hb8.mono HU7.out.size))
       have HQA8 := Lib.hid (HQA7.out.below hb8)
       have hz8 := lt_heap hr8_3
       refine hK.out _ _ (⟨(hb8.block _ (lt_heap hS7a.1)).trans hS7a.1, (hb8.block _ (lt_heap hS7a.2)).trans hS7a.2⟩) (fun hS8a => ?_)
       clear hK K
       refine wpAnyH_ready (rs := [3]) (by kernel_rfl) (by simp) ?_
       refine AllReadyH.cons rfl (fun K hK => ?_) AllReadyH.nil
       go_simp
       go_wp2_with (go_at_call 7; refine (to_film_q (⟨W2, H2, nl2, nd2, nn2, nb2, ns2, nf2, L2, D2, N2, B2, S2, F2⟩ : Flm) (⟨al2, cl2, ad2, cd2, an2, cn2, ab2, cb2, ax2, cx2, af2, cf2⟩ : Pl) _ (HC2.out.at_.on HU8.out) HC2.out.bl HC2.out.bd HC2.out.bn HC2.out.bb HC2.out.bs HC2.out.bf HC2.out.ks HC2.out.kf).mono ?_; rintro e y9 ⟨⟨⟨al4, cl4, ad4, cd4, an4, cn4, ab4, cb4, ax4, cx4, af4, cf4⟩, rfl, hq2⟩, hb9⟩)
       have hr9_0 := (hb9.block _ (lt_heap hr8_0)).trans hr8_0
       have hr9_1 := (hb9.block _ (lt_heap hr8_1)).trans hr8_1
       have hr9_2 := (hb9.block _ (lt_heap hr8_2)).trans hr8_2
       have hr9_3 := (hb9.block _ (lt_heap hr8_3)).trans hr8_3
       have HU9 := Lib.hid (HU8.out.trans (hb9.mono HU8.out.size))
       have HQA9 := Lib.hid (HQA8.out.below hb9)
       have hz9 := hb9.size
       have HQB9 := Lib.hid (hq2.lt)
       refine hK.out _ _ (⟨(hb9.block _ (lt_heap hS8a.1)).trans hS8a.1, (hb9.block _ (lt_heap hS8a.2)).trans hS8a.2⟩) (fun hS9c => ?_)
       clear hK K
       refine wpAnyH_ready (rs := [6]) (by kernel_rfl) (by simp) ?_
       refine AllReadyH.cons rfl (fun K hK => ?_) AllReadyH.nil
       refine step_store_row rfl 40 (.tmp 5) (.tmp 32) rfl #[.int .i64 0, .int .i64 0, .slice none 0 0, .slice none 0 0, .slice none 0 0, .slice none 0 0, .slice none 0 0, .slice none 0 0] #[.int .i64 W, .int .i64 H, .slice al3 nl cl3, .slice ad3 nd cd3, .slice an3 nn cn3, .slice ab3 nb cb3, .slice ax3 ns cx3, .slice af3 nf cf3] _ 40 hr9_3 rfl (by first | rfl | (go_simp; done) | (go_simp; rfl)) (by kernel_rfl) rfl (by simp [Value.oneCell']) ?_
       have hN := setRow_heap _ (y7.heap.size) _ #[.int .i64 W, .int .i64 H, .slice al3 nl cl3, .slice ad3 nd cd3, .slice an3 nn cn3, .slice ab3 nb cb3, .slice ax3 ns cx3, .slice af3 nf cf3] _ _ hr9_3
       have hsz := HU9.out.size
       have HUx := below_setRow (g := y7.heap.size) HU9.out (by first | omega | (simp at *; omega)) #[.int .i64 W, .int .i64 H, .slice al3 nl cl3, .slice ad3 nd cd3, .slice an3 nn cn3, .slice ab3 nb cb3, .slice ax3 ns cx3, .slice af3 nf cf3]
       obtain ⟨y10, hy10⟩ : ∃ y, y9.setRow (y7.heap.size) #[.int .i64 W, .int .i64 H, .slice al3 nl cl3, .slice ad3 nd cd3, .slice an3 nn cn3, .slice ab3 nb cb3, .slice ax3 ns cx3, .slice af3 nf cf3] = y := ⟨_, rfl⟩
       have hO : ∀ k, k ≠ y7.heap.size → y10.heap[k]? = y9.heap[k]? := fun k hk => by rw [← hy10]; exact setRow_other _ _ _ _ hk
       rw [hy10] at hN HUx ⊢
       clear hy10
       have HU10 := Lib.hid HUx
       clear HUx
       have hr10_0 := (hO _ (by omega)).trans hr9_0
       have hr10_1 := (hO _ (by omega)).trans hr9_1
       have hr10_2 := (hO _ (by omega)).trans hr9_2
       have hr10_3 := hN
       clear hN
       have HQA10 := Lib.hid (HQA9.out.keep (fun b hb => hO b (by omega)))
       have HQB10 := Lib.hid (HQB9.out.keep (fun b hb => hO b (by omega)))
       refine hK.out _ _ (⟨(hO _ (by omega)).trans hS9c.1, (hO _ (by omega)).trans hS9c.2⟩) (fun hS10s => ?_)
       clear hK K
       refine wpAnyH_ready (rs := [7]) (by kernel_rfl) (by simp) ?_
       refine AllReadyH.cons rfl (fun K hK => ?_) AllReadyH.nil
       refine step_store_row rfl 40 (.tmp 6) (.tmp 34) rfl #[.int .i64 0, .int .i64 0, .slice none 0 0, .slice none 0 0, .slice none 0 0, .slice none 0 0, .slice none 0 0, .slice none 0 0] #[.int .i64 W2, .int .i64 H2, .slice al4 nl2 cl4, .slice ad4 nd2 cd4, .slice an4 nn2 cn4, .slice ab4 nb2 cb4, .slice ax4 ns2 cx4, .slice af4 nf2 cf4] _ 40 hr10_2 rfl (by first | rfl | (go_simp; done) | (go_simp; rfl)) (by kernel_rfl) rfl (by simp [Value.oneCell']) ?_
       have hN := setRow_heap _ (y6.heap.size) _ #[.int .i64 W2, .int .i64 H2, .slice al4 nl2 cl4, .slice ad4 nd2 cd4, .slice an4 nn2 cn4, .slice ab4 nb2 cb4, .slice ax4 ns2 cx4, .slice af4 nf2 cf4] _ _ hr10_2
       have hsz := HU10.out.size
       have HUx := below_setRow (g := y6.heap.size) HU10.out (by first | omega | (simp at *; omega)) #[.int .i64 W2, .int .i64 H2, .slice al4 nl2 cl4, .slice ad4 nd2 cd4, .slice an4 nn2 cn4, .slice ab4 nb2 cb4, .slice ax4 ns2 cx4, .slice af4 nf2 cf4]
       obtain ⟨y11, hy11⟩ : ∃ y, y10.setRow (y6.heap.size) #[.int .i64 W2, .int .i64 H2, .slice al4 nl2 cl4, .slice ad4 nd2 cd4, .slice an4 nn2 cn4, .slice ab4 nb2 cb4, .slice ax4 ns2 cx4, .slice af4 nf2 cf4] = y := ⟨_, rfl⟩
       have hO : ∀ k, k ≠ y6.heap.size → y11.heap[k]? = y10.heap[k]? := fun k hk => by rw [← hy11]; exact setRow_other _ _ _ _ hk
       rw [hy11] at hN HUx ⊢
       clear hy11
       have HU11 := Lib.hid HUx
       clear HUx
       have hr11_0 := (hO _ (by omega)).trans hr10_0
       have hr11_1 := (hO _ (by omega)).trans hr10_1
       have hr11_2 := hN
       have hr11_3 := (hO _ (by omega)).trans hr10_3
       clear hN
       have HQA11 := Lib.hid (HQA10.out.keep (fun b hb => hO b (by omega)))
       have HQB11 := Lib.hid (HQB10.out.keep (fun b hb => hO b (by omega)))
       refine hK.out _ _ (⟨(hO _ (by omega)).trans hS10s.1, (hO _ (by omega)).trans hS10s.2⟩) (fun hS11s => ?_)
       clear hK K
       refine wpAnyH_done (by kernel_rfl) ?_ _
       go_wp2_with fail
       go_meet
       exact ⟨_, _, (⟨al3, cl3, ad3, cd3, an3, cn3, ab3, cb3, ax3, cx3, af3, cf3⟩ : Pl), (⟨al4, cl4, ad4, cd4, an4, cn4, ab4, cb4, ax4, cx4, af4, cf4⟩ : Pl), rfl, rfl, hr11_3, hr11_2, hr11_0, hr11_1, Lib.hid HQA11.out.fat, Lib.hid HQB11.out.fat, HU11⟩
    ·
     skip
     go_simp
     have hb6 := Ve.below_n1 y5 (.cells #[.int .i64 0, .int .i64 0, .slice none 0 0, .slice none 0 0, .slice none 0 0, .slice none 0 0, .slice none 0 0, .slice none 0 0] 40)
     have hN := heap_alloc_last y5 (.cells #[.int .i64 0, .int .i64 0, .slice none 0 0, .slice none 0 0, .slice none 0 0, .slice none 0 0, .slice none 0 0, .slice none 0 0] 40)
     obtain ⟨y6, hy6⟩ : ∃ y, y5.alloc (.cells #[.int .i64 0, .int .i64 0, .slice none 0 0, .slice none 0 0, .slice none 0 0, .slice none 0 0, .slice none 0 0, .slice none 0 0] 40) = y := ⟨_, rfl⟩
     rw [hy6] at hb6 hN ⊢
     clear hy6
     have hl6_0 := lt_heap hr5_0
     have hr6_0 := (hb6.block _ (lt_heap hr5_0)).trans hr5_0
     have hl6_1 := lt_heap hr5_1
     have hr6_1 := (hb6.block _ (lt_heap hr5_1)).trans hr5_1
     have hr6_2 := hN
     clear hN
     have HU6 := Lib.hid (HU5.out.trans (hb6.mono HU5.out.size))
     have hz6 := lt_heap hr6_2
     refine hK.out _ _ (⟨(hb6.block _ (lt_heap hS0.1)).trans hS0.1, (hb6.block _ (lt_heap hS0.2)).trans hS0.2⟩) (fun hS6a => ?_)
     clear hK K
     refine wpAnyH_ready (rs := [1, 5]) (by kernel_rfl) (by simp) ?_
     refine AllReadyH.cons rfl (fun K hK => ?_) (AllReadyH.cons rfl (fun K hK => ?_) AllReadyH.nil)
     ·
      skip
      go_simp
      go_wp2_with (go_at_call 7; refine (to_film_q (⟨W, H, nl, nd, nn, nb, ns, nf, L, D, N, B, S, F⟩ : Flm) (⟨al, cl, ad, cd, an, cn, ab, cb, ax, cx, af, cf⟩ : Pl) _ (HC.out.at_.on HU6.out) HC.out.bl HC.out.bd HC.out.bn HC.out.bb HC.out.bs HC.out.bf HC.out.ks HC.out.kf).mono ?_; rintro e y7 ⟨⟨⟨al3, cl3, ad3, cd3, an3, cn3, ab3, cb3, ax3, cx3, af3, cf3⟩, rfl, hq1⟩, hb7⟩)
      have hr7_0 := (hb7.block _ (lt_heap hr6_0)).trans hr6_0
      have hr7_1 := (hb7.block _ (lt_heap hr6_1)).trans hr6_1
      have hr7_2 := (hb7.block _ (lt_heap hr6_2)).trans hr6_2
      have HU7 := Lib.hid (HU6.out.trans (hb7.mono HU6.out.size))
      have hz7 := hb7.size
      have HQA7 := Lib.hid (hq1.lt)
      refine hK.out _ _ (⟨(hb7.block _ (lt_heap hS6a.1)).trans hS6a.1, (hb7.block _ (lt_heap hS6a.2)).trans hS6a.2⟩) (fun hS7c => ?_)
      clear hK K
      refine wpAnyH_ready (rs := [3, 5]) (by kernel_rfl) (by simp) ?_
      refine AllReadyH.cons rfl (fun K hK => ?_) (AllReadyH.cons rfl (fun K hK => ?_) AllReadyH.nil)
      ·
       skip
       go_simp
       go_wp2_with (go_at_call 7; refine (to_film_q (⟨W2, H2, nl2, nd2, nn2, nb2, ns2, nf2, L2, D2, N2, B2, S2, F2⟩ : Flm) (⟨al2, cl2, ad2, cd2, an2, cn2, ab2, cb2, ax2, cx2, af2, cf2⟩ : Pl) _ (HC2.out.at_.on HU7.out) HC2.out.bl HC2.out.bd HC2.out.bn HC2.out.bb HC2.out.bs HC2.out.bf HC2.out.ks HC2.out.kf).mono ?_; rintro e y8 ⟨⟨⟨al4, cl4, ad4, cd4, an4, cn4, ab4, cb4, ax4, cx4, af4, cf4⟩, rfl, hq2⟩, hb8⟩)
       have hr8_0 := (hb8.block _ (lt_heap hr7_0)).trans hr7_0
       have hr8_1 := (hb8.block _ (lt_heap hr7_1)).trans hr7_1
       have hr8_2 := (hb8.block _ (lt_heap hr7_2)).trans hr7_2
       have HU8 := Lib.hid (HU7.out.trans (hb8.mono HU7.out.size))
       have HQA8 := Lib.hid (HQA7.out.below hb8)
       have hz8 := hb8.size
       have HQB8 := Lib.hid (hq2.lt)
       refine hK.out _ _ (⟨(hb8.block _ (lt_heap hS7c.1)).trans hS7c.1, (hb8.block _ (lt_heap hS7c.2)).trans hS7c.2⟩) (fun hS8c => ?_)
       clear hK K
       refine wpAnyH_ready (rs := [5]) (by kernel_rfl) (by simp) ?_
       refine AllReadyH.cons rfl (fun K hK => ?_) AllReadyH.nil
       go_simp
       have hb9 := Ve.below_n1 y8 (.cells #[.int .i64 0, .int .i64 0, .slice none 0 0, .slice none 0 0, .slice none 0 0, .slice none 0 0, .slice none 0 0, .slice none 0 0] 40)
       have hN := heap_alloc_last y8 (.cells #[.int .i64 0, .int .i64 0, .slice none 0 0, .slice none 0 0, .slice none 0 0, .slice none 0 0, .slice none 0 0, .slice none 0 0] 40)
       obtain ⟨y9, hy9⟩ : ∃ y, y8.alloc (.cells #[.int .i64 0, .int .i64 0, .slice none 0 0, .slice none 0 0, .slice none 0 0, .slice none 0 0, .slice none 0 0, .slice none 0 0] 40) = y := ⟨_, rfl⟩
       rw [hy9] at hb9 hN ⊢
       clear hy9
       have hl9_0 := lt_heap hr8_0
       have hr9_0 := (hb9.block _ (lt_heap hr8_0)).trans hr8_0
       have hl9_1 := lt_heap hr8_1
       have hr9_1 := (hb9.block _ (lt_heap hr8_1)).trans hr8_1
       have hl9_2 := lt_heap hr8_2
       have hr9_2 := (hb9.block _ (lt_heap hr8_2)).trans hr8_2
       have hr9_3 := hN
       clear hN
       have HU9 := Lib.hid (HU8.out.trans (hb9.mono HU8.out.size))
       have HQA9 := Lib.hid (HQA8.out.below hb9)
       have HQB9 := Lib.hid (HQB8.out.below hb9)
       have hz9 := lt_heap hr9_3
       refine hK.out _ _ (⟨(hb9.block _ (lt_heap hS8c.1)).trans hS8c.1, (hb9.block _ (lt_heap hS8c.2)).trans hS8c.2⟩) (fun hS9a => ?_)
       clear hK K
       refine wpAnyH_ready (rs := [6]) (by kernel_rfl) (by simp) ?_
       refine AllReadyH.cons rfl (fun K hK => ?_) AllReadyH.nil
       refine step_store_row rfl 40 (.tmp 5) (.tmp 32) rfl #[.int .i64 0, .int .i64 0, .slice none 0 0, .slice none 0 0, .slice none 0 0, .slice none 0 0, .slice none 0 0, .slice none 0 0] #[.int .i64 W, .int .i64 H, .slice al3 nl cl3, .slice ad3 nd cd3, .slice an3 nn cn3, .slice ab3 nb cb3, .slice ax3 ns cx3, .slice af3 nf cf3] _ 40 hr9_2 rfl (by first | rfl | (go_simp; done) | (go_simp; rfl)) (by kernel_rfl) rfl (by simp [Value.oneCell']) ?_
       have hN := setRow_heap _ (y5.heap.size) _ #[.int .i64 W, .int .i64 H, .slice al3 nl cl3, .slice ad3 nd cd3, .slice an3 nn cn3, .slice ab3 nb cb3, .slice ax3 ns cx3, .slice af3 nf cf3] _ _ hr9_2
       have hsz := HU9.out.size
       have HUx := below_setRow (g := y5.heap.size) HU9.out (by first | omega | (simp at *; omega)) #[.int .i64 W, .int .i64 H, .slice al3 nl cl3, .slice ad3 nd cd3, .slice an3 nn cn3, .slice ab3 nb cb3, .slice ax3 ns cx3, .slice af3 nf cf3]
       obtain ⟨y10, hy10⟩ : ∃ y, y9.setRow (y5.heap.size) #[.int .i64 W, .int .i64 H, .slice al3 nl cl3, .slice ad3 nd cd3, .slice an3 nn cn3, .slice ab3 nb cb3, .slice ax3 ns cx3, .slice af3 nf cf3] = y := ⟨_, rfl⟩
       have hO : ∀ k, k ≠ y5.heap.size → y10.heap[k]? = y9.heap[k]? := fun k hk => by rw [← hy10]; exact setRow_other _ _ _ _ hk
       rw [hy10] at hN HUx ⊢
       clear hy10
       have HU10 := Lib.hid HUx
       clear HUx
       have hr10_0 := (hO _ (by omega)).trans hr9_0
       have hr10_1 := (hO _ (by omega)).trans hr9_1
       have hr10_2 := hN
       have hr10_3 := (hO _ (by omega)).trans hr9_3
       clear hN
       have HQA10 := Lib.hid (HQA9.out.keep (fun b hb => hO b (by omega)))
       have HQB10 := Lib.hid (HQB9.out.keep (fun b hb => hO b (by omega)))
       refine hK.out _ _ (⟨(hO _ (by omega)).trans hS9a.1, (hO _ (by omega)).trans hS9a.2⟩) (fun hS10s => ?_)
       clear hK K
       refine wpAnyH_ready (rs := [7]) (by kernel_rfl) (by simp) ?_
       refine AllReadyH.cons rfl (fun K hK => ?_) AllReadyH.nil
       refine step_store_row rfl 40 (.tmp 6) (.tmp 34) rfl #[.int .i64 0, .int .i64 0, .slice none 0 0, .slice none 0 0, .slice none 0 0, .slice none 0 0, .slice none 0 0, .slice none 0 0] #[.int .i64 W2, .int .i64 H2, .slice al4 nl2 cl4, .slice ad4 nd2 cd4, .slice an4 nn2 cn4, .slice ab4 nb2 cb4, .slice ax4 ns2 cx4, .slice af4 nf2 cf4] _ 40 hr10_3 rfl (by first | rfl | (go_simp; done) | (go_simp; rfl)) (by kernel_rfl) rfl (by simp [Value.oneCell']) ?_
       have hN := setRow_heap _ (y8.heap.size) _ #[.int .i64 W2, .int .i64 H2, .slice al4 nl2 cl4, .slice ad4 nd2 cd4, .slice an4 nn2 cn4, .slice ab4 nb2 cb4, .slice ax4 ns2 cx4, .slice af4 nf2 cf4] _ _ hr10_3
       have hsz := HU10.out.size
       have HUx := below_setRow (g := y8.heap.size) HU10.out (by first | omega | (simp at *; omega)) #[.int .i64 W2, .int .i64 H2, .slice al4 nl2 cl4, .slice ad4 nd2 cd4, .slice an4 nn2 cn4, .slice ab4 nb2 cb4, .slice ax4 ns2 cx4, .slice af4 nf2 cf4]
       obtain ⟨y11, hy11⟩ : ∃ y, y10.setRow (y8.heap.size) #[.int .i64 W2, .int .i64 H2, .slice al4 nl2 cl4, .slice ad4 nd2 cd4, .slice an4 nn2 cn4, .slice ab4 nb2 cb4, .slice ax4 ns2 cx4, .slice af4 nf2 cf4] = y := ⟨_, rfl⟩
       have hO : ∀ k, k ≠ y8.heap.size → y11.heap[k]? = y10.heap[k]? := fun k hk => by rw [← hy11]; exact setRow_other _ _ _ _ hk
       rw [hy11] at hN HUx ⊢
       clear hy11
       have HU11 := Lib.hid HUx
       clear HUx
       have hr11_0 := (hO _ (by omega)).trans hr10_0
       have hr11_1 := (hO _ (by omega)).trans hr10_1
       have hr11_2 := (hO _ (by omega)).trans hr10_2
       have hr11_3 := hN
       clear hN
       have HQA11 := Lib.hid (HQA10.out.keep (fun b hb => hO b (by omega)))
       have HQB11 := Lib.hid (HQB10.out.keep (fun b hb => hO b (by omega)))
       refine hK.out _ _ (⟨(hO _ (by omega)).trans hS10s.1, (hO _ (by omega)).trans hS10s.2⟩) (fun hS11s => ?_)
       clear hK K
       refine wpAnyH_done (by kernel_rfl) ?_ _
       go_wp2_with fail
       go_meet
       exact ⟨_, _, (⟨al3, cl3, ad3, cd3, an3, cn3, ab3, cb3, ax3, cx3, af3, cf3⟩ : Pl), (⟨al4, cl4, ad4, cd4, an4, cn4, ab4, cb4, ax4, cx4, af4, cf4⟩ : Pl), rfl, rfl, hr11_2, hr11_3, hr11_0, hr11_1, Lib.hid HQA11.out.fat, Lib.hid HQB11.out.fat, HU11⟩
      ·
       skip
       go_simp
       have hb8 := Ve.below_n1 y7 (.cells #[.int .i64 0, .int .i64 0, .slice none 0 0, .slice none 0 0, .slice none 0 0, .slice none 0 0, .slice none 0 0, .slice none 0 0] 40)
       have hN := heap_alloc_last y7 (.cells #[.int .i64 0, .int .i64 0, .slice none 0 0, .slice none 0 0, .slice none 0 0, .slice none 0 0, .slice none 0 0, .slice none 0 0] 40)
       obtain ⟨y8, hy8⟩ : ∃ y, y7.alloc (.cells #[.int .i64 0, .int .i64 0, .slice none 0 0, .slice none 0 0, .slice none 0 0, .slice none 0 0, .slice none 0 0, .slice none 0 0] 40) = y := ⟨_, rfl⟩
       rw [hy8] at hb8 hN ⊢
       clear hy8
       have hl8_0 := lt_heap hr7_0
       have hr8_0 := (hb8.block _ (lt_heap hr7_0)).trans hr7_0
       have hl8_1 := lt_heap hr7_1
       have hr8_1 := (hb8.block _ (lt_heap hr7_1)).trans hr7_1
       have hl8_2 := lt_heap hr7_2
       have hr8_2 := (hb8.block _ (lt_heap hr7_2)).trans hr7_2
       have hr8_3 := hN
       clear hN
       have HU8 := Lib.hid (HU7.out.trans (hb8.mono HU7.out.size))
       have HQA8 := Lib.hid (HQA7.out.below hb8)
       have hz8 := lt_heap hr8_3
       refine hK.out _ _ (⟨(hb8.block _ (lt_heap hS7c.1)).trans hS7c.1, (hb8.block _ (lt_heap hS7c.2)).trans hS7c.2⟩) (fun hS8a => ?_)
       clear hK K
       refine wpAnyH_ready (rs := [3]) (by kernel_rfl) (by simp) ?_
       refine AllReadyH.cons rfl (fun K hK => ?_) AllReadyH.nil
       go_simp
       go_wp2_with (go_at_call 7; refine (to_film_q (⟨W2, H2, nl2, nd2, nn2, nb2, ns2, nf2, L2, D2, N2, B2, S2, F2⟩ : Flm) (⟨al2, cl2, ad2, cd2, an2, cn2, ab2, cb2, ax2, cx2, af2, cf2⟩ : Pl) _ (HC2.out.at_.on HU8.out) HC2.out.bl HC2.out.bd HC2.out.bn HC2.out.bb HC2.out.bs HC2.out.bf HC2.out.ks HC2.out.kf).mono ?_; rintro e y9 ⟨⟨⟨al4, cl4, ad4, cd4, an4, cn4, ab4, cb4, ax4, cx4, af4, cf4⟩, rfl, hq2⟩, hb9⟩)
       have hr9_0 := (hb9.block _ (lt_heap hr8_0)).trans hr8_0
       have hr9_1 := (hb9.block _ (lt_heap hr8_1)).trans hr8_1
       have hr9_2 := (hb9.block _ (lt_heap hr8_2)).trans hr8_2
       have hr9_3 := (hb9.block _ (lt_heap hr8_3)).trans hr8_3
       have HU9 := Lib.hid (HU8.out.trans (hb9.mono HU8.out.size))
       have HQA9 := Lib.hid (HQA8.out.below hb9)
       have hz9 := hb9.size
       have HQB9 := Lib.hid (hq2.lt)
       refine hK.out _ _ (⟨(hb9.block _ (lt_heap hS8a.1)).trans hS8a.1, (hb9.block _ (lt_heap hS8a.2)).trans hS8a.2⟩) (fun hS9c => ?_)
       clear hK K
       refine wpAnyH_ready (rs := [6]) (by kernel_rfl) (by simp) ?_
       refine AllReadyH.cons rfl (fun K hK => ?_) AllReadyH.nil
       refine step_store_row rfl 40 (.tmp 5) (.tmp 32) rfl #[.int .i64 0, .int .i64 0, .slice none 0 0, .slice none 0 0, .slice none 0 0, .slice none 0 0, .slice none 0 0, .slice none 0 0] #[.int .i64 W, .int .i64 H, .slice al3 nl cl3, .slice ad3 nd cd3, .slice an3 nn cn3, .slice ab3 nb cb3, .slice ax3 ns cx3, .slice af3 nf cf3] _ 40 hr9_2 rfl (by first | rfl | (go_simp; done) | (go_simp; rfl)) (by kernel_rfl) rfl (by simp [Value.oneCell']) ?_
       have hN := setRow_heap _ (y5.heap.size) _ #[.int .i64 W, .int .i64 H, .slice al3 nl cl3, .slice ad3 nd cd3, .slice an3 nn cn3, .slice ab3 nb cb3, .slice ax3 ns cx3, .slice af3 nf cf3] _ _ hr9_2
       have hsz := HU9.out.size
       have HUx := below_setRow (g := y5.heap.size) HU9.out (by first | omega | (simp at *; omega)) #[.int .i64 W, .int .i64 H, .slice al3 nl cl3, .slice ad3 nd cd3, .slice an3 nn cn3, .slice ab3 nb cb3, .slice ax3 ns cx3, .slice af3 nf cf3]
       obtain ⟨y10, hy10⟩ : ∃ y, y9.setRow (y5.heap.size) #[.int .i64 W, .int .i64 H, .slice al3 nl cl3, .slice ad3 nd cd3, .slice an3 nn cn3, .slice ab3 nb cb3, .slice ax3 ns cx3, .slice af3 nf cf3] = y := ⟨_, rfl⟩
       have hO : ∀ k, k ≠ y5.heap.size → y10.heap[k]? = y9.heap[k]? := fun k hk => by rw [← hy10]; exact setRow_other _ _ _ _ hk
       rw [hy10] at hN HUx ⊢
       clear hy10
       have HU10 := Lib.hid HUx
       clear HUx
       have hr10_0 := (hO _ (by omega)).trans hr9_0
       have hr10_1 := (hO _ (by omega)).trans hr9_1
       have hr10_2 := hN
       have hr10_3 := (hO _ (by omega)).trans hr9_3
       clear hN
       have HQA10 := Lib.hid (HQA9.out.keep (fun b hb => hO b (by omega)))
       have HQB10 := Lib.hid (HQB9.out.keep (fun b hb => hO b (by omega)))
       refine hK.out _ _ (⟨(hO _ (by omega)).trans hS9c.1, (hO _ (by omega)).trans hS9c.2⟩) (fun hS10s => ?_)
       clear hK K
       refine wpAnyH_ready (rs := [7]) (by kernel_rfl) (by simp) ?_
       refine AllReadyH.cons rfl (fun K hK => ?_) AllReadyH.nil
       refine step_store_row rfl 40 (.tmp 6) (.tmp 34) rfl #[.int .i64 0, .int .i64 0, .slice none 0 0, .slice none 0 0, .slice none 0 0, .slice none 0 0, .slice none 0 0, .slice none 0 0] #[.int .i64 W2, .int .i64 H2, .slice al4 nl2 cl4, .slice ad4 nd2 cd4, .slice an4 nn2 cn4, .slice ab4 nb2 cb4, .slice ax4 ns2 cx4, .slice af4 nf2 cf4] _ 40 hr10_3 rfl (by first | rfl | (go_simp; done) | (go_simp; rfl)) (by kernel_rfl) rfl (by simp [Value.oneCell']) ?_
       have hN := setRow_heap _ (y7.heap.size) _ #[.int .i64 W2, .int .i64 H2, .slice al4 nl2 cl4, .slice ad4 nd2 cd4, .slice an4 nn2 cn4, .slice ab4 nb2 cb4, .slice ax4 ns2 cx4, .slice af4 nf2 cf4] _ _ hr10_3
       have hsz := HU10.out.size
       have HUx := below_setRow (g := y7.heap.size) HU10.out (by first | omega | (simp at *; omega)) #[.int .i64 W2, .int .i64 H2, .slice al4 nl2 cl4, .slice ad4 nd2 cd4, .slice an4 nn2 cn4, .slice ab4 nb2 cb4, .slice ax4 ns2 cx4, .slice af4 nf2 cf4]
       obtain ⟨y11, hy11⟩ : ∃ y, y10.setRow (y7.heap.size) #[.int .i64 W2, .int .i64 H2, .slice al4 nl2 cl4, .slice ad4 nd2 cd4, .slice an4 nn2 cn4, .slice ab4 nb2 cb4, .slice ax4 ns2 cx4, .slice af4 nf2 cf4] = y := ⟨_, rfl⟩
       have hO : ∀ k, k ≠ y7.heap.size → y11.heap[k]? = y10.heap[k]? := fun k hk => by rw [← hy11]; exact setRow_other _ _ _ _ hk
       rw [hy11] at hN HUx ⊢
       clear hy11
       have HU11 := Lib.hid HUx
       clear HUx
       have hr11_0 := (hO _ (by omega)).trans hr10_0
       have hr11_1 := (hO _ (by omega)).trans hr10_1
       have hr11_2 := (hO _ (by omega)).trans hr10_2
       have hr11_3 := hN
       clear hN
       have HQA11 := Lib.hid (HQA10.out.keep (fun b hb => hO b (by omega)))
       have HQB11 := Lib.hid (HQB10.out.keep (fun b hb => hO b (by omega)))
       refine hK.out _ _ (⟨(hO _ (by omega)).trans hS10s.1, (hO _ (by omega)).trans hS10s.2⟩) (fun hS11s => ?_)
       clear hK K
       refine wpAnyH_done (by kernel_rfl) ?_ _
       go_wp2_with fail
       go_meet
       exact ⟨_, _, (⟨al3, cl3, ad3, cd3, an3, cn3, ab3, cb3, ax3, cx3, af3, cf3⟩ : Pl), (⟨al4, cl4, ad4, cd4, an4, cn4, ab4, cb4, ax4, cx4, af4, cf4⟩ : Pl), rfl, rfl, hr11_2, hr11_3, hr11_0, hr11_1, Lib.hid HQA11.out.fat, Lib.hid HQB11.out.fat, HU11⟩
     ·
      skip
      go_simp
      have hb7 := Ve.below_n1 y6 (.cells #[.int .i64 0, .int .i64 0, .slice none 0 0, .slice none 0 0, .slice none 0 0, .slice none 0 0, .slice none 0 0, .slice none 0 0] 40)
      have hN := heap_alloc_last y6 (.cells #[.int .i64 0, .int .i64 0, .slice none 0 0, .slice none 0 0, .slice none 0 0, .slice none 0 0, .slice none 0 0, .slice none 0 0] 40)
      obtain ⟨y7, hy7⟩ : ∃ y, y6.alloc (.cells #[.int .i64 0, .int .i64 0, .slice none 0 0, .slice none 0 0, .slice none 0 0, .slice none 0 0, .slice none 0 0, .slice none 0 0] 40) = y := ⟨_, rfl⟩
      rw [hy7] at hb7 hN ⊢
      clear hy7
      have hl7_0 := lt_heap hr6_0
      have hr7_0 := (hb7.block _ (lt_heap hr6_0)).trans hr6_0
      have hl7_1 := lt_heap hr6_1
      have hr7_1 := (hb7.block _ (lt_heap hr6_1)).trans hr6_1
      have hl7_2 := lt_heap hr6_2
      have hr7_2 := (hb7.block _ (lt_heap hr6_2)).trans hr6_2
      have hr7_3 := hN
      clear hN
      have HU7 := Lib.hid (HU6.out.trans (hb7.mono HU6.out.size))
      have hz7 := lt_heap hr7_3
      refine hK.out _ _ (⟨(hb7.block _ (lt_heap hS6a.1)).trans hS6a.1, (hb7.block _ (lt_heap hS6a.2)).trans hS6a.2⟩) (fun hS7a => ?_)
      clear hK K
      refine wpAnyH_ready (rs := [1]) (by kernel_rfl) (by simp) ?_
      refine AllReadyH.cons rfl (fun K hK => ?_) AllReadyH.nil
      go_simp
      go_wp2_with (go_at_call 7; refine (to_film_q (⟨W, H, nl, nd, nn, nb, ns, nf, L, D, N, B, S, F⟩ : Flm) (⟨al, cl, ad, cd, an, cn, ab, cb, ax, cx, af, cf⟩ : Pl) _ (HC.out.at_.on HU7.out) HC.out.bl HC.out.bd HC.out.bn HC.out.bb HC.out.bs HC.out.bf HC.out.ks HC.out.kf).mono ?_; rintro e y8 ⟨⟨⟨al3, cl3, ad3, cd3, an3, cn3, ab3, cb3, ax3, cx3, af3, cf3⟩, rfl, hq1⟩, hb8⟩)
      have hr8_0 := (hb8.block _ (lt_heap hr7_0)).trans hr7_0
      have hr8_1 := (hb8.block _ (lt_heap hr7_1)).trans hr7_1
      have hr8_2 := (hb8.block _ (lt_heap hr7_2)).trans hr7_2
      have hr8_3 := (hb8.block _ (lt_heap hr7_3)).trans hr7_3
      have HU8 := Lib.hid (HU7.out.trans (hb8.mono HU7.out.size))
      have hz8 := hb8.size
      have HQA8 := Lib.hid (hq1.lt)
      refine hK.out _ _ (⟨(hb8.block _ (lt_heap hS7a.1)).trans hS7a.1, (hb8.block _ (lt_heap hS7a.2)).trans hS7a.2⟩) (fun hS8c => ?_)
      clear hK K
      refine wpAnyH_ready (rs := [3]) (by kernel_rfl) (by simp) ?_
      refine AllReadyH.cons rfl (fun K hK => ?_) AllReadyH.nil
      go_simp
      go_wp2_with (go_at_call 7; refine (to_film_q (⟨W2, H2, nl2, nd2, nn2, nb2, ns2, nf2, L2, D2, N2, B2, S2, F2⟩ : Flm) (⟨al2, cl2, ad2, cd2, an2, cn2, ab2, cb2, ax2, cx2, af2, cf2⟩ : Pl) _ (HC2.out.at_.on HU8.out) HC2.out.bl HC2.out.bd HC2.out.bn HC2.out.bb HC2.out.bs HC2.out.bf HC2.out.ks HC2.out.kf).mono ?_; rintro e y9 ⟨⟨⟨al4, cl4, ad4, cd4, an4, cn4, ab4, cb4, ax4, cx4, af4, cf4⟩, rfl, hq2⟩, hb9⟩)
      have hr9_0 := (hb9.block _ (lt_heap hr8_0)).trans hr8_0
      have hr9_1 := (hb9.block _ (lt_heap hr8_1)).trans hr8_1
      have hr9_2 := (hb9.block _ (lt_heap hr8_2)).trans hr8_2
      have hr9_3 := (hb9.block _ (lt_heap hr8_3)).trans hr8_3
      have HU9 := Lib.hid (HU8.out.trans (hb9.mono HU8.out.size))
      have HQA9 := Lib.hid (HQA8.out.below hb9)
      have hz9 := hb9.size
      have HQB9 := Lib.hid (hq2.lt)
      refine hK.out _ _ (⟨(hb9.block _ (lt_heap hS8c.1)).trans hS8c.1, (hb9.block _ (lt_heap hS8c.2)).trans hS8c.2⟩) (fun hS9c => ?_)
      clear hK K
      refine wpAnyH_ready (rs := [6]) (by kernel_rfl) (by simp) ?_
      refine AllReadyH.cons rfl (fun K hK => ?_) AllReadyH.nil
      refine step_store_row rfl 40 (.tmp 5) (.tmp 32) rfl #[.int .i64 0, .int .i64 0, .slice none 0 0, .slice none 0 0, .slice none 0 0, .slice none 0 0, .slice none 0 0, .slice none 0 0] #[.int .i64 W, .int .i64 H, .slice al3 nl cl3, .slice ad3 nd cd3, .slice an3 nn cn3, .slice ab3 nb cb3, .slice ax3 ns cx3, .slice af3 nf cf3] _ 40 hr9_2 rfl (by first | rfl | (go_simp; done) | (go_simp; rfl)) (by kernel_rfl) rfl (by simp [Value.oneCell']) ?_
      have hN := setRow_heap _ (y5.heap.size) _ #[.int .i64 W, .int .i64 H, .slice al3 nl cl3, .slice ad3 nd cd3, .slice an3 nn cn3, .slice ab3 nb cb3, .slice ax3 ns cx3, .slice af3 nf cf3] _ _ hr9_2
      have hsz := HU9.out.size
      have HUx := below_setRow (g := y5.heap.size) HU9.out (by first | omega | (simp at *; omega)) #[.int .i64 W, .int .i64 H, .slice al3 nl cl3, .slice ad3 nd cd3, .slice an3 nn cn3, .slice ab3 nb cb3, .slice ax3 ns cx3, .slice af3 nf cf3]
      obtain ⟨y10, hy10⟩ : ∃ y, y9.setRow (y5.heap.size) #[.int .i64 W, .int .i64 H, .slice al3 nl cl3, .slice ad3 nd cd3, .slice an3 nn cn3, .slice ab3 nb cb3, .slice ax3 ns cx3, .slice af3 nf cf3] = y := ⟨_, rfl⟩
      have hO : ∀ k, k ≠ y5.heap.size → y10.heap[k]? = y9.heap[k]? := fun k hk => by rw [← hy10]; exact setRow_other _ _ _ _ hk
      rw [hy10] at hN HUx ⊢
      clear hy10
      have HU10 := Lib.hid HUx
      clear HUx
      have hr10_0 := (hO _ (by omega)).trans hr9_0
      have hr10_1 := (hO _ (by omega)).trans hr9_1
      have hr10_2 := hN
      have hr10_3 := (hO _ (by omega)).trans hr9_3
      clear hN
      have HQA10 := Lib.hid (HQA9.out.keep (fun b hb => hO b (by omega)))
      have HQB10 := Lib.hid (HQB9.out.keep (fun b hb => hO b (by omega)))
      refine hK.out _ _ (⟨(hO _ (by omega)).trans hS9c.1, (hO _ (by omega)).trans hS9c.2⟩) (fun hS10s => ?_)
      clear hK K
      refine wpAnyH_ready (rs := [7]) (by kernel_rfl) (by simp) ?_
      refine AllReadyH.cons rfl (fun K hK => ?_) AllReadyH.nil
      refine step_store_row rfl 40 (.tmp 6) (.tmp 34) rfl #[.int .i64 0, .int .i64 0, .slice none 0 0, .slice none 0 0, .slice none 0 0, .slice none 0 0, .slice none 0 0, .slice none 0 0] #[.int .i64 W2, .int .i64 H2, .slice al4 nl2 cl4, .slice ad4 nd2 cd4, .slice an4 nn2 cn4, .slice ab4 nb2 cb4, .slice ax4 ns2 cx4, .slice af4 nf2 cf4] _ 40 hr10_3 rfl (by first | rfl | (go_simp; done) | (go_simp; rfl)) (by kernel_rfl) rfl (by simp [Value.oneCell']) ?_
      have hN := setRow_heap _ (y6.heap.size) _ #[.int .i64 W2, .int .i64 H2, .slice al4 nl2 cl4, .slice ad4 nd2 cd4, .slice an4 nn2 cn4, .slice ab4 nb2 cb4, .slice ax4 ns2 cx4, .slice af4 nf2 cf4] _ _ hr10_3
      have hsz := HU10.out.size
      have HUx := below_setRow (g := y6.heap.size) HU10.out (by first | omega | (simp at *; omega)) #[.int .i64 W2, .int .i64 H2, .slice al4 nl2 cl4, .slice ad4 nd2 cd4, .slice an4 nn2 cn4, .slice ab4 nb2 cb4, .slice ax4 ns2 cx4, .slice af4 nf2 cf4]
      obtain ⟨y11, hy11⟩ : ∃ y, y10.setRow (y6.heap.size) #[.int .i64 W2, .int .i64 H2, .slice al4 nl2 cl4, .slice ad4 nd2 cd4, .slice an4 nn2 cn4, .slice ab4 nb2 cb4, .slice ax4 ns2 cx4, .slice af4 nf2 cf4] = y := ⟨_, rfl⟩
      have hO : ∀ k, k ≠ y6.heap.size → y11.heap[k]? = y10.heap[k]? := fun k hk => by rw [← hy11]; exact setRow_other _ _ _ _ hk
      rw [hy11] at hN HUx ⊢
      clear hy11
      have HU11 := Lib.hid HUx
      clear HUx
      have hr11_0 := (hO _ (by omega)).trans hr10_0
      have hr11_1 := (hO _ (by omega)).trans hr10_1
      have hr11_2 := (hO _ (by omega)).trans hr10_2
      have hr11_3 := hN
      clear hN
      have HQA11 := Lib.hid (HQA10.out.keep (fun b hb => hO b (by omega)))
      have HQB11 := Lib.hid (HQB10.out.keep (fun b hb => hO b (by omega)))
      refine hK.out _ _ (⟨(hO _ (by omega)).trans hS10s.1, (hO _ (by omega)).trans hS10s.2⟩) (fun hS11s => ?_)
      clear hK K
      refine wpAnyH_done (by kernel_rfl) ?_ _
      go_wp2_with fail
      go_meet
      exact ⟨_, _, (⟨al3, cl3, ad3, cd3, an3, cn3, ab3, cb3, ax3, cx3, af3, cf3⟩ : Pl), (⟨al4, cl4, ad4, cd4, an4, cn4, ab4, cb4, ax4, cx4, af4, cf4⟩ : Pl), rfl, rfl, hr11_2, hr11_3, hr11_0, hr11_1, Lib.hid HQA11.out.fat, Lib.hid HQB11.out.fat, HU11⟩
    ·
     skip
     go_simp
     have hb6 := Ve.below_n1 y5 (.cells #[.int .i64 0, .int .i64 0, .slice none 0 0, .slice none 0 0, .slice none 0 0, .slice none 0 0, .slice none 0 0, .slice none 0 0] 40)
     have hN := heap_alloc_last y5 (.cells #[.int .i64 0, .int .i64 0, .slice none 0 0, .slice none 0 0, .slice none 0 0, .slice none 0 0, .slice none 0 0, .slice none 0 0] 40)
     obtain ⟨y6, hy6⟩ : ∃ y, y5.alloc (.cells #[.int .i64 0, .int .i64 0, .slice none 0 0, .slice none 0 0, .slice none 0 0, .slice none 0 0, .slice none 0 0, .slice none 0 0] 40) = y := ⟨_, rfl⟩
     rw [hy6] at hb6 hN ⊢
     clear hy6
     have hl6_0 := lt_heap hr5_0
     have hr6_0 := (hb6.block _ (lt_heap hr5_0)).trans hr5_0
     have hl6_1 := lt_heap hr5_1
     have hr6_1 := (hb6.block _ (lt_heap hr5_1)).trans hr5_1
     have hr6_2 := hN
     clear hN
     have HU6 := Lib.hid (HU5.out.trans (hb6.mono HU5.out.size))
     have hz6 := lt_heap hr6_2
     refine hK.out _ _ (⟨(hb6.block _ (lt_heap hS0.1)).trans hS0.1, (hb6.block _ (lt_heap hS0.2)).trans hS0.2⟩) (fun hS6a => ?_)
     clear hK K
     refine wpAnyH_ready (rs := [1, 4]) (by kernel_rfl) (by simp) ?_
     refine AllReadyH.cons rfl (fun K hK => ?_) (AllReadyH.cons rfl (fun K hK => ?_) AllReadyH.nil)
     ·
      skip
      go_simp
      go_wp2_with (go_at_call 7; refine (to_film_q (⟨W, H, nl, nd, nn, nb, ns, nf, L, D, N, B, S, F⟩ : Flm) (⟨al, cl, ad, cd, an, cn, ab, cb, ax, cx, af, cf⟩ : Pl) _ (HC.out.at_.on HU6.out) HC.out.bl HC.out.bd HC.out.bn HC.out.bb HC.out.bs HC.out.bf HC.out.ks HC.out.kf).mono ?_; rintro e y7 ⟨⟨⟨al3, cl3, ad3, cd3, an3, cn3, ab3, cb3, ax3, cx3, af3, cf3⟩, rfl, hq1⟩, hb7⟩)
      have hr7_0 := (hb7.block _ (lt_heap hr6_0)).trans hr6_0
      have hr7_1 := (hb7.block _ (lt_heap hr6_1)).trans hr6_1
      have hr7_2 := (hb7.block _ (lt_heap hr6_2)).trans hr6_2
      have HU7 := Lib.hid (HU6.out.trans (hb7.mono HU6.out.size))
      have hz7 := hb7.size
      have HQA7 := Lib.hid (hq1.lt)
      refine hK.out _ _ (⟨(hb7.block _ (lt_heap hS6a.1)).trans hS6a.1, (hb7.block _ (lt_heap hS6a.2)).trans hS6a.2⟩) (fun hS7c => ?_)
      clear hK K
      refine wpAnyH_ready (rs := [3, 4]) (by kernel_rfl) (by simp) ?_
      refine AllReadyH.cons rfl (fun K hK => ?_) (AllReadyH.cons rfl (fun K hK => ?_) AllReadyH.nil)
      ·
       skip
       go_simp
       go_wp2_with (go_at_call 7; refine (to_film_q (⟨W2, H2, nl2, nd2, nn2, nb2, ns2, nf2, L2, D2, N2, B2, S2, F2⟩ : Flm) (⟨al2, cl2, ad2, cd2, an2, cn2, ab2, cb2, ax2, cx2, af2, cf2⟩ : Pl) _ (HC2.out.at_.on HU7.out) HC2.out.bl HC2.out.bd HC2.out.bn HC2.out.bb HC2.out.bs HC2.out.bf HC2.out.ks HC2.out.kf).mono ?_; rintro e y8 ⟨⟨⟨al4, cl4, ad4, cd4, an4, cn4, ab4, cb4, ax4, cx4, af4, cf4⟩, rfl, hq2⟩, hb8⟩)
       have hr8_0 := (hb8.block _ (lt_heap hr7_0)).trans hr7_0
       have hr8_1 := (hb8.block _ (lt_heap hr7_1)).trans hr7_1
       have hr8_2 := (hb8.block _ (lt_heap hr7_2)).trans hr7_2
       have HU8 := Lib.hid (HU7.out.trans (hb8.mono HU7.out.size))
       have HQA8 := Lib.hid (HQA7.out.below hb8)
       have hz8 := hb8.size
       have HQB8 := Lib.hid (hq2.lt)
       refine hK.out _ _ (⟨(hb8.block _ (lt_heap hS7c.1)).trans hS7c.1, (hb8.block _ (lt_heap hS7c.2)).trans hS7c.2⟩) (fun hS8c => ?_)
       clear hK K
       refine wpAnyH_ready (rs := [4]) (by kernel_rfl) (by simp) ?_
       refine AllReadyH.cons rfl (fun K hK => ?_) AllReadyH.nil
       go_simp
       have hb9 := Ve.below_n1 y8 (.cells #[.int .i64 0, .int .i64 0, .slice none 0 0, .slice none 0 0, .slice none 0 0, .slice none 0 0, .slice none 0 0, .slice none 0 0] 40)
       have hN := heap_alloc_last y8 (.cells #[.int .i64 0, .int .i64 0, .slice none 0 0, .slice none 0 0, .slice none 0 0, .slice none 0 0, .slice none 0 0, .slice none 0 0] 40)
       obtain ⟨y9, hy9⟩ : ∃ y, y8.alloc (.cells #[.int .i64 0, .int .i64 0, .slice none 0 0, .slice none 0 0, .slice none 0 0, .slice none 0 0, .slice none 0 0, .slice none 0 0] 40) = y := ⟨_, rfl⟩
       rw [hy9] at hb9 hN ⊢
       clear hy9
       have hl9_0 := lt_heap hr8_0
       have hr9_0 := (hb9.block _ (lt_heap hr8_0)).trans hr8_0
       have hl9_1 := lt_heap hr8_1
       have hr9_1 := (hb9.block _ (lt_heap hr8_1)).trans hr8_1
       have hl9_2 := lt_heap hr8_2
       have hr9_2 := (hb9.block _ (lt_heap hr8_2)).trans hr8_2
       have hr9_3 := hN
       clear hN
       have HU9 := Lib.hid (HU8.out.trans (hb9.mono HU8.out.size))
       have HQA9 := Lib.hid (HQA8.out.below hb9)
       have HQB9 := Lib.hid (HQB8.out.below hb9)
       have hz9 := lt_heap hr9_3
       refine hK.out _ _ (⟨(hb9.block _ (lt_heap hS8c.1)).trans hS8c.1, (hb9.block _ (lt_heap hS8c.2)).trans hS8c.2⟩) (fun hS9a => ?_)
       clear hK K
       refine wpAnyH_ready (rs := [6]) (by kernel_rfl) (by simp) ?_
       refine AllReadyH.cons rfl (fun K hK => ?_) AllReadyH.nil
       refine step_store_row rfl 40 (.tmp 5) (.tmp 32) rfl #[.int .i64 0, .int .i64 0, .slice none 0 0, .slice none 0 0, .slice none 0 0, .slice none 0 0, .slice none 0 0, .slice none 0 0] #[.int .i64 W, .int .i64 H, .slice al3 nl cl3, .slice ad3 nd cd3, .slice an3 nn cn3, .slice ab3 nb cb3, .slice ax3 ns cx3, .slice af3 nf cf3] _ 40 hr9_3 rfl (by first | rfl | (go_simp; done) | (go_simp; rfl)) (by kernel_rfl) rfl (by simp [Value.oneCell']) ?_
       have hN := setRow_heap _ (y8.heap.size) _ #[.int .i64 W, .int .i64 H, .slice al3 nl cl3, .slice ad3 nd cd3, .slice an3 nn cn3, .slice ab3 nb cb3, .slice ax3 ns cx3, .slice af3 nf cf3] _ _ hr9_3
       have hsz := HU9.out.size
       have HUx := below_setRow (g := y8.heap.size) HU9.out (by first | omega | (simp at *; omega)) #[.int .i64 W, .int .i64 H, .slice al3 nl cl3, .slice ad3 nd cd3, .slice an3 nn cn3, .slice ab3 nb cb3, .slice ax3 ns cx3, .slice af3 nf cf3]
       obtain ⟨y10, hy10⟩ : ∃ y, y9.setRow (y8.heap.size) #[.int .i64 W, .int .i64 H, .slice al3 nl cl3, .slice ad3 nd cd3, .slice an3 nn cn3, .slice ab3 nb cb3, .slice ax3 ns cx3, .slice af3 nf cf3] = y := ⟨_, rfl⟩
       have hO : ∀ k, k ≠ y8.heap.size → y10.heap[k]? = y9.heap[k]? := fun k hk => by rw [← hy10]; exact setRow_other _ _ _ _ hk
       rw [hy10] at hN HUx ⊢
       clear hy10
       have HU10 := Lib.hid HUx
       clear HUx
       have hr10_0 := (hO _ (by omega)).trans hr9_0
       have hr10_1 := (hO _ (by omega)).trans hr9_1
       have hr10_2 := (hO _ (by omega)).trans hr9_2
       have hr10_3 := hN
       clear hN
       have HQA10 := Lib.hid (HQA9.out.keep (fun b hb => hO b (by omega)))
       have HQB10 := Lib.hid (HQB9.out.keep (fun b hb => hO b (by omega)))
       refine hK.out _ _ (⟨(hO _ (by omega)).trans hS9a.1, (hO _ (by omega)).trans hS9a.2⟩) (fun hS10s => ?_)
       clear hK K
       refine wpAnyH_ready (rs := [7]) (by kernel_rfl) (by simp) ?_
       refine AllReadyH.cons rfl (fun K hK => ?_) AllReadyH.nil
       refine step_store_row rfl 40 (.tmp 6) (.tmp 34) rfl #[.int .i64 0, .int .i64 0, .slice none 0 0, .slice none 0 0, .slice none 0 0, .slice none 0 0, .slice none 0 0, .slice none 0 0] #[.int .i64 W2, .int .i64 H2, .slice al4 nl2 cl4, .slice ad4 nd2 cd4, .slice an4 nn2 cn4, .slice ab4 nb2 cb4, .slice ax4 ns2 cx4, .slice af4 nf2 cf4] _ 40 hr10_2 rfl (by first | rfl | (go_simp; done) | (go_simp; rfl)) (by kernel_rfl) rfl (by simp [Value.oneCell']) ?_
       have hN := setRow_heap _ (y5.heap.size) _ #[.int .i64 W2, .int .i64 H2, .slice al4 nl2 cl4, .slice ad4 nd2 cd4, .slice an4 nn2 cn4, .slice ab4 nb2 cb4, .slice ax4 ns2 cx4, .slice af4 nf2 cf4] _ _ hr10_2
       have hsz := HU10.out.size
       have HUx := below_setRow (g := y5.heap.size) HU10.out (by first | omega | (simp at *; omega)) #[.int .i64 W2, .int .i64 H2, .slice al4 nl2 cl4, .slice ad4 nd2 cd4, .slice an4 nn2 cn4, .slice ab4 nb2 cb4, .slice ax4 ns2 cx4, .slice af4 nf2 cf4]
       obtain ⟨y11, hy11⟩ : ∃ y, y10.setRow (y5.heap.size) #[.int .i64 W2, .int .i64 H2, .slice al4 nl2 cl4, .slice ad4 nd2 cd4, .slice an4 nn2 cn4, .slice ab4 nb2 cb4, .slice ax4 ns2 cx4, .slice af4 nf2 cf4] = y := ⟨_, rfl⟩
       have hO : ∀ k, k ≠ y5.heap.size → y11.heap[k]? = y10.heap[k]? := fun k hk => by rw [← hy11]; exact setRow_other _ _ _ _ hk
       rw [hy11] at hN HUx ⊢
       clear hy11
       have HU11 := Lib.hid HUx
       clear HUx
       have hr11_0 := (hO _ (by omega)).trans hr10_0
       have hr11_1 := (hO _ (by omega)).trans hr10_1
       have hr11_2 := hN
       have hr11_3 := (hO _ (by omega)).trans hr10_3
       clear hN
       have HQA11 := Lib.hid (HQA10.out.keep (fun b hb => hO b (by omega)))
       have HQB11 := Lib.hid (HQB10.out.keep (fun b hb => hO b (by omega)))
       refine hK.out _ _ (⟨(hO _ (by omega)).trans hS10s.1, (hO _ (by omega)).trans hS10s.2⟩) (fun hS11s => ?_)
       clear hK K
       refine wpAnyH_done (by kernel_rfl) ?_ _
       go_wp2_with fail
       go_meet
       exact ⟨_, _, (⟨al3, cl3, ad3, cd3, an3, cn3, ab3, cb3, ax3, cx3, af3, cf3⟩ : Pl), (⟨al4, cl4, ad4, cd4, an4, cn4, ab4, cb4, ax4, cx4, af4, cf4⟩ : Pl), rfl, rfl, hr11_3, hr11_2, hr11_0, hr11_1, Lib.hid HQA11.out.fat, Lib.hid HQB11.out.fat, HU11⟩
      ·
       skip
       go_simp
       have hb8 := Ve.below_n1 y7 (.cells #[.int .i64 0, .int .i64 0, .slice none 0 0, .slice none 0 0, .slice none 0 0, .slice none 0 0, .slice none 0 0, .slice none 0 0] 40)
       have hN := heap_alloc_last y7 (.cells #[.int .i64 0, .int .i64 0, .slice none 0 0, .slice none 0 0, .slice none 0 0, .slice none 0 0, .slice none 0 0, .slice none 0 0] 40)
       obtain ⟨y8, hy8⟩ : ∃ y, y7.alloc (.cells #[.int .i64 0, .int .i64 0, .slice none 0 0, .slice none 0 0, .slice none 0 0, .slice none 0 0, .slice none 0 0, .slice none 0 0] 40) = y := ⟨_, rfl⟩
       rw [hy8] at hb8 hN ⊢
       clear hy8
       have hl8_0 := lt_heap hr7_0
       have hr8_0 := (hb8.block _ (lt_heap hr7_0)).trans hr7_0
       have hl8_1 := lt_heap hr7_1
       have hr8_1 := (hb8.block _ (lt_heap hr7_1)).trans hr7_1
       have hl8_2 := lt_heap hr7_2
       have hr8_2 := (hb8.block _ (lt_heap hr7_2)).trans hr7_2
       have hr8_3 := hN
       clear hN
       have HU8 := Lib.hid (HU7.out.trans (hb8.mono HU7.out.size))
       have HQA8 := Lib.hid (HQA7.out.below hb8)
       have hz8 := lt_heap hr8_3
       refine hK.out _ _ (⟨(hb8.block _ (lt_heap hS7c.1)).trans hS7c.1, (hb8.block _ (lt_heap hS7c.2)).trans hS7c.2⟩) (fun hS8a => ?_)
       clear hK K
       refine wpAnyH_ready (rs := [3]) (by kernel_rfl) (by simp) ?_
       refine AllReadyH.cons rfl (fun K hK => ?_) AllReadyH.nil
       go_simp
       go_wp2_with (go_at_call 7; refine (to_film_q (⟨W2, H2, nl2, nd2, nn2, nb2, ns2, nf2, L2, D2, N2, B2, S2, F2⟩ : Flm) (⟨al2, cl2, ad2, cd2, an2, cn2, ab2, cb2, ax2, cx2, af2, cf2⟩ : Pl) _ (HC2.out.at_.on HU8.out) HC2.out.bl HC2.out.bd HC2.out.bn HC2.out.bb HC2.out.bs HC2.out.bf HC2.out.ks HC2.out.kf).mono ?_; rintro e y9 ⟨⟨⟨al4, cl4, ad4, cd4, an4, cn4, ab4, cb4, ax4, cx4, af4, cf4⟩, rfl, hq2⟩, hb9⟩)
       have hr9_0 := (hb9.block _ (lt_heap hr8_0)).trans hr8_0
       have hr9_1 := (hb9.block _ (lt_heap hr8_1)).trans hr8_1
       have hr9_2 := (hb9.block _ (lt_heap hr8_2)).trans hr8_2
       have hr9_3 := (hb9.block _ (lt_heap hr8_3)).trans hr8_3
       have HU9 := Lib.hid (HU8.out.trans (hb9.mono HU8.out.size))
       have HQA9 := Lib.hid (HQA8.out.below hb9)
       have hz9 := hb9.size
       have HQB9 := Lib.hid (hq2.lt)
       refine hK.out _ _ (⟨(hb9.block _ (lt_heap hS8a.1)).trans hS8a.1, (hb9.block _ (lt_heap hS8a.2)).trans hS8a.2⟩) (fun hS9c => ?_)
       clear hK K
       refine wpAnyH_ready (rs := [6]) (by kernel_rfl) (by simp) ?_
       refine AllReadyH.cons rfl (fun K hK => ?_) AllReadyH.nil
       refine step_store_row rfl 40 (.tmp 5) (.tmp 32) rfl #[.int .i64 0, .int .i64 0, .slice none 0 0, .slice none 0 0, .slice none 0 0, .slice none 0 0, .slice none 0 0, .slice none 0 0] #[.int .i64 W, .int .i64 H, .slice al3 nl cl3, .slice ad3 nd cd3, .slice an3 nn cn3, .slice ab3 nb cb3, .slice ax3 ns cx3, .slice af3 nf cf3] _ 40 hr9_3 rfl (by first | rfl | (go_simp; done) | (go_simp; rfl)) (by kernel_rfl) rfl (by simp [Value.oneCell']) ?_
       have hN := setRow_heap _ (y7.heap.size) _ #[.int .i64 W, .int .i64 H, .slice al3 nl cl3, .slice ad3 nd cd3, .slice an3 nn cn3, .slice ab3 nb cb3, .slice ax3 ns cx3, .slice af3 nf cf3] _ _ hr9_3
       have hsz := HU9.out.size
       have HUx := below_setRow (g := y7.heap.size) HU9.out (by first | omega | (simp at *; omega)) #[.int .i64 W, .int .i64 H, .slice al3 nl cl3, .slice ad3 nd cd3, .slice an3 nn cn3, .slice ab3 nb cb3, .slice ax3 ns cx3, .slice af3 nf cf3]
       obtain ⟨y10, hy10⟩ : ∃ y, y9.setRow (y7.heap.size) #[.int .i64 W, .int .i64 H, .slice al3 nl cl3, .slice ad3 nd cd3, .slice an3 nn cn3, .slice ab3 nb cb3, .slice ax3 ns cx3, .slice af3 nf cf3] = y := ⟨_, rfl⟩
       have hO : ∀ k, k ≠ y7.heap.size → y10.heap[k]? = y9.heap[k]? := fun k hk => by rw [← hy10]; exact setRow_other _ _ _ _ hk
       rw [hy10] at hN HUx ⊢
       clear hy10
       have HU10 := Lib.hid HUx
       clear HUx
       have hr10_0 := (hO _ (by omega)).trans hr9_0
       have hr10_1 := (hO _ (by omega)).trans hr9_1
       have hr10_2 := (hO _ (by omega)).trans hr9_2
       have hr10_3 := hN
       clear hN
       have HQA10 := Lib.hid (HQA9.out.keep (fun b hb => hO b (by omega)))
       have HQB10 := Lib.hid (HQB9.out.keep (fun b hb => hO b (by omega)))
       refine hK.out _ _ (⟨(hO _ (by omega)).trans hS9c.1, (hO _ (by omega)).trans hS9c.2⟩) (fun hS10s => ?_)
       clear hK K
       refine wpAnyH_ready (rs := [7]) (by kernel_rfl) (by simp) ?_
       refine AllReadyH.cons rfl (fun K hK => ?_) AllReadyH.nil
       refine step_store_row rfl 40 (.tmp 6) (.tmp 34) rfl #[.int .i64 0, .int .i64 0, .slice none 0 0, .slice none 0 0, .slice none 0 0, .slice none 0 0, .slice none 0 0, .slice none 0 0] #[.int .i64 W2, .int .i64 H2, .slice al4 nl2 cl4, .slice ad4 nd2 cd4, .slice an4 nn2 cn4, .slice ab4 nb2 cb4, .slice ax4 ns2 cx4, .slice af4 nf2 cf4] _ 40 hr10_2 rfl (by first | rfl | (go_simp; done) | (go_simp; rfl)) (by kernel_rfl) rfl (by simp [Value.oneCell']) ?_
       have hN := setRow_heap _ (y5.heap.size) _ #[.int .i64 W2, .int .i64 H2, .slice al4 nl2 cl4, .slice ad4 nd2 cd4, .slice an4 nn2 cn4, .slice ab4 nb2 cb4, .slice ax4 ns2 cx4, .slice af4 nf2 cf4] _ _ hr10_2
       have hsz := HU10.out.size
       have HUx := below_setRow (g := y5.heap.size) HU10.out (by first | omega | (simp at *; omega)) #[.int .i64 W2, .int .i64 H2, .slice al4 nl2 cl4, .slice ad4 nd2 cd4, .slice an4 nn2 cn4, .slice ab4 nb2 cb4, .slice ax4 ns2 cx4, .slice af4 nf2 cf4]
       obtain ⟨y11, hy11⟩ : ∃ y, y10.setRow (y5.heap.size) #[.int .i64 W2, .int .i64 H2, .slice al4 nl2 cl4, .slice ad4 nd2 cd4, .slice an4 nn2 cn4, .slice ab4 nb2 cb4, .slice ax4 ns2 cx4, .slice af4 nf2 cf4] = y := ⟨_, rfl⟩
       have hO : ∀ k, k ≠ y5.heap.size → y11.heap[k]? = y10.heap[k]? := fun k hk => by rw [← hy11]; exact setRow_other _ _ _ _ hk
       rw [hy11] at hN HUx ⊢
       clear hy11
       have HU11 := Lib.hid HUx
       clear HUx
       have hr11_0 := (hO _ (by omega)).trans hr10_0
       have hr11_1 := (hO _ (by omega)).trans hr10_1
       have hr11_2 := hN
       have hr11_3 := (hO _ (by omega)).trans hr10_3
       clear hN
       have HQA11 := Lib.hid (HQA10.out.keep (fun b hb => hO b (by omega)))
       have HQB11 := Lib.hid (HQB10.out.keep (fun b hb => hO b (by omega)))
       refine hK.out _ _ (⟨(hO _ (by omega)).trans hS10s.1, (hO _ (by omega)).trans hS10s.2⟩) (fun hS11s => ?_)
       clear hK K
       refine wpAnyH_done (by kernel_rfl) ?_ _
       go_wp2_with fail
       go_meet
       exact ⟨_, _, (⟨al3, cl3, ad3, cd3, an3, cn3, ab3, cb3, ax3, cx3, af3, cf3⟩ : Pl), (⟨al4, cl4, ad4, cd4, an4, cn4, ab4, cb4, ax4, cx4, af4, cf4⟩ : Pl), rfl, rfl, hr11_3, hr11_2, hr11_0, hr11_1, Lib.hid HQA11.out.fat, Lib.hid HQB11.out.fat, HU11⟩
     ·
      skip
      go_simp
      have hb7 := Ve.below_n1 y6 (.cells #[.int .i64 0, .int .i64 0, .slice none 0 0, .slice none 0 0, .slice none 0 0, .slice none 0 0, .slice none 0 0, .slice none 0 0] 40)
      have hN := heap_alloc_last y6 (.cells #[.int .i64 0, .int .i64 0, .slice none 0 0, .slice none 0 0, .slice none 0 0, .slice none 0 0, .slice none 0 0, .slice none 0 0] 40)
      obtain ⟨y7, hy7⟩ : ∃ y, y6.alloc (.cells #[.int .i64 0, .int .i64 0, .slice none 0 0, .slice none 0 0, .slice none 0 0, .slice none 0 0, .slice none 0 0, .slice none 0 0] 40) = y := ⟨_, rfl⟩
      rw [hy7] at hb7 hN ⊢
      clear hy7
      have hl7_0 := lt_heap hr6_0
      have hr7_0 := (hb7.block _ (lt_heap hr6_0)).trans hr6_0
      have hl7_1 := lt_heap hr6_1
      have hr7_1 := (hb7.block _ (lt_heap hr6_1)).trans hr6_1
      have hl7_2 := lt_heap hr6_2
      have hr7_2 := (hb7.block _ (lt_heap hr6_2)).trans hr6_2
      have hr7_3 := hN
      clear hN
      have HU7 := Lib.hid (HU6.out.trans (hb7.mono HU6.out.size))
      have hz7 := lt_heap hr7_3
      refine hK.out _ _ (⟨(hb7.block _ (lt_heap hS6a.1)).trans hS6a.1, (hb7.block _ (lt_heap hS6a.2)).trans hS6a.2⟩) (fun hS7a => ?_)
      clear hK K
      refine wpAnyH_ready (rs := [1]) (by kernel_rfl) (by simp) ?_
      refine AllReadyH.cons rfl (fun K hK => ?_) AllReadyH.nil
      go_simp
      go_wp2_with (go_at_call 7; refine (to_film_q (⟨W, H, nl, nd, nn, nb, ns, nf, L, D, N, B, S, F⟩ : Flm) (⟨al, cl, ad, cd, an, cn, ab, cb, ax, cx, af, cf⟩ : Pl) _ (HC.out.at_.on HU7.out) HC.out.bl HC.out.bd HC.out.bn HC.out.bb HC.out.bs HC.out.bf HC.out.ks HC.out.kf).mono ?_; rintro e y8 ⟨⟨⟨al3, cl3, ad3, cd3, an3, cn3, ab3, cb3, ax3, cx3, af3, cf3⟩, rfl, hq1⟩, hb8⟩)
      have hr8_0 := (hb8.block _ (lt_heap hr7_0)).trans hr7_0
      have hr8_1 := (hb8.block _ (lt_heap hr7_1)).trans hr7_1
      have hr8_2 := (hb8.block _ (lt_heap hr7_2)).trans hr7_2
      have hr8_3 := (hb8.block _ (lt_heap hr7_3)).trans hr7_3
      have HU8 := Lib.hid (HU7.out.trans (hb8.mono HU7.out.size))
      have hz8 := hb8.size
      have HQA8 := Lib.hid (hq1.lt)
      refine hK.out _ _ (⟨(hb8.block _ (lt_heap hS7a.1)).trans hS7a.1, (hb8.block _ (lt_heap hS7a.2)).trans hS7a.2⟩) (fun hS8c => ?_)
      clear hK K
      refine wpAnyH_ready (rs := [3]) (by kernel_rfl) (by simp) ?_
      refine AllReadyH.cons rfl (fun K hK => ?_) AllReadyH.nil
      go_simp
      go_wp2_with (go_at_call 7; refine (to_film_q (⟨W2, H2, nl2, nd2, nn2, nb2, ns2, nf2, L2, D2, N2, B2, S2, F2⟩ : Flm) (⟨al2, cl2, ad2, cd2, an2, cn2, ab2, cb2, ax2, cx2, af2, cf2⟩ : Pl) _ (HC2.out.at_.on HU8.out) HC2.out.bl HC2.out.bd HC2.out.bn HC2.out.bb HC2.out.bs HC2.out.bf HC2.out.ks HC2.out.kf).mono ?_; rintro e y9 ⟨⟨⟨al4, cl4, ad4, cd4, an4, cn4, ab4, cb4, ax4, cx4, af4, cf4⟩, rfl, hq2⟩, hb9⟩)
      have hr9_0 := (hb9.block _ (lt_heap hr8_0)).trans hr8_0
      have hr9_1 := (hb9.block _ (lt_heap hr8_1)).trans hr8_1
      have hr9_2 := (hb9.block _ (lt_heap hr8_2)).trans hr8_2
      have hr9_3 := (hb9.block _ (lt_heap hr8_3)).trans hr8_3
      have HU9 := Lib.hid (HU8.out.trans (hb9.mono HU8.out.size))
      have HQA9 := Lib.hid (HQA8.out.below hb9)
      have hz9 := hb9.size
      have HQB9 := Lib.hid (hq2.lt)
      refine hK.out _ _ (⟨(hb9.block _ (lt_heap hS8c.1)).trans hS8c.1, (hb9.block _ (lt_heap hS8c.2)).trans hS8c.2⟩) (fun hS9c => ?_)
      clear hK K
      refine wpAnyH_ready (rs := [6]) (by kernel_rfl) (by simp) ?_
      refine AllReadyH.cons rfl (fun K hK => ?_) AllReadyH.nil
      refine step_store_row rfl 40 (.tmp 5) (.tmp 32) rfl #[.int .i64 0, .int .i64 0, .slice none 0 0, .slice none 0 0, .slice none 0 0, .slice none 0 0, .slice none 0 0, .slice none 0 0] #[.int .i64 W, .int .i64 H, .slice al3 nl cl3, .slice ad3 nd cd3, .slice an3 nn cn3, .slice ab3 nb cb3, .slice ax3 ns cx3, .slice af3 nf cf3] _ 40 hr9_3 rfl (by first | rfl | (go_simp; done) | (go_simp; rfl)) (by kernel_rfl) rfl (by simp [Value.oneCell']) ?_
      have hN := setRow_heap _ (y6.heap.size) _ #[.int .i64 W, .int .i64 H, .slice al3 nl cl3, .slice ad3 nd cd3, .slice an3 nn cn3, .slice ab3 nb cb3, .slice ax3 ns cx3, .slice af3 nf cf3] _ _ hr9_3
      have hsz := HU9.out.size
      have HUx := below_setRow (g := y6.heap.size) HU9.out (by first | omega | (simp at *; omega)) #[.int .i64 W, .int .i64 H, .slice al3 nl cl3, .slice ad3 nd cd3, .slice an3 nn cn3, .slice ab3 nb cb3, .slice ax3 ns cx3, .slice af3 nf cf3]
      obtain ⟨y10, hy10⟩ : ∃ y, y9.setRow (y6.heap.size) #[.int .i64 W, .int .i64 H, .slice al3 nl cl3, .slice ad3 nd cd3, .slice an3 nn cn3, .slice ab3 nb cb3, .slice ax3 ns cx3, .slice af3 nf cf3] = y := ⟨_, rfl⟩
      have hO : ∀ k, k ≠ y6.heap.size → y10.heap[k]? = y9.heap[k]? := fun k hk => by rw [← hy10]; exact setRow_other _ _ _ _ hk
      rw [hy10] at hN HUx ⊢
      clear hy10
      have HU10 := Lib.hid HUx
      clear HUx
      have hr10_0 := (hO _ (by omega)).trans hr9_0
      have hr10_1 := (hO _ (by omega)).trans hr9_1
      have hr10_2 := (hO _ (by omega)).trans hr9_2
      have hr10_3 := hN
      clear hN
      have HQA10 := Lib.hid (HQA9.out.keep (fun b hb => hO b (by omega)))
      have HQB10 := Lib.hid (HQB9.out.keep (fun b hb => hO b (by omega)))
      refine hK.out _ _ (⟨(hO _ (by omega)).trans hS9c.1, (hO _ (by omega)).trans hS9c.2⟩) (fun hS10s => ?_)
      clear hK K
      refine wpAnyH_ready (rs := [7]) (by kernel_rfl) (by simp) ?_
      refine AllReadyH.cons rfl (fun K hK => ?_) AllReadyH.nil
      refine step_store_row rfl 40 (.tmp 6) (.tmp 34) rfl #[.int .i64 0, .int .i64 0, .slice none 0 0, .slice none 0 0, .slice none 0 0, .slice none 0 0, .slice none 0 0, .slice none 0 0] #[.int .i64 W2, .int .i64 H2, .slice al4 nl2 cl4, .slice ad4 nd2 cd4, .slice an4 nn2 cn4, .slice ab4 nb2 cb4, .slice ax4 ns2 cx4, .slice af4 nf2 cf4] _ 40 hr10_2 rfl (by first | rfl | (go_simp; done) | (go_simp; rfl)) (by kernel_rfl) rfl (by simp [Value.oneCell']) ?_
      have hN := setRow_heap _ (y5.heap.size) _ #[.int .i64 W2, .int .i64 H2, .slice al4 nl2 cl4, .slice ad4 nd2 cd4, .slice an4 nn2 cn4, .slice ab4 nb2 cb4, .slice ax4 ns2 cx4, .slice af4 nf2 cf4] _ _ hr10_2
      have hsz := HU10.out.size
      have HUx := below_setRow (g := y5.heap.size) HU10.out (by first | omega | (simp at *; omega)) #[.int .i64 W2, .int .i64 H2, .slice al4 nl2 cl4, .slice ad4 nd2 cd4, .slice an4 nn2 cn4, .slice ab4 nb2 cb4, .slice ax4 ns2 cx4, .slice af4 nf2 cf4]
      obtain ⟨y11, hy11⟩ : ∃ y, y10.setRow (y5.heap.size) #[.int .i64 W2, .int .i64 H2, .slice al4 nl2 cl4, .slice ad4 nd2 cd4, .slice an4 nn2 cn4, .slice ab4 nb2 cb4, .slice ax4 ns2 cx4, .slice af4 nf2 cf4] = y := ⟨_, rfl⟩
      have hO : ∀ k, k ≠ y5.heap.size → y11.heap[k]? = y10.heap[k]? := fun k hk => by rw [← hy11]; exact setRow_other _ _ _ _ hk
      rw [hy11] at hN HUx ⊢
      clear hy11
      have HU11 := Lib.hid HUx
      clear HUx
      have hr11_0 := (hO _ (by omega)).trans hr10_0
      have hr11_1 := (hO _ (by omega)).trans hr10_1
      have hr11_2 := hN
      have hr11_3 := (hO _ (by omega)).trans hr10_3
      clear hN
      have HQA11 := Lib.hid (HQA10.out.keep (fun b hb => hO b (by omega)))
      have HQB11 := Lib.hid (HQB10.out.keep (fun b hb => hO b (by omega)))
      refine hK.out _ _ (⟨(hO _ (by omega)).trans hS10s.1, (hO _ (by omega)).trans hS10s.2⟩) (fun hS11s => ?_)
      clear hK K
      refine wpAnyH_done (by kernel_rfl) ?_ _
      go_wp2_with fail
      go_meet
      exact ⟨_, _, (⟨al3, cl3, ad3, cd3, an3, cn3, ab3, cb3, ax3, cx3, af3, cf3⟩ : Pl), (⟨al4, cl4, ad4, cd4, an4, cn4, ab4, cb4, ax4, cx4, af4, cf4⟩ : Pl), rfl, rfl, hr11_3, hr11_2, hr11_0, hr11_1, Lib.hid HQA11.out.fat, Lib.hid HQB11.out.fat, HU11⟩
   case rest =>
    obtain ⟨q1, q2, ⟨al3, cl3, ad3, cd3, an3, cn3, ab3, cb3, ax3, cx3, af3, cf3⟩, ⟨al4, cl4, ad4, cd4, an4, cn4, ab4, cb4, ax4, cx4, af4, cf4⟩, rfl, rfl, hx1, hx2, hz0, hz1, HFA, HFB, HUz⟩ := hcut
    rename World => y19
    have hr19_0 := hz0
    have hr19_1 := hz1
    have hr19_2 : y19.heap[q1]? = some (.cells #[.int .i64 W, .int .i64 H, .slice al3 nl cl3, .slice ad3 nd cd3, .slice an3 nn cn3, .slice ab3 nb cb3, .slice ax3 ns cx3, .slice af3 nf cf3] 40 (0, 0)) := hx1
    have hr19_3 : y19.heap[q2]? = some (.cells #[.int .i64 W2, .int .i64 H2, .slice al4 nl2 cl4, .slice ad4 nd2 cd4, .slice an4 nn2 cn4, .slice ab4 nb2 cb4, .slice ax4 ns2 cx4, .slice af4 nf2 cf4] 40 (0, 0)) := hx2
    have HU19 := HUz
    clear hz0 hz1 hx1 hx2 HUz
    obtain ⟨B0, hB0⟩ : ∃ b, b = y19.heap.size := ⟨_, rfl⟩
    have hBa : B0 ≤ y19.heap.size := by omega
    have HF19 := Lib.hid ((fat_low HFA.out).weak (P' := fun b => b < B0) (fun b hb => by omega))
    have HG19 := Lib.hid ((fat_low HFB.out).weak (P' := fun b => b < B0) (fun b hb => by omega))
    clear HFA HFB hB0
    go_upto_region 4 with fail
    go_cut [7, 8] (fun s9 s10 wx => ∃ (q3 : Nat) (a5 : Option Addr) (c5 : Nat), s9 = .pointer (some ⟨q3, 0, none⟩) ∧ s10 = .int .i64 BE ∧ wx.heap[q3]? = some (.cells #[.int .i64 BW, .int .i64 BH, .slice a5 BN c5] 36 (0, 0)) ∧ wx.heap[w.heap.size]? = some (.cells #[.int .i64 W, .int .i64 H, .slice al nl cl, .slice ad nd cd, .slice an nn cn, .slice ab nb cb, .slice ax ns cx, .slice af nf cf] 29 (0, 0)) ∧ wx.heap[w.heap.size + 1]? = some (.cells #[.int .i64 W2, .int .i64 H2, .slice al2 nl2 cl2, .slice ad2 nd2 cd2, .slice an2 nn2 cn2, .slice ab2 nb2 cb2, .slice ax2 ns2 cx2, .slice af2 nf2 cf2] 29 (0, 0)) ∧ wx.heap[q1]? = some (.cells #[.int .i64 W, .int .i64 H, .slice al3 nl cl3, .slice ad3 nd cd3, .slice an3 nn cn3, .slice ab3 nb cb3, .slice ax3 ns cx3, .slice af3 nf cf3] 40 (0, 0)) ∧ wx.heap[q2]? = some (.cells #[.int .i64 W2, .int .i64 H2, .slice al4 nl2 cl4, .slice ad4 nd2 cd4, .slice an4 nn2 cn4, .slice ab4 nb2 cb4, .slice ax4 ns2 cx4, .slice af4 nf2 cf4] 40 (0, 0)) ∧ Hid (FAt wx (⟨W, H, nl, nd, nn, nb, ns, nf, L, D, N, B, S, F⟩ : Flm) (⟨al3, cl3, ad3, cd3, an3, cn3, ab3, cb3, ax3, cx3, af3, cf3⟩ : Pl)) ∧ Hid (FAt wx (⟨W2, H2, nl2, nd2, nn2, nb2, ns2, nf2, L2, D2, N2, B2, S2, F2⟩ : Flm) (⟨al4, cl4, ad4, cd4, an4, cn4, ab4, cb4, ax4, cx4, af4, cf4⟩ : Pl)) ∧ Hid (Rw 3 wx a5 BN LB) ∧ Hid (Below w.heap.size w wx))
    case first =>
     have c2_0 := cell_of_row _ _ 0 _ _ _ hr19_2
     have c2_1 := cell_of_row _ _ 1 _ _ _ hr19_2
     have c2_2 := cell_of_row _ _ 2 _ _ _ hr19_2
     have c2_3 := cell_of_row _ _ 3 _ _ _ hr19_2
     have c2_4 := cell_of_row _ _ 4 _ _ _ hr19_2
     have c2_5 := cell_of_row _ _ 5 _ _ _ hr19_2
     have c2_6 := cell_of_row _ _ 6 _ _ _ hr19_2
     have c2_7 := cell_of_row _ _ 7 _ _ _ hr19_2
     have c3_0 := cell_of_row _ _ 0 _ _ _ hr19_3
     have c3_1 := cell_of_row _ _ 1 _ _ _ hr19_3
     have c3_2 := cell_of_row _ _ 2 _ _ _ hr19_3
     have c3_3 := cell_of_row _ _ 3 _ _ _ hr19_3
     have c3_4 := cell_of_row _ _ 4 _ _ _ hr19_3
     have c3_5 := cell_of_row _ _ 5 _ _ _ hr19_3
     have c3_6 := cell_of_row _ _ 6 _ _ _ hr19_3
     have c3_7 := cell_of_row _ _ 7 _ _ _ hr19_3
     simp at c2_0 c2_1 c2_2 c2_3 c2_4 c2_5 c2_6 c2_7 c3_0 c3_1 c3_2 c3_3 c3_4 c3_5 c3_6 c3_7
     go_wp2_with fail
     refine (HBL.out _ (⟨al3, cl3, ad3, cd3, an3, cn3, ab3, cb3, ax3, cx3, af3, cf3⟩ : Pl) (⟨al4, cl4, ad4, cd4, an4, cn4, ab4, cb4, ax4, cx4, af4, cf4⟩ : Pl) al4 cl4 HF19.out.fat HG19.out.fat HG19.out.fat.l).mono ?_
     rintro e y20 ⟨⟨a5, c5, rfl, hbl⟩, hb20⟩
     clear c2_0 c2_1 c2_2 c2_3 c2_4 c2_5 c2_6 c2_7 c3_0 c3_1 c3_2 c3_3 c3_4 c3_5 c3_6 c3_7
     have hr20_0 := (hb20.block _ (lt_heap hr19_0)).trans hr19_0
     have hr20_1 := (hb20.block _ (lt_heap hr19_1)).trans hr19_1
     have hr20_2 := (hb20.block _ (lt_heap hr19_2)).trans hr19_2
     have hr20_3 := (hb20.block _ (lt_heap hr19_3)).trans hr19_3
     have HU20 := Lib.hid (HU19.out.trans (hb20.mono HU19.out.size))
     clear hr19_0 hr19_1 hr19_2 hr19_3 HU19
     have HF20 := Lib.hid (HF19.out.below hb20)
     clear HF19
     have HG20 := Lib.hid (HG19.out.below hb20)
     clear HG19
     have HRB20 := Lib.hid ((⟨hbl⟩ : R3 (fun b => y19.heap.size ≤ b) y20 a5 BN LB))
     go_wp2_with fail
     have hb21 := Ve.below_n1 y20 (.cells #[.int .i64 BW, .int .i64 BH, .slice a5 BN c5] 36)
     have hN := heap_alloc_last y20 (.cells #[.int .i64 BW, .int .i64 BH, .slice a5 BN c5] 36)
     obtain ⟨y21, hy21⟩ : ∃ y, y20.alloc (.cells #[.int .i64 BW, .int .i64 BH, .slice a5 BN c5] 36) = y := ⟨_, rfl⟩
     have hs21 : y21.heap.size = y20.heap.size + 1 := by rw [← hy21]; simp
     rw [hy21] at hb21 hN ⊢
     clear hy21
     have hl21_0 := lt_heap hr20_0
     have hl21_1 := lt_heap hr20_1
     have hl21_2 := lt_heap hr20_2
     have hl21_3 := lt_heap hr20_3
     have hr21_0 := (hb21.block _ (lt_heap hr20_0)).trans hr20_0
     have hr21_1 := (hb21.block _ (lt_heap hr20_1)).trans hr20_1
     have hr21_2 := (hb21.block _ (lt_heap hr20_2)).trans hr20_2
     have hr21_3 := (hb21.block _ (lt_heap hr20_3)).trans hr20_3
     have HU21 := Lib.hid (HU20.out.trans (hb21.mono HU20.out.size))
     clear hr20_0 hr20_1 hr20_2 hr20_3 HU20
     have hr21_4 := hN
     clear hN
     have HF21 := Lib.hid (HF20.out.below hb21)
     clear HF20
     have HG21 := Lib.hid (HG20.out.below hb21)
     clear HG20
     have HRB21 := Lib.hid (HRB20.out.below hb21)
     clear HRB20
     go_meet
     exact ⟨_, a5, c5, rfl, rfl, hr21_4, hr21_0, hr21_1, hr21_2, hr21_3, Lib.hid HF21.out.fat, Lib.hid HG21.out.fat, Lib.hid (HRB21.out.h.rw (by decide)), HU21⟩
    case rest =>
     obtain ⟨q3, a5, c5, rfl, rfl, hx, hz0, hz1, hz2, hz3, HFA, HFB, HRB, HUz⟩ := hcut
     rename World => y30
     have hr30_0 := hz0
     have hr30_1 := hz1
     have hr30_2 := hz2
     have hr30_3 := hz3
     have hr30_4 := hx
     have HU30 := HUz
     have HF30 := HFA
     have HG30 := HFB
     have HR30 := HRB
     clear hx HUz HFA HFB HRB HF19 HG19 HU19 hz0 hz1 hz2 hz3
     by_cases ho : okF (⟨W, H, nl, nd, nn, nb, ns, nf, L, D, N, B, S, F⟩ : Flm) ∧ okF (⟨W2, H2, nl2, nd2, nn2, nb2, ns2, nf2, L2, D2, N2, B2, S2, F2⟩ : Flm)
     case neg =>
      have hbe := HNO.out ho
      subst hbe
      by_cases ho1 : okF (⟨W, H, nl, nd, nn, nb, ns, nf, L, D, N, B, S, F⟩ : Flm)
      ·
       have HO := Lib.hid ho1
       have HO2 := Lib.hid (fun k => ho ⟨HO.out, k⟩ : ¬ okF (⟨W2, H2, nl2, nd2, nn2, nb2, ns2, nf2, L2, D2, N2, B2, S2, F2⟩ : Flm))
       clear ho ho1
       go_wp2_with fail
       refine (wawake_any _).mono ?_
       rintro e y31 ⟨rfl, hb31⟩
       have hr31_0 := (hb31.block _ (lt_heap hr30_0)).trans hr30_0
       have hr31_1 := (hb31.block _ (lt_heap hr30_1)).trans hr30_1
       have hr31_2 := (hb31.block _ (lt_heap hr30_2)).trans hr30_2
       have hr31_3 := (hb31.block _ (lt_heap hr30_3)).trans hr30_3
       have hr31_4 := (hb31.block _ (lt_heap hr30_4)).trans hr30_4
       have HU31 := Lib.hid (HU30.out.trans (hb31.mono HU30.out.size))
       clear hr30_0 hr30_1 hr30_2 hr30_3 hr30_4 HU30
       have HF31 := Lib.hid (HF30.out.on hb31)
       clear HF30
       have HG31 := Lib.hid (HG30.out.on hb31)
       clear HG30
       have HR31 := Lib.hid (HR30.out.on hb31)
       clear HR30
       have c2_0 := cell_of_row _ _ 0 _ _ _ hr31_2
       have c2_1 := cell_of_row _ _ 1 _ _ _ hr31_2
       have c2_2 := cell_of_row _ _ 2 _ _ _ hr31_2
       have c2_3 := cell_of_row _ _ 3 _ _ _ hr31_2
       have c2_4 := cell_of_row _ _ 4 _ _ _ hr31_2
       have c2_5 := cell_of_row _ _ 5 _ _ _ hr31_2
       have c2_6 := cell_of_row _ _ 6 _ _ _ hr31_2
       have c2_7 := cell_of_row _ _ 7 _ _ _ hr31_2
       have c3_0 := cell_of_row _ _ 0 _ _ _ hr31_3
       have c3_1 := cell_of_row _ _ 1 _ _ _ hr31_3
       have c3_2 := cell_of_row _ _ 2 _ _ _ hr31_3
       have c3_3 := cell_of_row _ _ 3 _ _ _ hr31_3
       have c3_4 := cell_of_row _ _ 4 _ _ _ hr31_3
       have c3_5 := cell_of_row _ _ 5 _ _ _ hr31_3
       have c3_6 := cell_of_row _ _ 6 _ _ _ hr31_3
       have c3_7 := cell_of_row _ _ 7 _ _ _ hr31_3
       simp at c2_0 c2_1 c2_2 c2_3 c2_4 c2_5 c2_6 c2_7 c3_0 c3_1 c3_2 c3_3 c3_4 c3_5 c3_6 c3_7
       go_wp2_with fail
       refine (fright_any (⟨W, H, nl, nd, nn, nb, ns, nf, L, D, N, B, S, F⟩ : Flm) (⟨al3, cl3, ad3, cd3, an3, cn3, ab3, cb3, ax3, cx3, af3, cf3⟩ : Pl) _ HF31.out).mono ?_
       rintro e y32 ⟨rfl, hb32⟩
       clear c2_0 c2_1 c2_2 c2_3 c2_4 c2_5 c2_6 c2_7 c3_0 c3_1 c3_2 c3_3 c3_4 c3_5 c3_6 c3_7
       have hr32_0 := (hb32.block _ (lt_heap hr31_0)).trans hr31_0
       have hr32_1 := (hb32.block _ (lt_heap hr31_1)).trans hr31_1
       have hr32_2 := (hb32.block _ (lt_heap hr31_2)).trans hr31_2
       have hr32_3 := (hb32.block _ (lt_heap hr31_3)).trans hr31_3
       have hr32_4 := (hb32.block _ (lt_heap hr31_4)).trans hr31_4
       have HU32 := Lib.hid (HU31.out.trans (hb32.mono HU31.out.size))
       clear hr31_0 hr31_1 hr31_2 hr31_3 hr31_4 HU31
       have HF32 := Lib.hid (HF31.out.on hb32)
       clear HF31
       have HG32 := Lib.hid (HG31.out.on hb32)
       clear HG31
       have HR32 := Lib.hid (HR31.out.on hb32)
       clear HR31
       rw [decide_eq_true HO.out]
       have c2_0 := cell_of_row _ _ 0 _ _ _ hr32_2
       have c2_1 := cell_of_row _ _ 1 _ _ _ hr32_2
       have c2_2 := cell_of_row _ _ 2 _ _ _ hr32_2
       have c2_3 := cell_of_row _ _ 3 _ _ _ hr32_2
       have c2_4 := cell_of_row _ _ 4 _ _ _ hr32_2
       have c2_5 := cell_of_row _ _ 5 _ _ _ hr32_2
       have c2_6 := cell_of_row _ _ 6 _ _ _ hr32_2
       have c2_7 := cell_of_row _ _ 7 _ _ _ hr32_2
       have c3_0 := cell_of_row _ _ 0 _ _ _ hr32_3
       have c3_1 := cell_of_row _ _ 1 _ _ _ hr32_3
       have c3_2 := cell_of_row _ _ 2 _ _ _ hr32_3
       have c3_3 := cell_of_row _ _ 3 _ _ _ hr32_3
       have c3_4 := cell_of_row _ _ 4 _ _ _ hr32_3
       have c3_5 := cell_of_row _ _ 5 _ _ _ hr32_3
       have c3_6 := cell_of_row _ _ 6 _ _ _ hr32_3
       have c3_7 := cell_of_row _ _ 7 _ _ _ hr32_3
       simp at c2_0 c2_1 c2_2 c2_3 c2_4 c2_5 c2_6 c2_7 c3_0 c3_1 c3_2 c3_3 c3_4 c3_5 c3_6 c3_7
       go_wp2_with fail
       refine (fright_any (⟨W2, H2, nl2, nd2, nn2, nb2, ns2, nf2, L2, D2, N2, B2, S2, F2⟩ : Flm) (⟨al4, cl4, ad4, cd4, an4, cn4, ab4, cb4, ax4, cx4, af4, cf4⟩ : Pl) _ HG32.out).mono ?_
       rintro e y33 ⟨rfl, hb33⟩
       clear c2_0 c2_1 c2_2 c2_3 c2_4 c2_5 c2_6 c2_7 c3_0 c3_1 c3_2 c3_3 c3_4 c3_5 c3_6 c3_7
       have hr33_0 := (hb33.block _ (lt_heap hr32_0)).trans hr32_0
       have hr33_1 := (hb33.block _ (lt_heap hr32_1)).trans hr32_1
       have hr33_2 := (hb33.block _ (lt_heap hr32_2)).trans hr32_2
       have hr33_3 := (hb33.block _ (lt_heap hr32_3)).trans hr32_3
       have hr33_4 := (hb33.block _ (lt_heap hr32_4)).trans hr32_4
       have HU33 := Lib.hid (HU32.out.trans (hb33.mono HU32.out.size))
       clear hr32_0 hr32_1 hr32_2 hr32_3 hr32_4 HU32
       have HF33 := Lib.hid (HF32.out.on hb33)
       clear HF32
       have HG33 := Lib.hid (HG32.out.on hb33)
       clear HG32
       have HR33 := Lib.hid (HR32.out.on hb33)
       clear HR32
       rw [decide_eq_false HO2.out]
       go_wp2
       go_ret
       exact ⟨rfl, HU33.out⟩
      ·
       have HO := Lib.hid ho1
       clear ho ho1
       go_wp2_with fail
       refine (wawake_any _).mono ?_
       rintro e y31 ⟨rfl, hb31⟩
       have hr31_0 := (hb31.block _ (lt_heap hr30_0)).trans hr30_0
       have hr31_1 := (hb31.block _ (lt_heap hr30_1)).trans hr30_1
       have hr31_2 := (hb31.block _ (lt_heap hr30_2)).trans hr30_2
       have hr31_3 := (hb31.block _ (lt_heap hr30_3)).trans hr30_3
       have hr31_4 := (hb31.block _ (lt_heap hr30_4)).trans hr30_4
       have HU31 := Lib.hid (HU30.out.trans (hb31.mono HU30.out.size))
       clear hr30_0 hr30_1 hr30_2 hr30_3 hr30_4 HU30
       have HF31 := Lib.hid (HF30.out.on hb31)
       clear HF30
       have HG31 := Lib.hid (HG30.out.on hb31)
       clear HG30
       have HR31 := Lib.hid (HR30.out.on hb31)
       clear HR30
       have c2_0 := cell_of_row _ _ 0 _ _ _ hr31_2
       have c2_1 := cell_of_row _ _ 1 _ _ _ hr31_2
       have c2_2 := cell_of_row _ _ 2 _ _ _ hr31_2
       have c2_3 := cell_of_row _ _ 3 _ _ _ hr31_2
       have c2_4 := cell_of_row _ _ 4 _ _ _ hr31_2
       have c2_5 := cell_of_row _ _ 5 _ _ _ hr31_2
       have c2_6 := cell_of_row _ _ 6 _ _ _ hr31_2
       have c2_7 := cell_of_row _ _ 7 _ _ _ hr31_2
       have c3_0 := cell_of_row _ _ 0 _ _ _ hr31_3
       have c3_1 := cell_of_row _ _ 1 _ _ _ hr31_3
       have c3_2 := cell_of_row _ _ 2 _ _ _ hr31_3
       have c3_3 := cell_of_row _ _ 3 _ _ _ hr31_3
       have c3_4 := cell_of_row _ _ 4 _ _ _ hr31_3
       have c3_5 := cell_of_row _ _ 5 _ _ _ hr31_3
       have c3_6 := cell_of_row _ _ 6 _ _ _ hr31_3
       have c3_7 := cell_of_row _ _ 7 _ _ _ hr31_3
       simp at c2_0 c2_1 c2_2 c2_3 c2_4 c2_5 c2_6 c2_7 c3_0 c3_1 c3_2 c3_3 c3_4 c3_5 c3_6 c3_7
       go_wp2_with fail
       refine (fright_any (⟨W, H, nl, nd, nn, nb, ns, nf, L, D, N, B, S, F⟩ : Flm) (⟨al3, cl3, ad3, cd3, an3, cn3, ab3, cb3, ax3, cx3, af3, cf3⟩ : Pl) _ HF31.out).mono ?_
       rintro e y32 ⟨rfl, hb32⟩
       clear c2_0 c2_1 c2_2 c2_3 c2_4 c2_5 c2_6 c2_7 c3_0 c3_1 c3_2 c3_3 c3_4 c3_5 c3_6 c3_7
       have hr32_0 := (hb32.block _ (lt_heap hr31_0)).trans hr31_0
       have hr32_1 := (hb32.block _ (lt_heap hr31_1)).trans hr31_1
       have hr32_2 := (hb32.block _ (lt_heap hr31_2)).trans hr31_2
       have hr32_3 := (hb32.block _ (lt_heap hr31_3)).trans hr31_3
       have hr32_4 := (hb32.block _ (lt_heap hr31_4)).trans hr31_4
       have HU32 := Lib.hid (HU31.out.trans (hb32.mono HU31.out.size))
       clear hr31_0 hr31_1 hr31_2 hr31_3 hr31_4 HU31
       have HF32 := Lib.hid (HF31.out.on hb32)
       clear HF31
       have HG32 := Lib.hid (HG31.out.on hb32)
       clear HG31
       have HR32 := Lib.hid (HR31.out.on hb32)
       clear HR31
       rw [decide_eq_false HO.out]
       have c2_0 := cell_of_row _ _ 0 _ _ _ hr32_2
       have c2_1 := cell_of_row _ _ 1 _ _ _ hr32_2
       have c2_2 := cell_of_row _ _ 2 _ _ _ hr32_2
       have c2_3 := cell_of_row _ _ 3 _ _ _ hr32_2
       have c2_4 := cell_of_row _ _ 4 _ _ _ hr32_2
       have c2_5 := cell_of_row _ _ 5 _ _ _ hr32_2
       have c2_6 := cell_of_row _ _ 6 _ _ _ hr32_2
       have c2_7 := cell_of_row _ _ 7 _ _ _ hr32_2
       have c3_0 := cell_of_row _ _ 0 _ _ _ hr32_3
       have c3_1 := cell_of_row _ _ 1 _ _ _ hr32_3
       have c3_2 := cell_of_row _ _ 2 _ _ _ hr32_3
       have c3_3 := cell_of_row _ _ 3 _ _ _ hr32_3
       have c3_4 := cell_of_row _ _ 4 _ _ _ hr32_3
       have c3_5 := cell_of_row _ _ 5 _ _ _ hr32_3
       have c3_6 := cell_of_row _ _ 6 _ _ _ hr32_3
       have c3_7 := cell_of_row _ _ 7 _ _ _ hr32_3
       simp at c2_0 c2_1 c2_2 c2_3 c2_4 c2_5 c2_6 c2_7 c3_0 c3_1 c3_2 c3_3 c3_4 c3_5 c3_6 c3_7
       go_wp2
       go_ret
       exact ⟨rfl, HU32.out⟩
     obtain ⟨hbe, hbn, hbw, hbh⟩ := HYES.out ho
     subst hbe
     subst BN
     subst BW
     subst BH
     have HO := Lib.hid ho.1
     have HO2 := Lib.hid ho.2
     clear ho
     have hnl : nl ≤ 5000 ∧ nf = nl ∧ ns2 = nl2 := by have h1 := okSz_mul HO.out.1.1; have h2 := HO.out.1.2; have h3 := HO.out.2.2.2.2.2.1; have h4 := HO2.out.2.2.2.2.1.1; have h5 := HO2.out.1.2; simp only [] at h1 h2 h3 h4 h5; omega
     have hnl24 : nl * 24 ≤ 140737488351232 := by omega
     have HNL := Lib.hid hnl
     clear hnl
     have c4_0 := cell_of_row _ _ 0 _ _ _ hr30_4
     have c4_1 := cell_of_row _ _ 1 _ _ _ hr30_4
     have c4_2 := cell_of_row _ _ 2 _ _ _ hr30_4
     simp at c4_0 c4_1 c4_2
     go_wp2_with fail
     refine (fromsheet_any W H a5 nl c5 LB _ HR30.out hnl24).mono ?_
     rintro e y31 ⟨⟨a6, c6, rfl, hft⟩, hb31⟩
     clear c4_0 c4_1 c4_2
     have hr31_0 := (hb31.block _ (lt_heap hr30_0)).trans hr30_0
     have hr31_1 := (hb31.block _ (lt_heap hr30_1)).trans hr30_1
     have hr31_2 := (hb31.block _ (lt_heap hr30_2)).trans hr30_2
     have hr31_3 := (hb31.block _ (lt_heap hr30_3)).trans hr30_3
     have hr31_4 := (hb31.block _ (lt_heap hr30_4)).trans hr30_4
     have HU31 := Lib.hid (HU30.out.trans (hb31.mono HU30.out.size))
     clear hr30_0 hr30_1 hr30_2 hr30_3 hr30_4 HU30
     have HF31 := Lib.hid (HF30.out.on hb31)
     clear HF30
     have HG31 := Lib.hid (HG30.out.on hb31)
     clear HG30
     have HR31 := Lib.hid (HR30.out.on hb31)
     clear HR30
     have HT31 := Lib.hid (hft.rw (by decide))
     clear hft
     have hfld : ∀ W_ : World, (Instr.field 24 (.agg #[.int .i64 W, .int .i64 H, .slice a6 nl c6]) 2).run Try.prog W_ = .ok (.slice a6 nl c6) W_ := fun W_ => by simp [Instr.field, asAgg, go_sem]
     go_upto_region 8 with fail
     clear hfld
     have HSPB := Lib.hid (fun (i c : Nat) (hi : i < nl) (hc : c < 3) => blend_between (⟨W, H, nl, nd, nn, nb, ns, nf, L, D, N, B, S, F⟩ : Flm) (⟨W2, H2, nl2, nd2, nn2, nb2, ns2, nf2, L2, D2, N2, B2, S2, F2⟩ : Flm) HSP1.out.L HSP2.out.L i c hi hc HNL.out.2.2)
     go_loopw [60] (fun ix wr => ∃ k : Nat, k ≤ nl ∧ ix = .int .i64 k ∧ Hid (Below y31.heap.size y31 wr)) (fun ix _ => nl - (intOf ix).toNat)
     case atStart => exact ⟨0, Nat.zero_le _, rfl, Lib.hid (Below.refl _ _)⟩
     case round =>
      obtain ⟨k, hk, rfl, HB⟩ := hrel
      have hr32_0 := (HB.out.block _ (lt_heap hr31_0)).trans hr31_0
      have hr32_1 := (HB.out.block _ (lt_heap hr31_1)).trans hr31_1
      have hr32_2 := (HB.out.block _ (lt_heap hr31_2)).trans hr31_2
      have hr32_3 := (HB.out.block _ (lt_heap hr31_3)).trans hr31_3
      have hr32_4 := (HB.out.block _ (lt_heap hr31_4)).trans hr31_4
      have HU32 := Lib.hid (HU31.out.trans (HB.out.mono HU31.out.size))
      have HF32 := Lib.hid (HF31.out.on HB.out)
      have HG32 := Lib.hid (HG31.out.on HB.out)
      have HR32 := Lib.hid (HR31.out.on HB.out)
      have HT32 := Lib.hid (HT31.out.on HB.out)
      obtain ⟨y32, hy_⟩ : ∃ y, y = wr := ⟨_, rfl⟩
      rw [← hy_] at HB HU32 hr32_0 hr32_1 hr32_2 hr32_3 hr32_4 HF32 HG32 HR32 HT32 ⊢
      clear hy_
      by_cases hlt : k < nl
      ·
       have hlt' : (k : Int) < nl := by omega
       have hkf : (k : Int) < nf := by have := HNL.out; omega
       obtain ⟨tb, to_, hta, et0, et1, et2⟩ := HT32.out.at3 hlt
       subst hta
       obtain ⟨lb, lo, hla, ex0, ex1, ex2⟩ := (HC.out.at_.l.on HU32.out).at3 hlt
       obtain ⟨fb, fo, hfa, eF⟩ := (HC.out.at_.f.on HU32.out).at1 (k := k) (by have := HNL.out; simp only []; omega)
       simp only [] at hla ex0 ex1 ex2 hfa eF
       subst hla hfa
       obtain ⟨b0_, hb0_⟩ : ∃ t, t = LB (k * 3) := ⟨_, rfl⟩
       rw [← hb0_] at et0
       obtain ⟨x0, hx0⟩ : ∃ t, t = L (k * 3) := ⟨_, rfl⟩
       rw [← hx0] at ex0
       obtain ⟨b1_, hb1_⟩ : ∃ t, t = LB (k * 3 + 1) := ⟨_, rfl⟩
       rw [← hb1_] at et1
       obtain ⟨x1, hx1⟩ : ∃ t, t = L (k * 3 + 1) := ⟨_, rfl⟩
       rw [← hx1] at ex1
       obtain ⟨b2_, hb2_⟩ : ∃ t, t = LB (k * 3 + 2) := ⟨_, rfl⟩
       rw [← hb2_] at et2
       obtain ⟨x2, hx2⟩ : ∃ t, t = L (k * 3 + 2) := ⟨_, rfl⟩
       rw [← hx2] at ex2
       have HBW0 := Lib.hid (show Pl.held b0_ = b0_ ∧ (¬ (0 ≤ F k ∧ F k < nl2) → b0_ = x0) ∧ (∀ k' : Nat, F k = k' → k' < nl2 → min x0 (L2 (k' * 3 + 0)) ≤ b0_ ∧ b0_ ≤ max x0 (L2 (k' * 3 + 0))) by rw [hb0_, hx0, HLB.out]; exact HSPB.out k 0 hlt (by omega))
       have HBW1 := Lib.hid (show Pl.held b1_ = b1_ ∧ (¬ (0 ≤ F k ∧ F k < nl2) → b1_ = x1) ∧ (∀ k' : Nat, F k = k' → k' < nl2 → min x1 (L2 (k' * 3 + 1)) ≤ b1_ ∧ b1_ ≤ max x1 (L2 (k' * 3 + 1))) by rw [hb1_, hx1, HLB.out]; exact HSPB.out k 1 hlt (by omega))
       have HBW2 := Lib.hid (show Pl.held b2_ = b2_ ∧ (¬ (0 ≤ F k ∧ F k < nl2) → b2_ = x2) ∧ (∀ k' : Nat, F k = k' → k' < nl2 → min x2 (L2 (k' * 3 + 2)) ≤ b2_ ∧ b2_ ≤ max x2 (L2 (k' * 3 + 2))) by rw [hb2_, hx2, HLB.out]; exact HSPB.out k 2 hlt (by omega))
       obtain ⟨fk, hfk⟩ : ∃ t, t = F k := ⟨_, rfl⟩
       rw [← hfk] at eF HBW0 HBW1 HBW2
       clear hb0_ hb1_ hb2_ hx0 hx1 hx2 hfk
       go_upto_region 10 with fail
       clear et0 et1 et2
       have hb33 := Ve.below_n1 y32 (.cells #[.int .i64 b0_, .int .i64 b1_, .int .i64 b2_] 56)
       have hN := heap_alloc_last y32 (.cells #[.int .i64 b0_, .int .i64 b1_, .int .i64 b2_] 56)
       obtain ⟨y33, hy33⟩ : ∃ y, y32.alloc (.cells #[.int .i64 b0_, .int .i64 b1_, .int .i64 b2_] 56) = y := ⟨_, rfl⟩
       have hs33 : y33.heap.size = y32.heap.size + 1 := by rw [← hy33]; simp
       rw [hy33] at hb33 hN ⊢
       clear hy33
       have hl33_0 := lt_heap hr32_0
       have hl33_1 := lt_heap hr32_1
       have hl33_2 := lt_heap hr32_2
       have hl33_3 := lt_heap hr32_3
       have hl33_4 := lt_heap hr32_4
       have hr33_0 := (hb33.block _ (lt_heap hr32_0)).trans hr32_0
       have hr33_1 := (hb33.block _ (lt_heap hr32_1)).trans hr32_1
       have hr33_2 := (hb33.block _ (lt_heap hr32_2)).trans hr32_2
       have hr33_3 := (hb33.block _ (lt_heap hr32_3)).trans hr32_3
       have hr33_4 := (hb33.block _ (lt_heap hr32_4)).trans hr32_4
       have HU33 := Lib.hid (HU32.out.trans (hb33.mono HU32.out.size))
       clear hr32_0 hr32_1 hr32_2 hr32_3 hr32_4 HU32
       have hr33_5 := hN
       clear hN
       have HF33 := Lib.hid (HF32.out.on hb33)
       clear HF32
       have HG33 := Lib.hid (HG32.out.on hb33)
       clear HG32
       have HR33 := Lib.hid (HR32.out.on hb33)
       clear HR32
       have HT33 := Lib.hid (HT32.out.on hb33)
       clear HT32
       clear hs33
       replace ex0 := (hb33.cell (p := ⟨lb, lo + k * 3, none⟩) (World.block_lt_of_cell? _ _ ex0)).trans ex0
       replace ex1 := (hb33.cell (p := ⟨lb, lo + k * 3 + 1, none⟩) (World.block_lt_of_cell? _ _ ex1)).trans ex1
       replace ex2 := (hb33.cell (p := ⟨lb, lo + k * 3 + 2, none⟩) (World.block_lt_of_cell? _ _ ex2)).trans ex2
       replace eF := (hb33.cell (p := ⟨fb, fo + k, none⟩) (World.block_lt_of_cell? _ _ eF)).trans eF
       have c0_0 := cell_of_row _ _ 0 _ _ _ hr33_0
       have c0_1 := cell_of_row _ _ 1 _ _ _ hr33_0
       have c0_2 := cell_of_row _ _ 2 _ _ _ hr33_0
       have c0_3 := cell_of_row _ _ 3 _ _ _ hr33_0
       have c0_4 := cell_of_row _ _ 4 _ _ _ hr33_0
       have c0_5 := cell_of_row _ _ 5 _ _ _ hr33_0
       have c0_6 := cell_of_row _ _ 6 _ _ _ hr33_0
       have c0_7 := cell_of_row _ _ 7 _ _ _ hr33_0
       simp at c0_0 c0_1 c0_2 c0_3 c0_4 c0_5 c0_6 c0_7
       go_upto_region 12 with fail
       clear c0_0 c0_1 c0_2 c0_3 c0_4 c0_5 c0_6 c0_7
       have hb34 := Ve.below_n1 y33 (.cells #[.int .i64 x0, .int .i64 x1, .int .i64 x2] 56)
       have hN := heap_alloc_last y33 (.cells #[.int .i64 x0, .int .i64 x1, .int .i64 x2] 56)
       obtain ⟨y34, hy34⟩ : ∃ y, y33.alloc (.cells #[.int .i64 x0, .int .i64 x1, .int .i64 x2] 56) = y := ⟨_, rfl⟩
       have hs34 : y34.heap.size = y33.heap.size + 1 := by rw [← hy34]; simp
       rw [hy34] at hb34 hN ⊢
       clear hy34
       have hl34_0 := lt_heap hr33_0
       have hl34_1 := lt_heap hr33_1
       have hl34_2 := lt_heap hr33_2
       have hl34_3 := lt_heap hr33_3
       have hl34_4 := lt_heap hr33_4
       have hl34_5 := lt_heap hr33_5
       have hr34_0 := (hb34.block _ (lt_heap hr33_0)).trans hr33_0
       have hr34_1 := (hb34.block _ (lt_heap hr33_1)).trans hr33_1
       have hr34_2 := (hb34.block _ (lt_heap hr33_2)).trans hr33_2
       have hr34_3 := (hb34.block _ (lt_heap hr33_3)).trans hr33_3
       have hr34_4 := (hb34.block _ (lt_heap hr33_4)).trans hr33_4
       have hr34_5 := (hb34.block _ (lt_heap hr33_5)).trans hr33_5
       have HU34 := Lib.hid (HU33.out.trans (hb34.mono HU33.out.size))
       clear hr33_0 hr33_1 hr33_2 hr33_3 hr33_4 hr33_5 HU33
       have hr34_6 := hN
       clear hN
       have HF34 := Lib.hid (HF33.out.on hb34)
       clear HF33
       have HG34 := Lib.hid (HG33.out.on hb34)
       clear HG33
       have HR34 := Lib.hid (HR33.out.on hb34)
       clear HR33
       have HT34 := Lib.hid (HT33.out.on hb34)
       clear HT33
       clear hs34
       replace ex0 := (hb34.cell (p := ⟨lb, lo + k * 3, none⟩) (World.block_lt_of_cell? _ _ ex0)).trans ex0
       replace ex1 := (hb34.cell (p := ⟨lb, lo + k * 3 + 1, none⟩) (World.block_lt_of_cell? _ _ ex1)).trans ex1
       replace ex2 := (hb34.cell (p := ⟨lb, lo + k * 3 + 2, none⟩) (World.block_lt_of_cell? _ _ ex2)).trans ex2
       replace eF := (hb34.cell (p := ⟨fb, fo + k, none⟩) (World.block_lt_of_cell? _ _ eF)).trans eF
       have c6_0 := cell_of_row _ _ 0 _ _ _ hr34_6
       have c6_1 := cell_of_row _ _ 1 _ _ _ hr34_6
       have c6_2 := cell_of_row _ _ 2 _ _ _ hr34_6
       simp at c6_0 c6_1 c6_2
       go_upto_region 13 with fail
       clear c6_0 c6_1 c6_2
       have hb35 := Ve.below_n1 y34 (.cells #[.int .i64 x0, .int .i64 x1, .int .i64 x2] 56)
       have hN := heap_alloc_last y34 (.cells #[.int .i64 x0, .int .i64 x1, .int .i64 x2] 56)
       obtain ⟨y35, hy35⟩ : ∃ y, y34.alloc (.cells #[.int .i64 x0, .int .i64 x1, .int .i64 x2] 56) = y := ⟨_, rfl⟩
       have hs35 : y35.heap.size = y34.heap.size + 1 := by rw [← hy35]; simp
       rw [hy35] at hb35 hN ⊢
       clear hy35
       have hl35_0 := lt_heap hr34_0
       have hl35_1 := lt_heap hr34_1
       have hl35_2 := lt_heap hr34_2
       have hl35_3 := lt_heap hr34_3
       have hl35_4 := lt_heap hr34_4
       have hl35_5 := lt_heap hr34_5
       have hl35_6 := lt_heap hr34_6
       have hr35_0 := (hb35.block _ (lt_heap hr34_0)).trans hr34_0
       have hr35_1 := (hb35.block _ (lt_heap hr34_1)).trans hr34_1
       have hr35_2 := (hb35.block _ (lt_heap hr34_2)).trans hr34_2
       have hr35_3 := (hb35.block _ (lt_heap hr34_3)).trans hr34_3
       have hr35_4 := (hb35.block _ (lt_heap hr34_4)).trans hr34_4
       have hr35_5 := (hb35.block _ (lt_heap hr34_5)).trans hr34_5
       have hr35_6 := (hb35.block _ (lt_heap hr34_6)).trans hr34_6
       have HU35 := Lib.hid (HU34.out.trans (hb35.mono HU34.out.size))
       clear hr34_0 hr34_1 hr34_2 hr34_3 hr34_4 hr34_5 hr34_6 HU34
       have hr35_7 := hN
       clear hN
       have HF35 := Lib.hid (HF34.out.on hb35)
       clear HF34
       have HG35 := Lib.hid (HG34.out.on hb35)
       clear HG34
       have HR35 := Lib.hid (HR34.out.on hb35)
       clear HR34
       have HT35 := Lib.hid (HT34.out.on hb35)
       clear HT34
       clear hs35
       clear ex0 ex1 ex2 eF
       by_cases hpk : 0 ≤ fk ∧ fk < nl2
       case neg =>
        have HCH := Lib.hid (show Below y32.heap.size y32 y35 from (hb33.trans (hb34.mono hb33.size)).trans (hb35.mono (hb33.trans (hb34.mono hb33.size)).size))
        have hv0 := HBW0.out.2.1 hpk
        have hv1 := HBW1.out.2.1 hpk
        have hv2 := HBW2.out.2.1 hpk
        have HMM0 := Lib.hid hv0
        have HMM1 := Lib.hid hv1
        have HMM2 := Lib.hid hv2
        clear hv0 hv1 hv2
        by_cases hk0 : 0 ≤ fk
        ·
         have g1 : decide (0 ≤ fk) = true := decide_eq_true hk0
         have g2 : decide (fk < (nl2 : Int)) = false := decide_eq_false (fun h => hpk ⟨hk0, h⟩)
         clear hpk hk0
         have c1_0 := cell_of_row _ _ 0 _ _ _ hr35_1
         have c1_1 := cell_of_row _ _ 1 _ _ _ hr35_1
         have c1_2 := cell_of_row _ _ 2 _ _ _ hr35_1
         have c1_3 := cell_of_row _ _ 3 _ _ _ hr35_1
         have c1_4 := cell_of_row _ _ 4 _ _ _ hr35_1
         have c1_5 := cell_of_row _ _ 5 _ _ _ hr35_1
         have c1_6 := cell_of_row _ _ 6 _ _ _ hr35_1
         have c1_7 := cell_of_row _ _ 7 _ _ _ hr35_1
         simp at c1_0 c1_1 c1_2 c1_3 c1_4 c1_5 c1_6 c1_7
         go_upto_region 15 with fail
         clear c1_0 c1_1 c1_2 c1_3 c1_4 c1_5 c1_6 c1_7
         have HV0 := Lib.hid HBW0.out.1
         have HV1 := Lib.hid HBW1.out.1
         have HV2 := Lib.hid HBW2.out.1
         clear HBW0 HBW1 HBW2
         go_upto_region 16 with fail
         go_loopw [93] (fun ix wr => ∃ c : Int, (c = 0 ∨ c = 1 ∨ c = 2 ∨ c = 3) ∧ ix = .int .i64 c ∧ Hid (Below y35.heap.size y35 wr)) (fun ix _ => 3 - (intOf ix).toNat)
         case atStart => exact ⟨0, .inl rfl, rfl, Lib.hid (Below.refl _ _)⟩
         case round =>
          obtain ⟨c, hc_, rfl, HBI⟩ := hrel
          have hr36_5 := (HBI.out.block _ (lt_heap hr35_5)).trans hr35_5
          have hr36_6 := (HBI.out.block _ (lt_heap hr35_6)).trans hr35_6
          have hr36_7 := (HBI.out.block _ (lt_heap hr35_7)).trans hr35_7
          obtain ⟨y36, hy_⟩ : ∃ y, y = wr := ⟨_, rfl⟩
          rw [← hy_] at HBI hr36_5 hr36_6 hr36_7 ⊢
          clear hy_
          rcases hc_ with hc_ | hc_ | hc_ | hc_
          ·
           subst hc_
           have q1 : decide (b0_ < x0) = false := decide_eq_false (by have := HMM0.out; omega)
           have q2 : decide (x0 < b0_) = false := decide_eq_false (by have := HMM0.out; omega)
           have HHD := Lib.hid (show ∀ W_ : World, Calls Try.prog 19 #[.int .i64 b0_] W_ (fun e' w' => e' = .returned (.int .i64 b0_) ∧ W_ = w') from fun W_ => by have h := Wa.held_any b0_ W_; rw [HV0.out] at h; exact h)
           go_upto_region 18 with fail
           have hd_ : Below y36.heap.size y36 y36.drew := (Below.refl _ _).drew
           refine wp_region_held_drew (S := fun y => y.heap[y32.heap.size]? = some (.cells #[.int .i64 b0_, .int .i64 b1_, .int .i64 b2_] 56 (0, 0)) ∧ y.heap[y33.heap.size]? = some (.cells #[.int .i64 x0, .int .i64 x1, .int .i64 x2] 56 (0, 0)) ∧ y.heap[y34.heap.size]? = some (.cells #[.int .i64 x0, .int .i64 x1, .int .i64 x2] 56 (0, 0))) (by kernel_rfl) (⟨hr36_5, hr36_6, hr36_7⟩) (fun hS0 => ?_)
           refine wpAnyH_take (i := 0) (v := ?_) rfl (by kernel_rfl) (by kernel_rfl) (by kernel_rfl) (fun _ _ _ h => h) (Or.inl ⟨by kernel_rfl, by (intro wz hSz; go_simp; try with_reducible rfl)⟩) hS0 ?_
           go_simp
           refine wpAnyH_take (i := 1) (v := ?_) rfl (by kernel_rfl) (by kernel_rfl) (by kernel_rfl) (fun _ _ _ h => h) (Or.inl ⟨by kernel_rfl, by (intro wz hSz; go_simp; try with_reducible rfl)⟩) hS0 ?_
           go_simp
           refine wpAnyH_take (i := 2) (v := ?_) rfl (by kernel_rfl) (by kernel_rfl) (by kernel_rfl) (fun _ _ _ h => h) (Or.inl ⟨by kernel_rfl, by (intro wz hSz; have a0 := cell_of_row _ _ 0 _ _ _ hSz.1; have a1 := cell_of_row _ _ 0 _ _ _ hSz.2.1; have a2 := cell_of_row _ _ 0 _ _ _ hSz.2.2; simp at a0 a1 a2; go_simp; try with_reducible rfl)⟩) hS0 ?_
           go_simp
           refine wpAnyH_take (i := 3) (v := ?_) rfl (by kernel_rfl) (by kernel_rfl) (by kernel_rfl) (fun _ _ _ h => h) (Or.inl ⟨by kernel_rfl, by (intro wz hSz; go_simp; try with_reducible rfl)⟩) hS0 ?_
           go_simp
           refine wpAnyH_take (i := 4) (v := ?_) rfl (by kernel_rfl) (by kernel_rfl) (by kernel_rfl) (fun _ _ _ h => h) (Or.inl ⟨by kernel_rfl, by (intro wz hSz; go_simp; try with_reducible rfl)⟩) hS0 ?_
           go_simp
           refine wpAnyH_take (i := 5) (v := ?_) rfl (by kernel_rfl) (by kernel_rfl) (by kernel_rfl) (fun _ _ _ h => h) (Or.inl ⟨by kernel_rfl, by (intro wz hSz; have a0 := cell_of_row _ _ 0 _ _ _ hSz.1; have a1 := cell_of_row _ _ 0 _ _ _ hSz.2.1; have a2 := cell_of_row _ _ 0 _ _ _ hSz.2.2; simp at a0 a1 a2; go_simp; try with_reducible rfl)⟩) hS0 ?_
           go_simp
           refine wpAnyH_take (i := 6) (v := ?_) rfl (by kernel_rfl) (by kernel_rfl) (by kernel_rfl) (fun _ _ _ h => h) (Or.inl ⟨by kernel_rfl, by (intro wz hSz; go_simp; try with_reducible rfl)⟩) hS0 ?_
           go_simp
           refine wpAnyH_take (i := 7) (v := ?_) rfl (by kernel_rfl) (by kernel_rfl) (by kernel_rfl) (fun _ _ _ h => h) (Or.inl ⟨by kernel_rfl, by (intro wz hSz; go_simp; try with_reducible rfl)⟩) hS0 ?_
           go_simp
           refine wpAnyH_take (i := 8) (v := ?_) rfl (by kernel_rfl) (by kernel_rfl) (by kernel_rfl) (fun _ _ _ h => h) (Or.inl ⟨by kernel_rfl, by (intro wz hSz; have a0 := cell_of_row _ _ 0 _ _ _ hSz.1; have a1 := cell_of_row _ _ 0 _ _ _ hSz.2.1; have a2 := cell_of_row _ _ 0 _ _ _ hSz.2.2; simp at a0 a1 a2; go_simp; try with_reducible rfl)⟩) hS0 ?_
           go_simp
           refine wpAnyH_take (i := 9) (v := ?_) rfl (by kernel_rfl) (by kernel_rfl) (by kernel_rfl) (fun _ _ _ h => h) (Or.inl ⟨by kernel_rfl, by (intro wz hSz; go_simp; try with_reducible rfl)⟩) hS0 ?_
           go_simp
           refine wpAnyH_take (i := 10) (v := ?_) rfl (by kernel_rfl) (by kernel_rfl) (by kernel_rfl) (fun _ _ _ h => h) (Or.inl ⟨by kernel_rfl, by (intro wz hSz; go_simp; try with_reducible rfl)⟩) hS0 ?_
           go_simp
           refine wpAnyH_take (i := 11) (v := ?_) rfl (by kernel_rfl) (by kernel_rfl) (by kernel_rfl) (fun _ _ _ h => h) (Or.inl ⟨by kernel_rfl, by (intro wz hSz; go_simp; try with_reducible rfl)⟩) hS0 ?_
           go_simp
           refine wpAnyH_take (i := 12) (v := ?_) rfl (by kernel_rfl) (by kernel_rfl) (by kernel_rfl) (fun _ _ _ h => h) (Or.inl ⟨by kernel_rfl, by (intro wz hSz; go_simp; try with_reducible rfl)⟩) hS0 ?_
           go_simp
           refine wpAnyH_take (i := 13) (v := ?_) rfl (by kernel_rfl) (by kernel_rfl) (by kernel_rfl) (fun _ _ _ h => h) (Or.inl ⟨by kernel_rfl, by (intro wz hSz; go_simp; try with_reducible rfl)⟩) hS0 ?_
           go_simp
           refine wpAnyH_take (i := 14) (v := ?_) rfl (by kernel_rfl) (by kernel_rfl) (by kernel_rfl) (fun _ _ _ h => h) (Or.inl ⟨by kernel_rfl, by (intro wz hSz; have a0 := cell_of_row _ _ 0 _ _ _ hSz.1; have a1 := cell_of_row _ _ 0 _ _ _ hSz.2.1; have a2 := cell_of_row _ _ 0 _ _ _ hSz.2.2; simp at a0 a1 a2; go_simp; try with_reducible rfl)⟩) hS0 ?_
           go_simp
           refine wpAnyH_take (i := 15) (v := ?_) rfl (by kernel_rfl) (by kernel_rfl) (by kernel_rfl) (fun _ _ _ h => h) (Or.inl ⟨by kernel_rfl, by (intro wz hSz; go_simp; try with_reducible rfl)⟩) hS0 ?_
           go_simp
           refine wpAnyH_take (i := 16) (v := ?_) rfl (by kernel_rfl) (by kernel_rfl) (by kernel_rfl) (fun _ _ _ h => h) (Or.inl ⟨by kernel_rfl, by (intro wz hSz; go_simp; try with_reducible rfl)⟩) hS0 ?_
           go_simp
           refine wpAnyH_take (i := 17) (v := ?_) rfl (by kernel_rfl) (by kernel_rfl) (by kernel_rfl) (fun _ _ _ h => h) (Or.inl ⟨by kernel_rfl, by (intro wz hSz; have a0 := cell_of_row _ _ 0 _ _ _ hSz.1; have a1 := cell_of_row _ _ 0 _ _ _ hSz.2.1; have a2 := cell_of_row _ _ 0 _ _ _ hSz.2.2; simp at a0 a1 a2; go_simp; try with_reducible rfl)⟩) hS0 ?_
           go_simp
           refine wpAnyH_take (i := 18) (v := ?_) rfl (by kernel_rfl) (by kernel_rfl) (by kernel_rfl) (fun _ _ _ h => h) (Or.inl ⟨by kernel_rfl, by (intro wz hSz; go_simp; try with_reducible rfl)⟩) hS0 ?_
           go_simp
           refine wpAnyH_take (i := 19) (v := ?_) rfl (by kernel_rfl) (by kernel_rfl) (by kernel_rfl) (fun _ _ _ h => h) (Or.inl ⟨by kernel_rfl, by (intro wz hSz; go_simp; try with_reducible rfl)⟩) hS0 ?_
           go_simp
           refine wpAnyH_take (i := 20) (v := ?_) rfl (by kernel_rfl) (by kernel_rfl) (by kernel_rfl) (fun _ _ _ h => h) (Or.inl ⟨by kernel_rfl, by (intro wz hSz; have a0 := cell_of_row _ _ 0 _ _ _ hSz.1; have a1 := cell_of_row _ _ 0 _ _ _ hSz.2.1; have a2 := cell_of_row _ _ 0 _ _ _ hSz.2.2; simp at a0 a1 a2; go_simp; try with_reducible rfl)⟩) hS0 ?_
           go_simp
           refine wpAnyH_take (i := 21) (v := ?_) rfl (by kernel_rfl) (by kernel_rfl) (by kernel_rfl) (fun _ _ _ h => h) (Or.inl ⟨by kernel_rfl, by (intro wz hSz; go_simp; try with_reducible rfl)⟩) hS0 ?_
           go_simp
           refine wpAnyH_take (i := 22) (v := ?_) rfl (by kernel_rfl) (by kernel_rfl) (by kernel_rfl) (fun _ _ _ h => h) (Or.inl ⟨by kernel_rfl, by (intro wz hSz; go_simp; try with_reducible rfl)⟩) hS0 ?_
           go_simp
           refine wpAnyH_take (i := 23) (v := ?_) rfl (by kernel_rfl) (by kernel_rfl) (by kernel_rfl) (fun _ _ _ h => h) (Or.inl ⟨by kernel_rfl, by (intro wz hSz; go_simp; try with_reducible rfl)⟩) hS0 ?_
           go_simp
           refine wpAnyH_take (i := 24) (v := ?_) rfl (by kernel_rfl) (by kernel_rfl) (by kernel_rfl) (fun _ _ _ h => h) (Or.inl ⟨by kernel_rfl, by (intro wz hSz; go_simp; try with_reducible rfl)⟩) hS0 ?_
           go_simp
           refine wpAnyH_take (i := 25) (v := ?_) rfl (by kernel_rfl) (by kernel_rfl) (by kernel_rfl) (fun _ _ _ h => h) (Or.inl ⟨by kernel_rfl, by (intro wz hSz; go_simp; try with_reducible rfl)⟩) hS0 ?_
           go_simp
           refine wpAnyH_take (i := 26) (v := ?_) rfl (by kernel_rfl) (by kernel_rfl) (by kernel_rfl) (fun _ _ _ h => h) (Or.inl ⟨by kernel_rfl, by (intro wz hSz; go_simp; try with_reducible rfl)⟩) hS0 ?_
           go_simp
           refine wpAnyH_take (i := 27) (v := ?_) rfl (by kernel_rfl) (by kernel_rfl) (by kernel_rfl) (fun _ _ _ h => h) (Or.inl ⟨by kernel_rfl, by (intro wz hSz; have a0 := cell_of_row _ _ 0 _ _ _ hSz.1; have a1 := cell_of_row _ _ 0 _ _ _ hSz.2.1; have a2 := cell_of_row _ _ 0 _ _ _ hSz.2.2; simp at a0 a1 a2; go_simp; try with_reducible rfl)⟩) hS0 ?_
           go_simp
           refine wpAnyH_take (i := 28) (v := ?_) rfl (by kernel_rfl) (by kernel_rfl) (by kernel_rfl) (fun _ _ _ h => h) (Or.inl ⟨by kernel_rfl, by (intro wz hSz; go_simp; try with_reducible rfl)⟩) hS0 ?_
           go_simp
           refine wpAnyH_take (i := 29) (v := ?_) rfl (by kernel_rfl) (by kernel_rfl) (by kernel_rfl) (fun _ _ _ h => h) (Or.inl ⟨by kernel_rfl, by (intro wz hSz; go_simp; try with_reducible rfl)⟩) hS0 ?_
           go_simp
           refine wpAnyH_take (i := 30) (v := ?_) rfl (by kernel_rfl) (by kernel_rfl) (by kernel_rfl) (fun _ _ _ h => h) (Or.inl ⟨by kernel_rfl, by (intro wz hSz; have a0 := cell_of_row _ _ 0 _ _ _ hSz.1; have a1 := cell_of_row _ _ 0 _ _ _ hSz.2.1; have a2 := cell_of_row _ _ 0 _ _ _ hSz.2.2; simp at a0 a1 a2; go_simp; try with_reducible rfl)⟩) hS0 ?_
           go_simp
           refine wpAnyH_ready (rs := [31]) (by kernel_rfl) (by simp) ?_
           refine AllReadyH.cons rfl (fun K hK => ?_) AllReadyH.nil
           go_simp
           go_wp2_with (go_at_call 19; refine (HHD.out _).mono ?_; rintro e ww ⟨rfl, rfl⟩)
           refine hK.out _ _ (hS0) (fun hSc => ?_)
           clear hK K
           refine wpAnyH_take (i := 32) (v := ?_) rfl (by kernel_rfl) (by kernel_rfl) (by kernel_rfl) (fun _ _ _ h => h) (Or.inl ⟨by kernel_rfl, by (intro wz hSz; go_simp; try with_reducible rfl)⟩) hSc ?_
           go_simp
           refine wpAnyH_take (i := 33) (v := ?_) rfl (by kernel_rfl) (by kernel_rfl) (by kernel_rfl) (fun _ _ _ h => h) (Or.inl ⟨by kernel_rfl, by (intro wz hSz; go_simp; try with_reducible rfl)⟩) hSc ?_
           go_simp
           refine wpAnyH_done (by kernel_rfl) ?_ _
           go_wp2_with fail
           go_roundw
           case rel => exact ⟨1, by omega, by first | rfl | go_num, Lib.hid (HBI.out.trans (hd_.mono HBI.out.size))⟩
           case measure => simp [intOf]
          ·
           subst hc_
           have q1 : decide (b1_ < x1) = false := decide_eq_false (by have := HMM1.out; omega)
           have q2 : decide (x1 < b1_) = false := decide_eq_false (by have := HMM1.out; omega)
           have HHD := Lib.hid (show ∀ W_ : World, Calls Try.prog 19 #[.int .i64 b1_] W_ (fun e' w' => e' = .returned (.int .i64 b1_) ∧ W_ = w') from fun W_ => by have h := Wa.held_any b1_ W_; rw [HV1.out] at h; exact h)
           go_upto_region 18 with fail
           have hd_ : Below y36.heap.size y36 y36.drew := (Below.refl _ _).drew
           refine wp_region_held_drew (S := fun y => y.heap[y32.heap.size]? = some (.cells #[.int .i64 b0_, .int .i64 b1_, .int .i64 b2_] 56 (0, 0)) ∧ y.heap[y33.heap.size]? = some (.cells #[.int .i64 x0, .int .i64 x1, .int .i64 x2] 56 (0, 0)) ∧ y.heap[y34.heap.size]? = some (.cells #[.int .i64 x0, .int .i64 x1, .int .i64 x2] 56 (0, 0))) (by kernel_rfl) (⟨hr36_5, hr36_6, hr36_7⟩) (fun hS0 => ?_)
           refine wpAnyH_take (i := 0) (v := ?_) rfl (by kernel_rfl) (by kernel_rfl) (by kernel_rfl) (fun _ _ _ h => h) (Or.inl ⟨by kernel_rfl, by (intro wz hSz; go_simp; try with_reducible rfl)⟩) hS0 ?_
           go_simp
           refine wpAnyH_take (i := 1) (v := ?_) rfl (by kernel_rfl) (by kernel_rfl) (by kernel_rfl) (fun _ _ _ h => h) (Or.inl ⟨by kernel_rfl, by (intro wz hSz; go_simp; try with_reducible rfl)⟩) hS0 ?_
           go_simp
           refine wpAnyH_take (i := 2) (v := ?_) rfl (by kernel_rfl) (by kernel_rfl) (by kernel_rfl) (fun _ _ _ h => h) (Or.inl ⟨by kernel_rfl, by (intro wz hSz; have a0 := cell_of_row _ _ 1 _ _ _ hSz.1; have a1 := cell_of_row _ _ 1 _ _ _ hSz.2.1; have a2 := cell_of_row _ _ 1 _ _ _ hSz.2.2; simp at a0 a1 a2; go_simp; try with_reducible rfl)⟩) hS0 ?_
           go_simp
           refine wpAnyH_take (i := 3) (v := ?_) rfl (by kernel_rfl) (by kernel_rfl) (by kernel_rfl) (fun _ _ _ h => h) (Or.inl ⟨by kernel_rfl, by (intro wz hSz; go_simp; try with_reducible rfl)⟩) hS0 ?_
           go_simp
           refine wpAnyH_take (i := 4) (v := ?_) rfl (by kernel_rfl) (by kernel_rfl) (by kernel_rfl) (fun _ _ _ h => h) (Or.inl ⟨by kernel_rfl, by (intro wz hSz; go_simp; try with_reducible rfl)⟩) hS0 ?_
           go_simp
           refine wpAnyH_take (i := 5) (v := ?_) rfl (by kernel_rfl) (by kernel_rfl) (by kernel_rfl) (fun _ _ _ h => h) (Or.inl ⟨by kernel_rfl, by (intro wz hSz; have a0 := cell_of_row _ _ 1 _ _ _ hSz.1; have a1 := cell_of_row _ _ 1 _ _ _ hSz.2.1; have a2 := cell_of_row _ _ 1 _ _ _ hSz.2.2; simp at a0 a1 a2; go_simp; try with_reducible rfl)⟩) hS0 ?_
           go_simp
           refine wpAnyH_take (i := 6) (v := ?_) rfl (by kernel_rfl) (by kernel_rfl) (by kernel_rfl) (fun _ _ _ h => h) (Or.inl ⟨by kernel_rfl, by (intro wz hSz; go_simp; try with_reducible rfl)⟩) hS0 ?_
           go_simp
           refine wpAnyH_take (i := 7) (v := ?_) rfl (by kernel_rfl) (by kernel_rfl) (by kernel_rfl) (fun _ _ _ h => h) (Or.inl ⟨by kernel_rfl, by (intro wz hSz; go_simp; try with_reducible rfl)⟩) hS0 ?_
           go_simp
           refine wpAnyH_take (i := 8) (v := ?_) rfl (by kernel_rfl) (by kernel_rfl) (by kernel_rfl) (fun _ _ _ h => h) (Or.inl ⟨by kernel_rfl, by (intro wz hSz; have a0 := cell_of_row _ _ 1 _ _ _ hSz.1; have a1 := cell_of_row _ _ 1 _ _ _ hSz.2.1; have a2 := cell_of_row _ _ 1 _ _ _ hSz.2.2; simp at a0 a1 a2; go_simp; try with_reducible rfl)⟩) hS0 ?_
           go_simp
           refine wpAnyH_take (i := 9) (v := ?_) rfl (by kernel_rfl) (by kernel_rfl) (by kernel_rfl) (fun _ _ _ h => h) (Or.inl ⟨by kernel_rfl, by (intro wz hSz; go_simp; try with_reducible rfl)⟩) hS0 ?_
           go_simp
           refine wpAnyH_take (i := 10) (v := ?_) rfl (by kernel_rfl) (by kernel_rfl) (by kernel_rfl) (fun _ _ _ h => h) (Or.inl ⟨by kernel_rfl, by (intro wz hSz; go_simp; try with_reducible rfl)⟩) hS0 ?_
           go_simp
           refine wpAnyH_take (i := 11) (v := ?_) rfl (by kernel_rfl) (by kernel_rfl) (by kernel_rfl) (fun _ _ _ h => h) (Or.inl ⟨by kernel_rfl, by (intro wz hSz; go_simp; try with_reducible rfl)⟩) hS0 ?_
           go_simp
           refine wpAnyH_take (i := 12) (v := ?_) rfl (by kernel_rfl) (by kernel_rfl) (by kernel_rfl) (fun _ _ _ h => h) (Or.inl ⟨by kernel_rfl, by (intro wz hSz; go_simp; try with_reducible rfl)⟩) hS0 ?_
           go_simp
           refine wpAnyH_take (i := 13) (v := ?_) rfl (by kernel_rfl) (by kernel_rfl) (by kernel_rfl) (fun _ _ _ h => h) (Or.inl ⟨by kernel_rfl, by (intro wz hSz; go_simp; try with_reducible rfl)⟩) hS0 ?_
           go_simp
           refine wpAnyH_take (i := 14) (v := ?_) rfl (by kernel_rfl) (by kernel_rfl) (by kernel_rfl) (fun _ _ _ h => h) (Or.inl ⟨by kernel_rfl, by (intro wz hSz; have a0 := cell_of_row _ _ 1 _ _ _ hSz.1; have a1 := cell_of_row _ _ 1 _ _ _ hSz.2.1; have a2 := cell_of_row _ _ 1 _ _ _ hSz.2.2; simp at a0 a1 a2; go_simp; try with_reducible rfl)⟩) hS0 ?_
           go_simp
           refine wpAnyH_take (i := 15) (v := ?_) rfl (by kernel_rfl) (by kernel_rfl) (by kernel_rfl) (fun _ _ _ h => h) (Or.inl ⟨by kernel_rfl, by (intro wz hSz; go_simp; try with_reducible rfl)⟩) hS0 ?_
           go_simp
           refine wpAnyH_take (i := 16) (v := ?_) rfl (by kernel_rfl) (by kernel_rfl) (by kernel_rfl) (fun _ _ _ h => h) (Or.inl ⟨by kernel_rfl, by (intro wz hSz; go_simp; try with_reducible rfl)⟩) hS0 ?_
           go_simp
           refine wpAnyH_take (i := 17) (v := ?_) rfl (by kernel_rfl) (by kernel_rfl) (by kernel_rfl) (fun _ _ _ h => h) (Or.inl ⟨by kernel_rfl, by (intro wz hSz; have a0 := cell_of_row _ _ 1 _ _ _ hSz.1; have a1 := cell_of_row _ _ 1 _ _ _ hSz.2.1; have a2 := cell_of_row _ _ 1 _ _ _ hSz.2.2; simp at a0 a1 a2; go_simp; try with_reducible rfl)⟩) hS0 ?_
           go_simp
           refine wpAnyH_take (i := 18) (v := ?_) rfl (by kernel_rfl) (by kernel_rfl) (by kernel_rfl) (fun _ _ _ h => h) (Or.inl ⟨by kernel_rfl, by (intro wz hSz; go_simp; try with_reducible rfl)⟩) hS0 ?_
           go_simp
           refine wpAnyH_take (i := 19) (v := ?_) rfl (by kernel_rfl) (by kernel_rfl) (by kernel_rfl) (fun _ _ _ h => h) (Or.inl ⟨by kernel_rfl, by (intro wz hSz; go_simp; try with_reducible rfl)⟩) hS0 ?_
           go_simp
           refine wpAnyH_take (i := 20) (v := ?_) rfl (by kernel_rfl) (by kernel_rfl) (by kernel_rfl) (fun _ _ _ h => h) (Or.inl ⟨by kernel_rfl, by (intro wz hSz; have a0 := cell_of_row _ _ 1 _ _ _ hSz.1; have a1 := cell_of_row _ _ 1 _ _ _ hSz.2.1; have a2 := cell_of_row _ _ 1 _ _ _ hSz.2.2; simp at a0 a1 a2; go_simp; try with_reducible rfl)⟩) hS0 ?_
           go_simp
           refine wpAnyH_take (i := 21) (v := ?_) rfl (by kernel_rfl) (by kernel_rfl) (by kernel_rfl) (fun _ _ _ h => h) (Or.inl ⟨by kernel_rfl, by (intro wz hSz; go_simp; try with_reducible rfl)⟩) hS0 ?_
           go_simp
           refine wpAnyH_take (i := 22) (v := ?_) rfl (by kernel_rfl) (by kernel_rfl) (by kernel_rfl) (fun _ _ _ h => h) (Or.inl ⟨by kernel_rfl, by (intro wz hSz; go_simp; try with_reducible rfl)⟩) hS0 ?_
           go_simp
           refine wpAnyH_take (i := 23) (v := ?_) rfl (by kernel_rfl) (by kernel_rfl) (by kernel_rfl) (fun _ _ _ h => h) (Or.inl ⟨by kernel_rfl, by (intro wz hSz; go_simp; try with_reducible rfl)⟩) hS0 ?_
           go_simp
           refine wpAnyH_take (i := 24) (v := ?_) rfl (by kernel_rfl) (by kernel_rfl) (by kernel_rfl) (fun _ _ _ h => h) (Or.inl ⟨by kernel_rfl, by (intro wz hSz; go_simp; try with_reducible rfl)⟩) hS0 ?_
           go_simp
           refine wpAnyH_take (i := 25) (v := ?_) rfl (by kernel_rfl) (by kernel_rfl) (by kernel_rfl) (fun _ _ _ h => h) (Or.inl ⟨by kernel_rfl, by (intro wz hSz; go_simp; try with_reducible rfl)⟩) hS0 ?_
           go_simp
           refine wpAnyH_take (i := 26) (v := ?_) rfl (by kernel_rfl) (by kernel_rfl) (by kernel_rfl) (fun _ _ _ h => h) (Or.inl ⟨by kernel_rfl, by (intro wz hSz; go_simp; try with_reducible rfl)⟩) hS0 ?_
           go_simp
           refine wpAnyH_take (i := 27) (v := ?_) rfl (by kernel_rfl) (by kernel_rfl) (by kernel_rfl) (fun _ _ _ h => h) (Or.inl ⟨by kernel_rfl, by (intro wz hSz; have a0 := cell_of_row _ _ 1 _ _ _ hSz.1; have a1 := cell_of_row _ _ 1 _ _ _ hSz.2.1; have a2 := cell_of_row _ _ 1 _ _ _ hSz.2.2; simp at a0 a1 a2; go_simp; try with_reducible rfl)⟩) hS0 ?_
           go_simp
           refine wpAnyH_take (i := 28) (v := ?_) rfl (by kernel_rfl) (by kernel_rfl) (by kernel_rfl) (fun _ _ _ h => h) (Or.inl ⟨by kernel_rfl, by (intro wz hSz; go_simp; try with_reducible rfl)⟩) hS0 ?_
           go_simp
           refine wpAnyH_take (i := 29) (v := ?_) rfl (by kernel_rfl) (by kernel_rfl) (by kernel_rfl) (fun _ _ _ h => h) (Or.inl ⟨by kernel_rfl, by (intro wz hSz; go_simp; try with_reducible rfl)⟩) hS0 ?_
           go_simp
           refine wpAnyH_take (i := 30) (v := ?_) rfl (by kernel_rfl) (by kernel_rfl) (by kernel_rfl) (fun _ _ _ h => h) (Or.inl ⟨by kernel_rfl, by (intro wz hSz; have a0 := cell_of_row _ _ 1 _ _ _ hSz.1; have a1 := cell_of_row _ _ 1 _ _ _ hSz.2.1; have a2 := cell_of_row _ _ 1 _ _ _ hSz.2.2; simp at a0 a1 a2; go_simp; try with_reducible rfl)⟩) hS0 ?_
           go_simp
           refine wpAnyH_ready (rs := [31]) (by kernel_rfl) (by simp) ?_
           refine AllReadyH.cons rfl (fun K hK => ?_) AllReadyH.nil
           go_simp
           go_wp2_with (go_at_call 19; refine (HHD.out _).mono ?_; rintro e ww ⟨rfl, rfl⟩)
           refine hK.out _ _ (hS0) (fun hSc => ?_)
           clear hK K
           refine wpAnyH_take (i := 32) (v := ?_) rfl (by kernel_rfl) (by kernel_rfl) (by kernel_rfl) (fun _ _ _ h => h) (Or.inl ⟨by kernel_rfl, by (intro wz hSz; go_simp; try with_reducible rfl)⟩) hSc ?_
           go_simp
           refine wpAnyH_take (i := 33) (v := ?_) rfl (by kernel_rfl) (by kernel_rfl) (by kernel_rfl) (fun _ _ _ h => h) (Or.inl ⟨by kernel_rfl, by (intro wz hSz; go_simp; try with_reducible rfl)⟩) hSc ?_
           go_simp
           refine wpAnyH_done (by kernel_rfl) ?_ _
           go_wp2_with fail
           go_roundw
           case rel => exact ⟨2, by omega, by first | rfl | go_num, Lib.hid (HBI.out.trans (hd_.mono HBI.out.size))⟩
           case measure => simp [intOf]
          ·
           subst hc_
           have q1 : decide (b2_ < x2) = false := decide_eq_false (by have := HMM2.out; omega)
           have q2 : decide (x2 < b2_) = false := decide_eq_false (by have := HMM2.out; omega)
           have HHD := Lib.hid (show ∀ W_ : World, Calls Try.prog 19 #[.int .i64 b2_] W_ (fun e' w' => e' = .returned (.int .i64 b2_) ∧ W_ = w') from fun W_ => by have h := Wa.held_any b2_ W_; rw [HV2.out] at h; exact h)
           go_upto_region 18 with fail
           have hd_ : Below y36.heap.size y36 y36.drew := (Below.refl _ _).drew
           refine wp_region_held_drew (S := fun y => y.heap[y32.heap.size]? = some (.cells #[.int .i64 b0_, .int .i64 b1_, .int .i64 b2_] 56 (0, 0)) ∧ y.heap[y33.heap.size]? = some (.cells #[.int .i64 x0, .int .i64 x1, .int .i64 x2] 56 (0, 0)) ∧ y.heap[y34.heap.size]? = some (.cells #[.int .i64 x0, .int .i64 x1, .int .i64 x2] 56 (0, 0))) (by kernel_rfl) (⟨hr36_5, hr36_6, hr36_7⟩) (fun hS0 => ?_)
           refine wpAnyH_take (i := 0) (v := ?_) rfl (by kernel_rfl) (by kernel_rfl) (by kernel_rfl) (fun _ _ _ h => h) (Or.inl ⟨by kernel_rfl, by (intro wz hSz; go_simp; try with_reducible rfl)⟩) hS0 ?_
           go_simp
           refine wpAnyH_take (i := 1) (v := ?_) rfl (by kernel_rfl) (by kernel_rfl) (by kernel_rfl) (fun _ _ _ h => h) (Or.inl ⟨by kernel_rfl, by (intro wz hSz; go_simp; try with_reducible rfl)⟩) hS0 ?_
           go_simp
           refine wpAnyH_take (i := 2) (v := ?_) rfl (by kernel_rfl) (by kernel_rfl) (by kernel_rfl) (fun _ _ _ h => h) (Or.inl ⟨by kernel_rfl, by (intro wz hSz; have a0 := cell_of_row _ _ 2 _ _ _ hSz.1; have a1 := cell_of_row _ _ 2 _ _ _ hSz.2.1; have a2 := cell_of_row _ _ 2 _ _ _ hSz.2.2; simp at a0 a1 a2; go_simp; try with_reducible rfl)⟩) hS0 ?_
           go_simp
           refine wpAnyH_take (i := 3) (v := ?_) rfl (by kernel_rfl) (by kernel_rfl) (by kernel_rfl) (fun _ _ _ h => h) (Or.inl ⟨by kernel_rfl, by (intro wz hSz; go_simp; try with_reducible rfl)⟩) hS0 ?_
           go_simp
           refine wpAnyH_take (i := 4) (v := ?_) rfl (by kernel_rfl) (by kernel_rfl) (by kernel_rfl) (fun _ _ _ h => h) (Or.inl ⟨by kernel_rfl, by (intro wz hSz; go_simp; try with_reducible rfl)⟩) hS0 ?_
           go_simp
           refine wpAnyH_take (i := 5) (v := ?_) rfl (by kernel_rfl) (by kernel_rfl) (by kernel_rfl) (fun _ _ _ h => h) (Or.inl ⟨by kernel_rfl, by (intro wz hSz; have a0 := cell_of_row _ _ 2 _ _ _ hSz.1; have a1 := cell_of_row _ _ 2 _ _ _ hSz.2.1; have a2 := cell_of_row _ _ 2 _ _ _ hSz.2.2; simp at a0 a1 a2; go_simp; try with_reducible rfl)⟩) hS0 ?_
           go_simp
           refine wpAnyH_take (i := 6) (v := ?_) rfl (by kernel_rfl) (by kernel_rfl) (by kernel_rfl) (fun _ _ _ h => h) (Or.inl ⟨by kernel_rfl, by (intro wz hSz; go_simp; try with_reducible rfl)⟩) hS0 ?_
           go_simp
           refine wpAnyH_take (i := 7) (v := ?_) rfl (by kernel_rfl) (by kernel_rfl) (by kernel_rfl) (fun _ _ _ h => h) (Or.inl ⟨by kernel_rfl, by (intro wz hSz; go_simp; try with_reducible rfl)⟩) hS0 ?_
           go_simp
           refine wpAnyH_take (i := 8) (v := ?_) rfl (by kernel_rfl) (by kernel_rfl) (by kernel_rfl) (fun _ _ _ h => h) (Or.inl ⟨by kernel_rfl, by (intro wz hSz; have a0 := cell_of_row _ _ 2 _ _ _ hSz.1; have a1 := cell_of_row _ _ 2 _ _ _ hSz.2.1; have a2 := cell_of_row _ _ 2 _ _ _ hSz.2.2; simp at a0 a1 a2; go_simp; try with_reducible rfl)⟩) hS0 ?_
           go_simp
           refine wpAnyH_take (i := 9) (v := ?_) rfl (by kernel_rfl) (by kernel_rfl) (by kernel_rfl) (fun _ _ _ h => h) (Or.inl ⟨by kernel_rfl, by (intro wz hSz; go_simp; try with_reducible rfl)⟩) hS0 ?_
           go_simp
           refine wpAnyH_take (i := 10) (v := ?_) rfl (by kernel_rfl) (by kernel_rfl) (by kernel_rfl) (fun _ _ _ h => h) (Or.inl ⟨by kernel_rfl, by (intro wz hSz; go_simp; try with_reducible rfl)⟩) hS0 ?_
           go_simp
           refine wpAnyH_take (i := 11) (v := ?_) rfl (by kernel_rfl) (by kernel_rfl) (by kernel_rfl) (fun _ _ _ h => h) (Or.inl ⟨by kernel_rfl, by (intro wz hSz; go_simp; try with_reducible rfl)⟩) hS0 ?_
           go_simp
           refine wpAnyH_take (i := 12) (v := ?_) rfl (by kernel_rfl) (by kernel_rfl) (by kernel_rfl) (fun _ _ _ h => h) (Or.inl ⟨by kernel_rfl, by (intro wz hSz; go_simp; try with_reducible rfl)⟩) hS0 ?_
           go_simp
           refine wpAnyH_take (i := 13) (v := ?_) rfl (by kernel_rfl) (by kernel_rfl) (by kernel_rfl) (fun _ _ _ h => h) (Or.inl ⟨by kernel_rfl, by (intro wz hSz; go_simp; try with_reducible rfl)⟩) hS0 ?_
           go_simp
           refine wpAnyH_take (i := 14) (v := ?_) rfl (by kernel_rfl) (by kernel_rfl) (by kernel_rfl) (fun _ _ _ h => h) (Or.inl ⟨by kernel_rfl, by (intro wz hSz; have a0 := cell_of_row _ _ 2 _ _ _ hSz.1; have a1 := cell_of_row _ _ 2 _ _ _ hSz.2.1; have a2 := cell_of_row _ _ 2 _ _ _ hSz.2.2; simp at a0 a1 a2; go_simp; try with_reducible rfl)⟩) hS0 ?_
           go_simp
           refine wpAnyH_take (i := 15) (v := ?_) rfl (by kernel_rfl) (by kernel_rfl) (by kernel_rfl) (fun _ _ _ h => h) (Or.inl ⟨by kernel_rfl, by (intro wz hSz; go_simp; try with_reducible rfl)⟩) hS0 ?_
           go_simp
           refine wpAnyH_take (i := 16) (v := ?_) rfl (by kernel_rfl) (by kernel_rfl) (by kernel_rfl) (fun _ _ _ h => h) (Or.inl ⟨by kernel_rfl, by (intro wz hSz; go_simp; try with_reducible rfl)⟩) hS0 ?_
           go_simp
           refine wpAnyH_take (i := 17) (v := ?_) rfl (by kernel_rfl) (by kernel_rfl) (by kernel_rfl) (fun _ _ _ h => h) (Or.inl ⟨by kernel_rfl, by (intro wz hSz; have a0 := cell_of_row _ _ 2 _ _ _ hSz.1; have a1 := cell_of_row _ _ 2 _ _ _ hSz.2.1; have a2 := cell_of_row _ _ 2 _ _ _ hSz.2.2; simp at a0 a1 a2; go_simp; try with_reducible rfl)⟩) hS0 ?_
           go_simp
           refine wpAnyH_take (i := 18) (v := ?_) rfl (by kernel_rfl) (by kernel_rfl) (by kernel_rfl) (fun _ _ _ h => h) (Or.inl ⟨by kernel_rfl, by (intro wz hSz; go_simp; try with_reducible rfl)⟩) hS0 ?_
           go_simp
           refine wpAnyH_take (i := 19) (v := ?_) rfl (by kernel_rfl) (by kernel_rfl) (by kernel_rfl) (fun _ _ _ h => h) (Or.inl ⟨by kernel_rfl, by (intro wz hSz; go_simp; try with_reducible rfl)⟩) hS0 ?_
           go_simp
           refine wpAnyH_take (i := 20) (v := ?_) rfl (by kernel_rfl) (by kernel_rfl) (by kernel_rfl) (fun _ _ _ h => h) (Or.inl ⟨by kernel_rfl, by (intro wz hSz; have a0 := cell_of_row _ _ 2 _ _ _ hSz.1; have a1 := cell_of_row _ _ 2 _ _ _ hSz.2.1; have a2 := cell_of_row _ _ 2 _ _ _ hSz.2.2; simp at a0 a1 a2; go_simp; try with_reducible rfl)⟩) hS0 ?_
           go_simp
           refine wpAnyH_take (i := 21) (v := ?_) rfl (by kernel_rfl) (by kernel_rfl) (by kernel_rfl) (fun _ _ _ h => h) (Or.inl ⟨by kernel_rfl, by (intro wz hSz; go_simp; try with_reducible rfl)⟩) hS0 ?_
           go_simp
           refine wpAnyH_take (i := 22) (v := ?_) rfl (by kernel_rfl) (by kernel_rfl) (by kernel_rfl) (fun _ _ _ h => h) (Or.inl ⟨by kernel_rfl, by (intro wz hSz; go_simp; try with_reducible rfl)⟩) hS0 ?_
           go_simp
           refine wpAnyH_take (i := 23) (v := ?_) rfl (by kernel_rfl) (by kernel_rfl) (by kernel_rfl) (fun _ _ _ h => h) (Or.inl ⟨by kernel_rfl, by (intro wz hSz; go_simp; try with_reducible rfl)⟩) hS0 ?_
           go_simp
           refine wpAnyH_take (i := 24) (v := ?_) rfl (by kernel_rfl) (by kernel_rfl) (by kernel_rfl) (fun _ _ _ h => h) (Or.inl ⟨by kernel_rfl, by (intro wz hSz; go_simp; try with_reducible rfl)⟩) hS0 ?_
           go_simp
           refine wpAnyH_take (i := 25) (v := ?_) rfl (by kernel_rfl) (by kernel_rfl) (by kernel_rfl) (fun _ _ _ h => h) (Or.inl ⟨by kernel_rfl, by (intro wz hSz; go_simp; try with_reducible rfl)⟩) hS0 ?_
           go_simp
           refine wpAnyH_take (i := 26) (v := ?_) rfl (by kernel_rfl) (by kernel_rfl) (by kernel_rfl) (fun _ _ _ h => h) (Or.inl ⟨by kernel_rfl, by (intro wz hSz; go_simp; try with_reducible rfl)⟩) hS0 ?_
           go_simp
           refine wpAnyH_take (i := 27) (v := ?_) rfl (by kernel_rfl) (by kernel_rfl) (by kernel_rfl) (fun _ _ _ h => h) (Or.inl ⟨by kernel_rfl, by (intro wz hSz; have a0 := cell_of_row _ _ 2 _ _ _ hSz.1; have a1 := cell_of_row _ _ 2 _ _ _ hSz.2.1; have a2 := cell_of_row _ _ 2 _ _ _ hSz.2.2; simp at a0 a1 a2; go_simp; try with_reducible rfl)⟩) hS0 ?_
           go_simp
           refine wpAnyH_take (i := 28) (v := ?_) rfl (by kernel_rfl) (by kernel_rfl) (by kernel_rfl) (fun _ _ _ h => h) (Or.inl ⟨by kernel_rfl, by (intro wz hSz; go_simp; try with_reducible rfl)⟩) hS0 ?_
           go_simp
           refine wpAnyH_take (i := 29) (v := ?_) rfl (by kernel_rfl) (by kernel_rfl) (by kernel_rfl) (fun _ _ _ h => h) (Or.inl ⟨by kernel_rfl, by (intro wz hSz; go_simp; try with_reducible rfl)⟩) hS0 ?_
           go_simp
           refine wpAnyH_take (i := 30) (v := ?_) rfl (by kernel_rfl) (by kernel_rfl) (by kernel_rfl) (fun _ _ _ h => h) (Or.inl ⟨by kernel_rfl, by (intro wz hSz; have a0 := cell_of_row _ _ 2 _ _ _ hSz.1; have a1 := cell_of_row _ _ 2 _ _ _ hSz.2.1; have a2 := cell_of_row _ _ 2 _ _ _ hSz.2.2; simp at a0 a1 a2; go_simp; try with_reducible rfl)⟩) hS0 ?_
           go_simp
           refine wpAnyH_ready (rs := [31]) (by kernel_rfl) (by simp) ?_
           refine AllReadyH.cons rfl (fun K hK => ?_) AllReadyH.nil
           go_simp
           go_wp2_with (go_at_call 19; refine (HHD.out _).mono ?_; rintro e ww ⟨rfl, rfl⟩)
           refine hK.out _ _ (hS0) (fun hSc => ?_)
           clear hK K
           refine wpAnyH_take (i := 32) (v := ?_) rfl (by kernel_rfl) (by kernel_rfl) (by kernel_rfl) (fun _ _ _ h => h) (Or.inl ⟨by kernel_rfl, by (intro wz hSz; go_simp; try with_reducible rfl)⟩) hSc ?_
           go_simp
           refine wpAnyH_take (i := 33) (v := ?_) rfl (by kernel_rfl) (by kernel_rfl) (by kernel_rfl) (fun _ _ _ h => h) (Or.inl ⟨by kernel_rfl, by (intro wz hSz; go_simp; try with_reducible rfl)⟩) hSc ?_
           go_simp
           refine wpAnyH_done (by kernel_rfl) ?_ _
           go_wp2_with fail
           go_roundw
           case rel => exact ⟨3, by omega, by first | rfl | go_num, Lib.hid (HBI.out.trans (hd_.mono HBI.out.size))⟩
           case measure => simp [intOf]
          ·
           subst hc_
           have HBO := Lib.hid (show Below y31.heap.size y31 y36 from HB.out.trans ((HCH.out.trans (HBI.out.mono HCH.out.size)).mono HB.out.size))
           go_wp2_with fail
           go_roundw
           case rel => exact ⟨k + 1, by omega, by go_num, HBO⟩
           case measure => simp [intOf]; omega
        ·
         have g1 : decide (0 ≤ fk) = false := decide_eq_false hk0
         clear hpk hk0
         have c1_0 := cell_of_row _ _ 0 _ _ _ hr35_1
         have c1_1 := cell_of_row _ _ 1 _ _ _ hr35_1
         have c1_2 := cell_of_row _ _ 2 _ _ _ hr35_1
         have c1_3 := cell_of_row _ _ 3 _ _ _ hr35_1
         have c1_4 := cell_of_row _ _ 4 _ _ _ hr35_1
         have c1_5 := cell_of_row _ _ 5 _ _ _ hr35_1
         have c1_6 := cell_of_row _ _ 6 _ _ _ hr35_1
         have c1_7 := cell_of_row _ _ 7 _ _ _ hr35_1
         simp at c1_0 c1_1 c1_2 c1_3 c1_4 c1_5 c1_6 c1_7
         go_upto_region 15 with fail
         clear c1_0 c1_1 c1_2 c1_3 c1_4 c1_5 c1_6 c1_7
         have HV0 := Lib.hid HBW0.out.1
         have HV1 := Lib.hid HBW1.out.1
         have HV2 := Lib.hid HBW2.out.1
         clear HBW0 HBW1 HBW2
         go_upto_region 16 with fail
         go_loopw [93] (fun ix wr => ∃ c : Int, (c = 0 ∨ c = 1 ∨ c = 2 ∨ c = 3) ∧ ix = .int .i64 c ∧ Hid (Below y35.heap.size y35 wr)) (fun ix _ => 3 - (intOf ix).toNat)
         case atStart => exact ⟨0, .inl rfl, rfl, Lib.hid (Below.refl _ _)⟩
         case round =>
          obtain ⟨c, hc_, rfl, HBI⟩ := hrel
          have hr36_5 := (HBI.out.block _ (lt_heap hr35_5)).trans hr35_5
          have hr36_6 := (HBI.out.block _ (lt_heap hr35_6)).trans hr35_6
          have hr36_7 := (HBI.out.block _ (lt_heap hr35_7)).trans hr35_7
          obtain ⟨y36, hy_⟩ : ∃ y, y = wr := ⟨_, rfl⟩
          rw [← hy_] at HBI hr36_5 hr36_6 hr36_7 ⊢
          clear hy_
          rcases hc_ with hc_ | hc_ | hc_ | hc_
          ·
           subst hc_
           have q1 : decide (b0_ < x0) = false := decide_eq_false (by have := HMM0.out; omega)
           have q2 : decide (x0 < b0_) = false := decide_eq_false (by have := HMM0.out; omega)
           have HHD := Lib.hid (show ∀ W_ : World, Calls Try.prog 19 #[.int .i64 b0_] W_ (fun e' w' => e' = .returned (.int .i64 b0_) ∧ W_ = w') from fun W_ => by have h := Wa.held_any b0_ W_; rw [HV0.out] at h; exact h)
           go_upto_region 18 with fail
           have hd_ : Below y36.heap.size y36 y36.drew := (Below.refl _ _).drew
           refine wp_region_held_drew (S := fun y => y.heap[y32.heap.size]? = some (.cells #[.int .i64 b0_, .int .i64 b1_, .int .i64 b2_] 56 (0, 0)) ∧ y.heap[y33.heap.size]? = some (.cells #[.int .i64 x0, .int .i64 x1, .int .i64 x2] 56 (0, 0)) ∧ y.heap[y34.heap.size]? = some (.cells #[.int .i64 x0, .int .i64 x1, .int .i64 x2] 56 (0, 0))) (by kernel_rfl) (⟨hr36_5, hr36_6, hr36_7⟩) (fun hS0 => ?_)
           refine wpAnyH_take (i := 0) (v := ?_) rfl (by kernel_rfl) (by kernel_rfl) (by kernel_rfl) (fun _ _ _ h => h) (Or.inl ⟨by kernel_rfl, by (intro wz hSz; go_simp; try with_reducible rfl)⟩) hS0 ?_
           go_simp
           refine wpAnyH_take (i := 1) (v := ?_) rfl (by kernel_rfl) (by kernel_rfl) (by kernel_rfl) (fun _ _ _ h => h) (Or.inl ⟨by kernel_rfl, by (intro wz hSz; go_simp; try with_reducible rfl)⟩) hS0 ?_
           go_simp
           refine wpAnyH_take (i := 2) (v := ?_) rfl (by kernel_rfl) (by kernel_rfl) (by kernel_rfl) (fun _ _ _ h => h) (Or.inl ⟨by kernel_rfl, by (intro wz hSz; have a0 := cell_of_row _ _ 0 _ _ _ hSz.1; have a1 := cell_of_row _ _ 0 _ _ _ hSz.2.1; have a2 := cell_of_row _ _ 0 _ _ _ hSz.2.2; simp at a0 a1 a2; go_simp; try with_reducible rfl)⟩) hS0 ?_
           go_simp
           refine wpAnyH_take (i := 3) (v := ?_) rfl (by kernel_rfl) (by kernel_rfl) (by kernel_rfl) (fun _ _ _ h => h) (Or.inl ⟨by kernel_rfl, by (intro wz hSz; go_simp; try with_reducible rfl)⟩) hS0 ?_
           go_simp
           refine wpAnyH_take (i := 4) (v := ?_) rfl (by kernel_rfl) (by kernel_rfl) (by kernel_rfl) (fun _ _ _ h => h) (Or.inl ⟨by kernel_rfl, by (intro wz hSz; go_simp; try with_reducible rfl)⟩) hS0 ?_
           go_simp
           refine wpAnyH_take (i := 5) (v := ?_) rfl (by kernel_rfl) (by kernel_rfl) (by kernel_rfl) (fun _ _ _ h => h) (Or.inl ⟨by kernel_rfl, by (intro wz hSz; have a0 := cell_of_row _ _ 0 _ _ _ hSz.1; have a1 := cell_of_row _ _ 0 _ _ _ hSz.2.1; have a2 := cell_of_row _ _ 0 _ _ _ hSz.2.2; simp at a0 a1 a2; go_simp; try with_reducible rfl)⟩) hS0 ?_
           go_simp
           refine wpAnyH_take (i := 6) (v := ?_) rfl (by kernel_rfl) (by kernel_rfl) (by kernel_rfl) (fun _ _ _ h => h) (Or.inl ⟨by kernel_rfl, by (intro wz hSz; go_simp; try with_reducible rfl)⟩) hS0 ?_
           go_simp
           refine wpAnyH_take (i := 7) (v := ?_) rfl (by kernel_rfl) (by kernel_rfl) (by kernel_rfl) (fun _ _ _ h => h) (Or.inl ⟨by kernel_rfl, by (intro wz hSz; go_simp; try with_reducible rfl)⟩) hS0 ?_
           go_simp
           refine wpAnyH_take (i := 8) (v := ?_) rfl (by kernel_rfl) (by kernel_rfl) (by kernel_rfl) (fun _ _ _ h => h) (Or.inl ⟨by kernel_rfl, by (intro wz hSz; have a0 := cell_of_row _ _ 0 _ _ _ hSz.1; have a1 := cell_of_row _ _ 0 _ _ _ hSz.2.1; have a2 := cell_of_row _ _ 0 _ _ _ hSz.2.2; simp at a0 a1 a2; go_simp; try with_reducible rfl)⟩) hS0 ?_
           go_simp
           refine wpAnyH_take (i := 9) (v := ?_) rfl (by kernel_rfl) (by kernel_rfl) (by kernel_rfl) (fun _ _ _ h => h) (Or.inl ⟨by kernel_rfl, by (intro wz hSz; go_simp; try with_reducible rfl)⟩) hS0 ?_
           go_simp
           refine wpAnyH_take (i := 10) (v := ?_) rfl (by kernel_rfl) (by kernel_rfl) (by kernel_rfl) (fun _ _ _ h => h) (Or.inl ⟨by kernel_rfl, by (intro wz hSz; go_simp; try with_reducible rfl)⟩) hS0 ?_
           go_simp
           refine wpAnyH_take (i := 11) (v := ?_) rfl (by kernel_rfl) (by kernel_rfl) (by kernel_rfl) (fun _ _ _ h => h) (Or.inl ⟨by kernel_rfl, by (intro wz hSz; go_simp; try with_reducible rfl)⟩) hS0 ?_
           go_simp
           refine wpAnyH_take (i := 12) (v := ?_) rfl (by kernel_rfl) (by kernel_rfl) (by kernel_rfl) (fun _ _ _ h => h) (Or.inl ⟨by kernel_rfl, by (intro wz hSz; go_simp; try with_reducible rfl)⟩) hS0 ?_
           go_simp
           refine wpAnyH_take (i := 13) (v := ?_) rfl (by kernel_rfl) (by kernel_rfl) (by kernel_rfl) (fun _ _ _ h => h) (Or.inl ⟨by kernel_rfl, by (intro wz hSz; go_simp; try with_reducible rfl)⟩) hS0 ?_
           go_simp
           refine wpAnyH_take (i := 14) (v := ?_) rfl (by kernel_rfl) (by kernel_rfl) (by kernel_rfl) (fun _ _ _ h => h) (Or.inl ⟨by kernel_rfl, by (intro wz hSz; have a0 := cell_of_row _ _ 0 _ _ _ hSz.1; have a1 := cell_of_row _ _ 0 _ _ _ hSz.2.1; have a2 := cell_of_row _ _ 0 _ _ _ hSz.2.2; simp at a0 a1 a2; go_simp; try with_reducible rfl)⟩) hS0 ?_
           go_simp
           refine wpAnyH_take (i := 15) (v := ?_) rfl (by kernel_rfl) (by kernel_rfl) (by kernel_rfl) (fun _ _ _ h => h) (Or.inl ⟨by kernel_rfl, by (intro wz hSz; go_simp; try with_reducible rfl)⟩) hS0 ?_
           go_simp
           refine wpAnyH_take (i := 16) (v := ?_) rfl (by kernel_rfl) (by kernel_rfl) (by kernel_rfl) (fun _ _ _ h => h) (Or.inl ⟨by kernel_rfl, by (intro wz hSz; go_simp; try with_reducible rfl)⟩) hS0 ?_
           go_simp
           refine wpAnyH_take (i := 17) (v := ?_) rfl (by kernel_rfl) (by kernel_rfl) (by kernel_rfl) (fun _ _ _ h => h) (Or.inl ⟨by kernel_rfl, by (intro wz hSz; have a0 := cell_of_row _ _ 0 _ _ _ hSz.1; have a1 := cell_of_row _ _ 0 _ _ _ hSz.2.1; have a2 := cell_of_row _ _ 0 _ _ _ hSz.2.2; simp at a0 a1 a2; go_simp; try with_reducible rfl)⟩) hS0 ?_
           go_simp
           refine wpAnyH_take (i := 18) (v := ?_) rfl (by kernel_rfl) (by kernel_rfl) (by kernel_rfl) (fun _ _ _ h => h) (Or.inl ⟨by kernel_rfl, by (intro wz hSz; go_simp; try with_reducible rfl)⟩) hS0 ?_
           go_simp
           refine wpAnyH_take (i := 19) (v := ?_) rfl (by kernel_rfl) (by kernel_rfl) (by kernel_rfl) (fun _ _ _ h => h) (Or.inl ⟨by kernel_rfl, by (intro wz hSz; go_simp; try with_reducible rfl)⟩) hS0 ?_
           go_simp
           refine wpAnyH_take (i := 20) (v := ?_) rfl (by kernel_rfl) (by kernel_rfl) (by kernel_rfl) (fun _ _ _ h => h) (Or.inl ⟨by kernel_rfl, by (intro wz hSz; have a0 := cell_of_row _ _ 0 _ _ _ hSz.1; have a1 := cell_of_row _ _ 0 _ _ _ hSz.2.1; have a2 := cell_of_row _ _ 0 _ _ _ hSz.2.2; simp at a0 a1 a2; go_simp; try with_reducible rfl)⟩) hS0 ?_
           go_simp
           refine wpAnyH_take (i := 21) (v := ?_) rfl (by kernel_rfl) (by kernel_rfl) (by kernel_rfl) (fun _ _ _ h => h) (Or.inl ⟨by kernel_rfl, by (intro wz hSz; go_simp; try with_reducible rfl)⟩) hS0 ?_
           go_simp
           refine wpAnyH_take (i := 22) (v := ?_) rfl (by kernel_rfl) (by kernel_rfl) (by kernel_rfl) (fun _ _ _ h => h) (Or.inl ⟨by kernel_rfl, by (intro wz hSz; go_simp; try with_reducible rfl)⟩) hS0 ?_
           go_simp
           refine wpAnyH_take (i := 23) (v := ?_) rfl (by kernel_rfl) (by kernel_rfl) (by kernel_rfl) (fun _ _ _ h => h) (Or.inl ⟨by kernel_rfl, by (intro wz hSz; go_simp; try with_reducible rfl)⟩) hS0 ?_
           go_simp
           refine wpAnyH_take (i := 24) (v := ?_) rfl (by kernel_rfl) (by kernel_rfl) (by kernel_rfl) (fun _ _ _ h => h) (Or.inl ⟨by kernel_rfl, by (intro wz hSz; go_simp; try with_reducible rfl)⟩) hS0 ?_
           go_simp
           refine wpAnyH_take (i := 25) (v := ?_) rfl (by kernel_rfl) (by kernel_rfl) (by kernel_rfl) (fun _ _ _ h => h) (Or.inl ⟨by kernel_rfl, by (intro wz hSz; go_simp; try with_reducible rfl)⟩) hS0 ?_
           go_simp
           refine wpAnyH_take (i := 26) (v := ?_) rfl (by kernel_rfl) (by kernel_rfl) (by kernel_rfl) (fun _ _ _ h => h) (Or.inl ⟨by kernel_rfl, by (intro wz hSz; go_simp; try with_reducible rfl)⟩) hS0 ?_
           go_simp
           refine wpAnyH_take (i := 27) (v := ?_) rfl (by kernel_rfl) (by kernel_rfl) (by kernel_rfl) (fun _ _ _ h => h) (Or.inl ⟨by kernel_rfl, by (intro wz hSz; have a0 := cell_of_row _ _ 0 _ _ _ hSz.1; have a1 := cell_of_row _ _ 0 _ _ _ hSz.2.1; have a2 := cell_of_row _ _ 0 _ _ _ hSz.2.2; simp at a0 a1 a2; go_simp; try with_reducible rfl)⟩) hS0 ?_
           go_simp
           refine wpAnyH_take (i := 28) (v := ?_) rfl (by kernel_rfl) (by kernel_rfl) (by kernel_rfl) (fun _ _ _ h => h) (Or.inl ⟨by kernel_rfl, by (intro wz hSz; go_simp; try with_reducible rfl)⟩) hS0 ?_
           go_simp
           refine wpAnyH_take (i := 29) (v := ?_) rfl (by kernel_rfl) (by kernel_rfl) (by kernel_rfl) (fun _ _ _ h => h) (Or.inl ⟨by kernel_rfl, by (intro wz hSz; go_simp; try with_reducible rfl)⟩) hS0 ?_
           go_simp
           refine wpAnyH_take (i := 30) (v := ?_) rfl (by kernel_rfl) (by kernel_rfl) (by kernel_rfl) (fun _ _ _ h => h) (Or.inl ⟨by kernel_rfl, by (intro wz hSz; have a0 := cell_of_row _ _ 0 _ _ _ hSz.1; have a1 := cell_of_row _ _ 0 _ _ _ hSz.2.1; have a2 := cell_of_row _ _ 0 _ _ _ hSz.2.2; simp at a0 a1 a2; go_simp; try with_reducible rfl)⟩) hS0 ?_
           go_simp
           refine wpAnyH_ready (rs := [31]) (by kernel_rfl) (by simp) ?_
           refine AllReadyH.cons rfl (fun K hK => ?_) AllReadyH.nil
           go_simp
           go_wp2_with (go_at_call 19; refine (HHD.out _).mono ?_; rintro e ww ⟨rfl, rfl⟩)
           refine hK.out _ _ (hS0) (fun hSc => ?_)
           clear hK K
           refine wpAnyH_take (i := 32) (v := ?_) rfl (by kernel_rfl) (by kernel_rfl) (by kernel_rfl) (fun _ _ _ h => h) (Or.inl ⟨by kernel_rfl, by (intro wz hSz; go_simp; try with_reducible rfl)⟩) hSc ?_
           go_simp
           refine wpAnyH_take (i := 33) (v := ?_) rfl (by kernel_rfl) (by kernel_rfl) (by kernel_rfl) (fun _ _ _ h => h) (Or.inl ⟨by kernel_rfl, by (intro wz hSz; go_simp; try with_reducible rfl)⟩) hSc ?_
           go_simp
           refine wpAnyH_done (by kernel_rfl) ?_ _
           go_wp2_with fail
           go_roundw
           case rel => exact ⟨1, by omega, by first | rfl | go_num, Lib.hid (HBI.out.trans (hd_.mono HBI.out.size))⟩
           case measure => simp [intOf]
          ·
           subst hc_
           have q1 : decide (b1_ < x1) = false := decide_eq_false (by have := HMM1.out; omega)
           have q2 : decide (x1 < b1_) = false := decide_eq_false (by have := HMM1.out; omega)
           have HHD := Lib.hid (show ∀ W_ : World, Calls Try.prog 19 #[.int .i64 b1_] W_ (fun e' w' => e' = .returned (.int .i64 b1_) ∧ W_ = w') from fun W_ => by have h := Wa.held_any b1_ W_; rw [HV1.out] at h; exact h)
           go_upto_region 18 with fail
           have hd_ : Below y36.heap.size y36 y36.drew := (Below.refl _ _).drew
           refine wp_region_held_drew (S := fun y => y.heap[y32.heap.size]? = some (.cells #[.int .i64 b0_, .int .i64 b1_, .int .i64 b2_] 56 (0, 0)) ∧ y.heap[y33.heap.size]? = some (.cells #[.int .i64 x0, .int .i64 x1, .int .i64 x2] 56 (0, 0)) ∧ y.heap[y34.heap.size]? = some (.cells #[.int .i64 x0, .int .i64 x1, .int .i64 x2] 56 (0, 0))) (by kernel_rfl) (⟨hr36_5, hr36_6, hr36_7⟩) (fun hS0 => ?_)
           refine wpAnyH_take (i := 0) (v := ?_) rfl (by kernel_rfl) (by kernel_rfl) (by kernel_rfl) (fun _ _ _ h => h) (Or.inl ⟨by kernel_rfl, by (intro wz hSz; go_simp; try with_reducible rfl)⟩) hS0 ?_
           go_simp
           refine wpAnyH_take (i := 1) (v := ?_) rfl (by kernel_rfl) (by kernel_rfl) (by kernel_rfl) (fun _ _ _ h => h) (Or.inl ⟨by kernel_rfl, by (intro wz hSz; go_simp; try with_reducible rfl)⟩) hS0 ?_
           go_simp
           refine wpAnyH_take (i := 2) (v := ?_) rfl (by kernel_rfl) (by kernel_rfl) (by kernel_rfl) (fun _ _ _ h => h) (Or.inl ⟨by kernel_rfl, by (intro wz hSz; have a0 := cell_of_row _ _ 1 _ _ _ hSz.1; have a1 := cell_of_row _ _ 1 _ _ _ hSz.2.1; have a2 := cell_of_row _ _ 1 _ _ _ hSz.2.2; simp at a0 a1 a2; go_simp; try with_reducible rfl)⟩) hS0 ?_
           go_simp
           refine wpAnyH_take (i := 3) (v := ?_) rfl (by kernel_rfl) (by kernel_rfl) (by kernel_rfl) (fun _ _ _ h => h) (Or.inl ⟨by kernel_rfl, by (intro wz hSz; go_simp; try with_reducible rfl)⟩) hS0 ?_
           go_simp
           refine wpAnyH_take (i := 4) (v := ?_) rfl (by kernel_rfl) (by kernel_rfl) (by kernel_rfl) (fun _ _ _ h => h) (Or.inl ⟨by kernel_rfl, by (intro wz hSz; go_simp; try with_reducible rfl)⟩) hS0 ?_
           go_simp
           refine wpAnyH_take (i := 5) (v := ?_) rfl (by kernel_rfl) (by kernel_rfl) (by kernel_rfl) (fun _ _ _ h => h) (Or.inl ⟨by kernel_rfl, by (intro wz hSz; have a0 := cell_of_row _ _ 1 _ _ _ hSz.1; have a1 := cell_of_row _ _ 1 _ _ _ hSz.2.1; have a2 := cell_of_row _ _ 1 _ _ _ hSz.2.2; simp at a0 a1 a2; go_simp; try with_reducible rfl)⟩) hS0 ?_
           go_simp
           refine wpAnyH_take (i := 6) (v := ?_) rfl (by kernel_rfl) (by kernel_rfl) (by kernel_rfl) (fun _ _ _ h => h) (Or.inl ⟨by kernel_rfl, by (intro wz hSz; go_simp; try with_reducible rfl)⟩) hS0 ?_
           go_simp
           refine wpAnyH_take (i := 7) (v := ?_) rfl (by kernel_rfl) (by kernel_rfl) (by kernel_rfl) (fun _ _ _ h => h) (Or.inl ⟨by kernel_rfl, by (intro wz hSz; go_simp; try with_reducible rfl)⟩) hS0 ?_
           go_simp
           refine wpAnyH_take (i := 8) (v := ?_) rfl (by kernel_rfl) (by kernel_rfl) (by kernel_rfl) (fun _ _ _ h => h) (Or.inl ⟨by kernel_rfl, by (intro wz hSz; have a0 := cell_of_row _ _ 1 _ _ _ hSz.1; have a1 := cell_of_row _ _ 1 _ _ _ hSz.2.1; have a2 := cell_of_row _ _ 1 _ _ _ hSz.2.2; simp at a0 a1 a2; go_simp; try with_reducible rfl)⟩) hS0 ?_
           go_simp
           refine wpAnyH_take (i := 9) (v := ?_) rfl (by kernel_rfl) (by kernel_rfl) (by kernel_rfl) (fun _ _ _ h => h) (Or.inl ⟨by kernel_rfl, by (intro wz hSz; go_simp; try with_reducible rfl)⟩) hS0 ?_
           go_simp
           refine wpAnyH_take (i := 10) (v := ?_) rfl (by kernel_rfl) (by kernel_rfl) (by kernel_rfl) (fun _ _ _ h => h) (Or.inl ⟨by kernel_rfl, by (intro wz hSz; go_simp; try with_reducible rfl)⟩) hS0 ?_
           go_simp
           refine wpAnyH_take (i := 11) (v := ?_) rfl (by kernel_rfl) (by kernel_rfl) (by kernel_rfl) (fun _ _ _ h => h) (Or.inl ⟨by kernel_rfl, by (intro wz hSz; go_simp; try with_reducible rfl)⟩) hS0 ?_
           go_simp
           refine wpAnyH_take (i := 12) (v := ?_) rfl (by kernel_rfl) (by kernel_rfl) (by kernel_rfl) (fun _ _ _ h => h) (Or.inl ⟨by kernel_rfl, by (intro wz hSz; go_simp; try with_reducible rfl)⟩) hS0 ?_
           go_simp
           refine wpAnyH_take (i := 13) (v := ?_) rfl (by kernel_rfl) (by kernel_rfl) (by kernel_rfl) (fun _ _ _ h => h) (Or.inl ⟨by kernel_rfl, by (intro wz hSz; go_simp; try with_reducible rfl)⟩) hS0 ?_
           go_simp
           refine wpAnyH_take (i := 14) (v := ?_) rfl (by kernel_rfl) (by kernel_rfl) (by kernel_rfl) (fun _ _ _ h => h) (Or.inl ⟨by kernel_rfl, by (intro wz hSz; have a0 := cell_of_row _ _ 1 _ _ _ hSz.1; have a1 := cell_of_row _ _ 1 _ _ _ hSz.2.1; have a2 := cell_of_row _ _ 1 _ _ _ hSz.2.2; simp at a0 a1 a2; go_simp; try with_reducible rfl)⟩) hS0 ?_
           go_simp
           refine wpAnyH_take (i := 15) (v := ?_) rfl (by kernel_rfl) (by kernel_rfl) (by kernel_rfl) (fun _ _ _ h => h) (Or.inl ⟨by kernel_rfl, by (intro wz hSz; go_simp; try with_reducible rfl)⟩) hS0 ?_
           go_simp
           refine wpAnyH_take (i := 16) (v := ?_) rfl (by kernel_rfl) (by kernel_rfl) (by kernel_rfl) (fun _ _ _ h => h) (Or.inl ⟨by kernel_rfl, by (intro wz hSz; go_simp; try with_reducible rfl)⟩) hS0 ?_
           go_simp
           refine wpAnyH_take (i := 17) (v := ?_) rfl (by kernel_rfl) (by kernel_rfl) (by kernel_rfl) (fun _ _ _ h => h) (Or.inl ⟨by kernel_rfl, by (intro wz hSz; have a0 := cell_of_row _ _ 1 _ _ _ hSz.1; have a1 := cell_of_row _ _ 1 _ _ _ hSz.2.1; have a2 := cell_of_row _ _ 1 _ _ _ hSz.2.2; simp at a0 a1 a2; go_simp; try with_reducible rfl)⟩) hS0 ?_
           go_simp
           refine wpAnyH_take (i := 18) (v := ?_) rfl (by kernel_rfl) (by kernel_rfl) (by kernel_rfl) (fun _ _ _ h => h) (Or.inl ⟨by kernel_rfl, by (intro wz hSz; go_simp; try with_reducible rfl)⟩) hS0 ?_
           go_simp
           refine wpAnyH_take (i := 19) (v := ?_) rfl (by kernel_rfl) (by kernel_rfl) (by kernel_rfl) (fun _ _ _ h => h) (Or.inl ⟨by kernel_rfl, by (intro wz hSz; go_simp; try with_reducible rfl)⟩) hS0 ?_
           go_simp
           refine wpAnyH_take (i := 20) (v := ?_) rfl (by kernel_rfl) (by kernel_rfl) (by kernel_rfl) (fun _ _ _ h => h) (Or.inl ⟨by kernel_rfl, by (intro wz hSz; have a0 := cell_of_row _ _ 1 _ _ _ hSz.1; have a1 := cell_of_row _ _ 1 _ _ _ hSz.2.1; have a2 := cell_of_row _ _ 1 _ _ _ hSz.2.2; simp at a0 a1 a2; go_simp; try with_reducible rfl)⟩) hS0 ?_
           go_simp
           refine wpAnyH_take (i := 21) (v := ?_) rfl (by kernel_rfl) (by kernel_rfl) (by kernel_rfl) (fun _ _ _ h => h) (Or.inl ⟨by kernel_rfl, by (intro wz hSz; go_simp; try with_reducible rfl)⟩) hS0 ?_
           go_simp
           refine wpAnyH_take (i := 22) (v := ?_) rfl (by kernel_rfl) (by kernel_rfl) (by kernel_rfl) (fun _ _ _ h => h) (Or.inl ⟨by kernel_rfl, by (intro wz hSz; go_simp; try with_reducible rfl)⟩) hS0 ?_
           go_simp
           refine wpAnyH_take (i := 23) (v := ?_) rfl (by kernel_rfl) (by kernel_rfl) (by kernel_rfl) (fun _ _ _ h => h) (Or.inl ⟨by kernel_rfl, by (intro wz hSz; go_simp; try with_reducible rfl)⟩) hS0 ?_
           go_simp
           refine wpAnyH_take (i := 24) (v := ?_) rfl (by kernel_rfl) (by kernel_rfl) (by kernel_rfl) (fun _ _ _ h => h) (Or.inl ⟨by kernel_rfl, by (intro wz hSz; go_simp; try with_reducible rfl)⟩) hS0 ?_
           go_simp
           refine wpAnyH_take (i := 25) (v := ?_) rfl (by kernel_rfl) (by kernel_rfl) (by kernel_rfl) (fun _ _ _ h => h) (Or.inl ⟨by kernel_rfl, by (intro wz hSz; go_simp; try with_reducible rfl)⟩) hS0 ?_
           go_simp
           refine wpAnyH_take (i := 26) (v := ?_) rfl (by kernel_rfl) (by kernel_rfl) (by kernel_rfl) (fun _ _ _ h => h) (Or.inl ⟨by kernel_rfl, by (intro wz hSz; go_simp; try with_reducible rfl)⟩) hS0 ?_
           go_simp
           refine wpAnyH_take (i := 27) (v := ?_) rfl (by kernel_rfl) (by kernel_rfl) (by kernel_rfl) (fun _ _ _ h => h) (Or.inl ⟨by kernel_rfl, by (intro wz hSz; have a0 := cell_of_row _ _ 1 _ _ _ hSz.1; have a1 := cell_of_row _ _ 1 _ _ _ hSz.2.1; have a2 := cell_of_row _ _ 1 _ _ _ hSz.2.2; simp at a0 a1 a2; go_simp; try with_reducible rfl)⟩) hS0 ?_
           go_simp
           refine wpAnyH_take (i := 28) (v := ?_) rfl (by kernel_rfl) (by kernel_rfl) (by kernel_rfl) (fun _ _ _ h => h) (Or.inl ⟨by kernel_rfl, by (intro wz hSz; go_simp; try with_reducible rfl)⟩) hS0 ?_
           go_simp
           refine wpAnyH_take (i := 29) (v := ?_) rfl (by kernel_rfl) (by kernel_rfl) (by kernel_rfl) (fun _ _ _ h => h) (Or.inl ⟨by kernel_rfl, by (intro wz hSz; go_simp; try with_reducible rfl)⟩) hS0 ?_
           go_simp
           refine wpAnyH_take (i := 30) (v := ?_) rfl (by kernel_rfl) (by kernel_rfl) (by kernel_rfl) (fun _ _ _ h => h) (Or.inl ⟨by kernel_rfl, by (intro wz hSz; have a0 := cell_of_row _ _ 1 _ _ _ hSz.1; have a1 := cell_of_row _ _ 1 _ _ _ hSz.2.1; have a2 := cell_of_row _ _ 1 _ _ _ hSz.2.2; simp at a0 a1 a2; go_simp; try with_reducible rfl)⟩) hS0 ?_
           go_simp
           refine wpAnyH_ready (rs := [31]) (by kernel_rfl) (by simp) ?_
           refine AllReadyH.cons rfl (fun K hK => ?_) AllReadyH.nil
           go_simp
           go_wp2_with (go_at_call 19; refine (HHD.out _).mono ?_; rintro e ww ⟨rfl, rfl⟩)
           refine hK.out _ _ (hS0) (fun hSc => ?_)
           clear hK K
           refine wpAnyH_take (i := 32) (v := ?_) rfl (by kernel_rfl) (by kernel_rfl) (by kernel_rfl) (fun _ _ _ h => h) (Or.inl ⟨by kernel_rfl, by (intro wz hSz; go_simp; try with_reducible rfl)⟩) hSc ?_
           go_simp
           refine wpAnyH_take (i := 33) (v := ?_) rfl (by kernel_rfl) (by kernel_rfl) (by kernel_rfl) (fun _ _ _ h => h) (Or.inl ⟨by kernel_rfl, by (intro wz hSz; go_simp; try with_reducible rfl)⟩) hSc ?_
           go_simp
           refine wpAnyH_done (by kernel_rfl) ?_ _
           go_wp2_with fail
           go_roundw
           case rel => exact ⟨2, by omega, by first | rfl | go_num, Lib.hid (HBI.out.trans (hd_.mono HBI.out.size))⟩
           case measure => simp [intOf]
          ·
           subst hc_
           have q1 : decide (b2_ < x2) = false := decide_eq_false (by have := HMM2.out; omega)
           have q2 : decide (x2 < b2_) = false := decide_eq_false (by have := HMM2.out; omega)
           have HHD := Lib.hid (show ∀ W_ : World, Calls Try.prog 19 #[.int .i64 b2_] W_ (fun e' w' => e' = .returned (.int .i64 b2_) ∧ W_ = w') from fun W_ => by have h := Wa.held_any b2_ W_; rw [HV2.out] at h; exact h)
           go_upto_region 18 with fail
           have hd_ : Below y36.heap.size y36 y36.drew := (Below.refl _ _).drew
           refine wp_region_held_drew (S := fun y => y.heap[y32.heap.size]? = some (.cells #[.int .i64 b0_, .int .i64 b1_, .int .i64 b2_] 56 (0, 0)) ∧ y.heap[y33.heap.size]? = some (.cells #[.int .i64 x0, .int .i64 x1, .int .i64 x2] 56 (0, 0)) ∧ y.heap[y34.heap.size]? = some (.cells #[.int .i64 x0, .int .i64 x1, .int .i64 x2] 56 (0, 0))) (by kernel_rfl) (⟨hr36_5, hr36_6, hr36_7⟩) (fun hS0 => ?_)
           refine wpAnyH_take (i := 0) (v := ?_) rfl (by kernel_rfl) (by kernel_rfl) (by kernel_rfl) (fun _ _ _ h => h) (Or.inl ⟨by kernel_rfl, by (intro wz hSz; go_simp; try with_reducible rfl)⟩) hS0 ?_
           go_simp
           refine wpAnyH_take (i := 1) (v := ?_) rfl (by kernel_rfl) (by kernel_rfl) (by kernel_rfl) (fun _ _ _ h => h) (Or.inl ⟨by kernel_rfl, by (intro wz hSz; go_simp; try with_reducible rfl)⟩) hS0 ?_
           go_simp
           refine wpAnyH_take (i := 2) (v := ?_) rfl (by kernel_rfl) (by kernel_rfl) (by kernel_rfl) (fun _ _ _ h => h) (Or.inl ⟨by kernel_rfl, by (intro wz hSz; have a0 := cell_of_row _ _ 2 _ _ _ hSz.1; have a1 := cell_of_row _ _ 2 _ _ _ hSz.2.1; have a2 := cell_of_row _ _ 2 _ _ _ hSz.2.2; simp at a0 a1 a2; go_simp; try with_reducible rfl)⟩) hS0 ?_
           go_simp
           refine wpAnyH_take (i := 3) (v := ?_) rfl (by kernel_rfl) (by kernel_rfl) (by kernel_rfl) (fun _ _ _ h => h) (Or.inl ⟨by kernel_rfl, by (intro wz hSz; go_simp; try with_reducible rfl)⟩) hS0 ?_
           go_simp
           refine wpAnyH_take (i := 4) (v := ?_) rfl (by kernel_rfl) (by kernel_rfl) (by kernel_rfl) (fun _ _ _ h => h) (Or.inl ⟨by kernel_rfl, by (intro wz hSz; go_simp; try with_reducible rfl)⟩) hS0 ?_
           go_simp
           refine wpAnyH_take (i := 5) (v := ?_) rfl (by kernel_rfl) (by kernel_rfl) (by kernel_rfl) (fun _ _ _ h => h) (Or.inl ⟨by kernel_rfl, by (intro wz hSz; have a0 := cell_of_row _ _ 2 _ _ _ hSz.1; have a1 := cell_of_row _ _ 2 _ _ _ hSz.2.1; have a2 := cell_of_row _ _ 2 _ _ _ hSz.2.2; simp at a0 a1 a2; go_simp; try with_reducible rfl)⟩) hS0 ?_
           go_simp
           refine wpAnyH_take (i := 6) (v := ?_) rfl (by kernel_rfl) (by kernel_rfl) (by kernel_rfl) (fun _ _ _ h => h) (Or.inl ⟨by kernel_rfl, by (intro wz hSz; go_simp; try with_reducible rfl)⟩) hS0 ?_
           go_simp
           refine wpAnyH_take (i := 7) (v := ?_) rfl (by kernel_rfl) (by kernel_rfl) (by kernel_rfl) (fun _ _ _ h => h) (Or.inl ⟨by kernel_rfl, by (intro wz hSz; go_simp; try with_reducible rfl)⟩) hS0 ?_
           go_simp
           refine wpAnyH_take (i := 8) (v := ?_) rfl (by kernel_rfl) (by kernel_rfl) (by kernel_rfl) (fun _ _ _ h => h) (Or.inl ⟨by kernel_rfl, by (intro wz hSz; have a0 := cell_of_row _ _ 2 _ _ _ hSz.1; have a1 := cell_of_row _ _ 2 _ _ _ hSz.2.1; have a2 := cell_of_row _ _ 2 _ _ _ hSz.2.2; simp at a0 a1 a2; go_simp; try with_reducible rfl)⟩) hS0 ?_
           go_simp
           refine wpAnyH_take (i := 9) (v := ?_) rfl (by kernel_rfl) (by kernel_rfl) (by kernel_rfl) (fun _ _ _ h => h) (Or.inl ⟨by kernel_rfl, by (intro wz hSz; go_simp; try with_reducible rfl)⟩) hS0 ?_
           go_simp
           refine wpAnyH_take (i := 10) (v := ?_) rfl (by kernel_rfl) (by kernel_rfl) (by kernel_rfl) (fun _ _ _ h => h) (Or.inl ⟨by kernel_rfl, by (intro wz hSz; go_simp; try with_reducible rfl)⟩) hS0 ?_
           go_simp
           refine wpAnyH_take (i := 11) (v := ?_) rfl (by kernel_rfl) (by kernel_rfl) (by kernel_rfl) (fun _ _ _ h => h) (Or.inl ⟨by kernel_rfl, by (intro wz hSz; go_simp; try with_reducible rfl)⟩) hS0 ?_
           go_simp
           refine wpAnyH_take (i := 12) (v := ?_) rfl (by kernel_rfl) (by kernel_rfl) (by kernel_rfl) (fun _ _ _ h => h) (Or.inl ⟨by kernel_rfl, by (intro wz hSz; go_simp; try with_reducible rfl)⟩) hS0 ?_
           go_simp
           refine wpAnyH_take (i := 13) (v := ?_) rfl (by kernel_rfl) (by kernel_rfl) (by kernel_rfl) (fun _ _ _ h => h) (Or.inl ⟨by kernel_rfl, by (intro wz hSz; go_simp; try with_reducible rfl)⟩) hS0 ?_
           go_simp
           refine wpAnyH_take (i := 14) (v := ?_) rfl (by kernel_rfl) (by kernel_rfl) (by kernel_rfl) (fun _ _ _ h => h) (Or.inl ⟨by kernel_rfl, by (intro wz hSz; have a0 := cell_of_row _ _ 2 _ _ _ hSz.1; have a1 := cell_of_row _ _ 2 _ _ _ hSz.2.1; have a2 := cell_of_row _ _ 2 _ _ _ hSz.2.2; simp at a0 a1 a2; go_simp; try with_reducible rfl)⟩) hS0 ?_
           go_simp
           refine wpAnyH_take (i := 15) (v := ?_) rfl (by kernel_rfl) (by kernel_rfl) (by kernel_rfl) (fun _ _ _ h => h) (Or.inl ⟨by kernel_rfl, by (intro wz hSz; go_simp; try with_reducible rfl)⟩) hS0 ?_
           go_simp
           refine wpAnyH_take (i := 16) (v := ?_) rfl (by kernel_rfl) (by kernel_rfl) (by kernel_rfl) (fun _ _ _ h => h) (Or.inl ⟨by kernel_rfl, by (intro wz hSz; go_simp; try with_reducible rfl)⟩) hS0 ?_
           go_simp
           refine wpAnyH_take (i := 17) (v := ?_) rfl (by kernel_rfl) (by kernel_rfl) (by kernel_rfl) (fun _ _ _ h => h) (Or.inl ⟨by kernel_rfl, by (intro wz hSz; have a0 := cell_of_row _ _ 2 _ _ _ hSz.1; have a1 := cell_of_row _ _ 2 _ _ _ hSz.2.1; have a2 := cell_of_row _ _ 2 _ _ _ hSz.2.2; simp at a0 a1 a2; go_simp; try with_reducible rfl)⟩) hS0 ?_
           go_simp
           refine wpAnyH_take (i := 18) (v := ?_) rfl (by kernel_rfl) (by kernel_rfl) (by kernel_rfl) (fun _ _ _ h => h) (Or.inl ⟨by kernel_rfl, by (intro wz hSz; go_simp; try with_reducible rfl)⟩) hS0 ?_
           go_simp
           refine wpAnyH_take (i := 19) (v := ?_) rfl (by kernel_rfl) (by kernel_rfl) (by kernel_rfl) (fun _ _ _ h => h) (Or.inl ⟨by kernel_rfl, by (intro wz hSz; go_simp; try with_reducible rfl)⟩) hS0 ?_
           go_simp
           refine wpAnyH_take (i := 20) (v := ?_) rfl (by kernel_rfl) (by kernel_rfl) (by kernel_rfl) (fun _ _ _ h => h) (Or.inl ⟨by kernel_rfl, by (intro wz hSz; have a0 := cell_of_row _ _ 2 _ _ _ hSz.1; have a1 := cell_of_row _ _ 2 _ _ _ hSz.2.1; have a2 := cell_of_row _ _ 2 _ _ _ hSz.2.2; simp at a0 a1 a2; go_simp; try with_reducible rfl)⟩) hS0 ?_
           go_simp
           refine wpAnyH_take (i := 21) (v := ?_) rfl (by kernel_rfl) (by kernel_rfl) (by kernel_rfl) (fun _ _ _ h => h) (Or.inl ⟨by kernel_rfl, by (intro wz hSz; go_simp; try with_reducible rfl)⟩) hS0 ?_
           go_simp
           refine wpAnyH_take (i := 22) (v := ?_) rfl (by kernel_rfl) (by kernel_rfl) (by kernel_rfl) (fun _ _ _ h => h) (Or.inl ⟨by kernel_rfl, by (intro wz hSz; go_simp; try with_reducible rfl)⟩) hS0 ?_
           go_simp
           refine wpAnyH_take (i := 23) (v := ?_) rfl (by kernel_rfl) (by kernel_rfl) (by kernel_rfl) (fun _ _ _ h => h) (Or.inl ⟨by kernel_rfl, by (intro wz hSz; go_simp; try with_reducible rfl)⟩) hS0 ?_
           go_simp
           refine wpAnyH_take (i := 24) (v := ?_) rfl (by kernel_rfl) (by kernel_rfl) (by kernel_rfl) (fun _ _ _ h => h) (Or.inl ⟨by kernel_rfl, by (intro wz hSz; go_simp; try with_reducible rfl)⟩) hS0 ?_
           go_simp
           refine wpAnyH_take (i := 25) (v := ?_) rfl (by kernel_rfl) (by kernel_rfl) (by kernel_rfl) (fun _ _ _ h => h) (Or.inl ⟨by kernel_rfl, by (intro wz hSz; go_simp; try with_reducible rfl)⟩) hS0 ?_
           go_simp
           refine wpAnyH_take (i := 26) (v := ?_) rfl (by kernel_rfl) (by kernel_rfl) (by kernel_rfl) (fun _ _ _ h => h) (Or.inl ⟨by kernel_rfl, by (intro wz hSz; go_simp; try with_reducible rfl)⟩) hS0 ?_
           go_simp
           refine wpAnyH_take (i := 27) (v := ?_) rfl (by kernel_rfl) (by kernel_rfl) (by kernel_rfl) (fun _ _ _ h => h) (Or.inl ⟨by kernel_rfl, by (intro wz hSz; have a0 := cell_of_row _ _ 2 _ _ _ hSz.1; have a1 := cell_of_row _ _ 2 _ _ _ hSz.2.1; have a2 := cell_of_row _ _ 2 _ _ _ hSz.2.2; simp at a0 a1 a2; go_simp; try with_reducible rfl)⟩) hS0 ?_
           go_simp
           refine wpAnyH_take (i := 28) (v := ?_) rfl (by kernel_rfl) (by kernel_rfl) (by kernel_rfl) (fun _ _ _ h => h) (Or.inl ⟨by kernel_rfl, by (intro wz hSz; go_simp; try with_reducible rfl)⟩) hS0 ?_
           go_simp
           refine wpAnyH_take (i := 29) (v := ?_) rfl (by kernel_rfl) (by kernel_rfl) (by kernel_rfl) (fun _ _ _ h => h) (Or.inl ⟨by kernel_rfl, by (intro wz hSz; go_simp; try with_reducible rfl)⟩) hS0 ?_
           go_simp
           refine wpAnyH_take (i := 30) (v := ?_) rfl (by kernel_rfl) (by kernel_rfl) (by kernel_rfl) (fun _ _ _ h => h) (Or.inl ⟨by kernel_rfl, by (intro wz hSz; have a0 := cell_of_row _ _ 2 _ _ _ hSz.1; have a1 := cell_of_row _ _ 2 _ _ _ hSz.2.1; have a2 := cell_of_row _ _ 2 _ _ _ hSz.2.2; simp at a0 a1 a2; go_simp; try with_reducible rfl)⟩) hS0 ?_
           go_simp
           refine wpAnyH_ready (rs := [31]) (by kernel_rfl) (by simp) ?_
           refine AllReadyH.cons rfl (fun K hK => ?_) AllReadyH.nil
           go_simp
           go_wp2_with (go_at_call 19; refine (HHD.out _).mono ?_; rintro e ww ⟨rfl, rfl⟩)
           refine hK.out _ _ (hS0) (fun hSc => ?_)
           clear hK K
           refine wpAnyH_take (i := 32) (v := ?_) rfl (by kernel_rfl) (by kernel_rfl) (by kernel_rfl) (fun _ _ _ h => h) (Or.inl ⟨by kernel_rfl, by (intro wz hSz; go_simp; try with_reducible rfl)⟩) hSc ?_
           go_simp
           refine wpAnyH_take (i := 33) (v := ?_) rfl (by kernel_rfl) (by kernel_rfl) (by kernel_rfl) (fun _ _ _ h => h) (Or.inl ⟨by kernel_rfl, by (intro wz hSz; go_simp; try with_reducible rfl)⟩) hSc ?_
           go_simp
           refine wpAnyH_done (by kernel_rfl) ?_ _
           go_wp2_with fail
           go_roundw
           case rel => exact ⟨3, by omega, by first | rfl | go_num, Lib.hid (HBI.out.trans (hd_.mono HBI.out.size))⟩
           case measure => simp [intOf]
          ·
           subst hc_
           have HBO := Lib.hid (show Below y31.heap.size y31 y36 from HB.out.trans ((HCH.out.trans (HBI.out.mono HCH.out.size)).mono HB.out.size))
           go_wp2_with fail
           go_roundw
           case rel => exact ⟨k + 1, by omega, by go_num, HBO⟩
           case measure => simp [intOf]; omega
       obtain ⟨kp, hkp⟩ : ∃ t : Nat, fk = t := ⟨fk.toNat, by omega⟩
       subst hkp
       have hkpl : kp < nl2 := by omega
       have hkpl' : (kp : Int) < nl2 := by omega
       have g1 : decide (0 ≤ (kp : Int)) = true := decide_eq_true (by omega)
       have g2 : decide ((kp : Int) < (nl2 : Int)) = true := decide_eq_true hkpl'
       obtain ⟨mb, mo, hma, em0, em1, em2⟩ := (HC2.out.at_.l.on HU35.out).at3 hkpl
       simp only [] at hma em0 em1 em2
       subst hma
       obtain ⟨m0, hm0⟩ : ∃ t, t = L2 (kp * 3) := ⟨_, rfl⟩
       rw [← hm0] at em0
       have hbt0 := HBW0.out.2.2 kp rfl hkpl
       rw [Nat.add_zero, ← hm0] at hbt0
       obtain ⟨m1, hm1⟩ : ∃ t, t = L2 (kp * 3 + 1) := ⟨_, rfl⟩
       rw [← hm1] at em1
       have hbt1 := HBW1.out.2.2 kp rfl hkpl
       rw [← hm1] at hbt1
       obtain ⟨m2, hm2⟩ : ∃ t, t = L2 (kp * 3 + 2) := ⟨_, rfl⟩
       rw [← hm2] at em2
       have hbt2 := HBW2.out.2.2 kp rfl hkpl
       rw [← hm2] at hbt2
       clear hm0 hm1 hm2
       have hyq := lt_heap hr35_7
       have HCH0 := Lib.hid (show Below y32.heap.size y32 y35 from (hb33.trans (hb34.mono hb33.size)).trans (hb35.mono (hb33.trans (hb34.mono hb33.size)).size))
       have hyn : y32.heap.size ≤ y34.heap.size := (hb33.trans (hb34.mono hb33.size)).size
       have c1_0 := cell_of_row _ _ 0 _ _ _ hr35_1
       have c1_1 := cell_of_row _ _ 1 _ _ _ hr35_1
       have c1_2 := cell_of_row _ _ 2 _ _ _ hr35_1
       have c1_3 := cell_of_row _ _ 3 _ _ _ hr35_1
       have c1_4 := cell_of_row _ _ 4 _ _ _ hr35_1
       have c1_5 := cell_of_row _ _ 5 _ _ _ hr35_1
       have c1_6 := cell_of_row _ _ 6 _ _ _ hr35_1
       have c1_7 := cell_of_row _ _ 7 _ _ _ hr35_1
       simp at c1_0 c1_1 c1_2 c1_3 c1_4 c1_5 c1_6 c1_7
       go_upto_region 14 with fail
       clear c1_0 c1_1 c1_2 c1_3 c1_4 c1_5 c1_6 c1_7
       have c1_0 := cell_of_row _ _ 0 _ _ _ hr35_1
       have c1_1 := cell_of_row _ _ 1 _ _ _ hr35_1
       have c1_2 := cell_of_row _ _ 2 _ _ _ hr35_1
       have c1_3 := cell_of_row _ _ 3 _ _ _ hr35_1
       have c1_4 := cell_of_row _ _ 4 _ _ _ hr35_1
       have c1_5 := cell_of_row _ _ 5 _ _ _ hr35_1
       have c1_6 := cell_of_row _ _ 6 _ _ _ hr35_1
       have c1_7 := cell_of_row _ _ 7 _ _ _ hr35_1
       have c7_0 := cell_of_row _ _ 0 _ _ _ hr35_7
       have c7_1 := cell_of_row _ _ 1 _ _ _ hr35_7
       have c7_2 := cell_of_row _ _ 2 _ _ _ hr35_7
       simp at c1_0 c1_1 c1_2 c1_3 c1_4 c1_5 c1_6 c1_7 c7_0 c7_1 c7_2
       have hHr := Lib.hid hr35_7
       have hHi := Lib.hid (show (Try.prog.info? 56).map (·.size) = some (#[.int .i64 m0, .int .i64 m1, .int .i64 m2] : Array Value).size by kernel_rfl)
       have hHz := Lib.hid (show (#[.int .i64 x0, .int .i64 x1, .int .i64 x2] : Array Value).size = (#[.int .i64 m0, .int .i64 m1, .int .i64 m2] : Array Value).size from rfl)
       have hHo := Lib.hid (show (#[.int .i64 m0, .int .i64 m1, .int .i64 m2] : Array Value).all (·.oneCell') = true by simp [Value.oneCell'])
       go_wp2_with (first | (refine Au.wpList_store_row rfl 56 (.tmp 13) (.tmp 92) rfl y35 #[.int .i64 x0, .int .i64 x1, .int .i64 x2] #[.int .i64 m0, .int .i64 m1, .int .i64 m2] (y34.heap.size) 56 hHr.out rfl rfl hHi.out hHz.out hHo.out ?_))
       clear c1_0 c1_1 c1_2 c1_3 c1_4 c1_5 c1_6 c1_7 c7_0 c7_1 c7_2
       clear hHr hHi hHz hHo
       have hN := setRow_heap _ (y34.heap.size) _ #[.int .i64 m0, .int .i64 m1, .int .i64 m2] _ _ hr35_7
       have hsz := HU35.out.size
       have HUx := below_setRow (g := y34.heap.size) HU35.out (by first | omega | (simp at *; omega)) #[.int .i64 m0, .int .i64 m1, .int .i64 m2]
       have HCHx := below_setRow (g := y34.heap.size) HCH0.out (by omega) #[.int .i64 m0, .int .i64 m1, .int .i64 m2]
       have hO : ∀ kk, kk ≠ y34.heap.size → (y35.setRow (y34.heap.size) #[.int .i64 m0, .int .i64 m1, .int .i64 m2]).heap[kk]? = y35.heap[kk]? := fun kk hk => setRow_other _ _ _ _ hk
       obtain ⟨y36, hy36⟩ : ∃ y, y35.setRow (y34.heap.size) #[.int .i64 m0, .int .i64 m1, .int .i64 m2] = y := ⟨_, rfl⟩
       rw [hy36] at hN HUx hO HCHx ⊢
       clear hy36 hsz
       have HU36 := Lib.hid HUx
       clear HUx
       have hr36_0 := (hO _ (by omega)).trans hr35_0
       have hr36_1 := (hO _ (by omega)).trans hr35_1
       have hr36_2 := (hO _ (by omega)).trans hr35_2
       have hr36_3 := (hO _ (by omega)).trans hr35_3
       have hr36_4 := (hO _ (by omega)).trans hr35_4
       have hr36_5 := (hO _ (by omega)).trans hr35_5
       have hr36_6 := (hO _ (by omega)).trans hr35_6
       have hr36_7 := hN
       clear hN hO
       clear hr35_0 hr35_1 hr35_2 hr35_3 hr35_4 hr35_5 hr35_6 hr35_7 HU35
       have HCH := Lib.hid HCHx
       clear HCHx HCH0 em0 em1 em2 g1 g2 hpk hkpl'
       have HV0 := Lib.hid HBW0.out.1
       have HV1 := Lib.hid HBW1.out.1
       have HV2 := Lib.hid HBW2.out.1
       clear HBW0 HBW1 HBW2
       go_upto_region 16 with fail
       go_loopw [93] (fun ix wr => ∃ c : Int, (c = 0 ∨ c = 1 ∨ c = 2 ∨ c = 3) ∧ ix = .int .i64 c ∧ Hid (Below y36.heap.size y36 wr)) (fun ix _ => 3 - (intOf ix).toNat)
       case atStart => exact ⟨0, .inl rfl, rfl, Lib.hid (Below.refl _ _)⟩
       case round =>
        obtain ⟨c, hc_, rfl, HBI⟩ := hrel
        have hr37_5 := (HBI.out.block _ (lt_heap hr36_5)).trans hr36_5
        have hr37_6 := (HBI.out.block _ (lt_heap hr36_6)).trans hr36_6
        have hr37_7 := (HBI.out.block _ (lt_heap hr36_7)).trans hr36_7
        obtain ⟨y37, hy_⟩ : ∃ y, y = wr := ⟨_, rfl⟩
        rw [← hy_] at HBI hr37_5 hr37_6 hr37_7 ⊢
        clear hy_
        rcases hc_ with hc_ | hc_ | hc_ | hc_
        ·
         subst hc_
         have q1 : decide (b0_ < min x0 m0) = false := decide_eq_false (by omega)
         have q2 : decide (max x0 m0 < b0_) = false := decide_eq_false (by omega)
         have HHD := Lib.hid (show ∀ W_ : World, Calls Try.prog 19 #[.int .i64 b0_] W_ (fun e' w' => e' = .returned (.int .i64 b0_) ∧ W_ = w') from fun W_ => by have h := Wa.held_any b0_ W_; rw [HV0.out] at h; exact h)
         go_upto_region 18 with fail
         have hd_ : Below y37.heap.size y37 y37.drew := (Below.refl _ _).drew
         refine wp_region_held_drew (S := fun y => y.heap[y32.heap.size]? = some (.cells #[.int .i64 b0_, .int .i64 b1_, .int .i64 b2_] 56 (0, 0)) ∧ y.heap[y33.heap.size]? = some (.cells #[.int .i64 x0, .int .i64 x1, .int .i64 x2] 56 (0, 0)) ∧ y.heap[y34.heap.size]? = some (.cells #[.int .i64 m0, .int .i64 m1, .int .i64 m2] 56 (0, 0))) (by kernel_rfl) (⟨hr37_5, hr37_6, hr37_7⟩) (fun hS0 => ?_)
         refine wpAnyH_take (i := 0) (v := ?_) rfl (by kernel_rfl) (by kernel_rfl) (by kernel_rfl) (fun _ _ _ h => h) (Or.inl ⟨by kernel_rfl, by (intro wz hSz; go_simp; try with_reducible rfl)⟩) hS0 ?_
         go_simp
         refine wpAnyH_take (i := 1) (v := ?_) rfl (by kernel_rfl) (by kernel_rfl) (by kernel_rfl) (fun _ _ _ h => h) (Or.inl ⟨by kernel_rfl, by (intro wz hSz; go_simp; try with_reducible rfl)⟩) hS0 ?_
         go_simp
         refine wpAnyH_take (i := 2) (v := ?_) rfl (by kernel_rfl) (by kernel_rfl) (by kernel_rfl) (fun _ _ _ h => h) (Or.inl ⟨by kernel_rfl, by (intro wz hSz; have a0 := cell_of_row _ _ 0 _ _ _ hSz.1; have a1 := cell_of_row _ _ 0 _ _ _ hSz.2.1; have a2 := cell_of_row _ _ 0 _ _ _ hSz.2.2; simp at a0 a1 a2; go_simp; try with_reducible rfl)⟩) hS0 ?_
         go_simp
         refine wpAnyH_take (i := 3) (v := ?_) rfl (by kernel_rfl) (by kernel_rfl) (by kernel_rfl) (fun _ _ _ h => h) (Or.inl ⟨by kernel_rfl, by (intro wz hSz; go_simp; try with_reducible rfl)⟩) hS0 ?_
         go_simp
         refine wpAnyH_take (i := 4) (v := ?_) rfl (by kernel_rfl) (by kernel_rfl) (by kernel_rfl) (fun _ _ _ h => h) (Or.inl ⟨by kernel_rfl, by (intro wz hSz; go_simp; try with_reducible rfl)⟩) hS0 ?_
         go_simp
         refine wpAnyH_take (i := 5) (v := ?_) rfl (by kernel_rfl) (by kernel_rfl) (by kernel_rfl) (fun _ _ _ h => h) (Or.inl ⟨by kernel_rfl, by (intro wz hSz; have a0 := cell_of_row _ _ 0 _ _ _ hSz.1; have a1 := cell_of_row _ _ 0 _ _ _ hSz.2.1; have a2 := cell_of_row _ _ 0 _ _ _ hSz.2.2; simp at a0 a1 a2; go_simp; try with_reducible rfl)⟩) hS0 ?_
         go_simp
         refine wpAnyH_take (i := 6) (v := ?_) rfl (by kernel_rfl) (by kernel_rfl) (by kernel_rfl) (fun _ _ _ h => h) (Or.inl ⟨by kernel_rfl, by (intro wz hSz; go_simp; try with_reducible rfl)⟩) hS0 ?_
         go_simp
         refine wpAnyH_take (i := 7) (v := ?_) rfl (by kernel_rfl) (by kernel_rfl) (by kernel_rfl) (fun _ _ _ h => h) (Or.inl ⟨by kernel_rfl, by (intro wz hSz; go_simp; try with_reducible rfl)⟩) hS0 ?_
         go_simp
         refine wpAnyH_take (i := 8) (v := ?_) rfl (by kernel_rfl) (by kernel_rfl) (by kernel_rfl) (fun _ _ _ h => h) (Or.inl ⟨by kernel_rfl, by (intro wz hSz; have a0 := cell_of_row _ _ 0 _ _ _ hSz.1; have a1 := cell_of_row _ _ 0 _ _ _ hSz.2.1; have a2 := cell_of_row _ _ 0 _ _ _ hSz.2.2; simp at a0 a1 a2; go_simp; try with_reducible rfl)⟩) hS0 ?_
         go_simp
         refine wpAnyH_take (i := 9) (v := ?_) rfl (by kernel_rfl) (by kernel_rfl) (by kernel_rfl) (fun _ _ _ h => h) (Or.inl ⟨by kernel_rfl, by (intro wz hSz; go_simp; try with_reducible rfl)⟩) hS0 ?_
         go_simp
         refine wpAnyH_take (i := 10) (v := ?_) rfl (by kernel_rfl) (by kernel_rfl) (by kernel_rfl) (fun _ _ _ h => h) (Or.inl ⟨by kernel_rfl, by (intro wz hSz; go_simp; try with_reducible rfl)⟩) hS0 ?_
         go_simp
         refine wpAnyH_take (i := 11) (v := ?_) rfl (by kernel_rfl) (by kernel_rfl) (by kernel_rfl) (fun _ _ _ h => h) (Or.inl ⟨by kernel_rfl, by (intro wz hSz; go_simp; try with_reducible rfl)⟩) hS0 ?_
         go_simp
         refine wpAnyH_take (i := 12) (v := ?_) rfl (by kernel_rfl) (by kernel_rfl) (by kernel_rfl) (fun _ _ _ h => h) (Or.inl ⟨by kernel_rfl, by (intro wz hSz; go_simp; try with_reducible rfl)⟩) hS0 ?_
         go_simp
         refine wpAnyH_take (i := 13) (v := ?_) rfl (by kernel_rfl) (by kernel_rfl) (by kernel_rfl) (fun _ _ _ h => h) (Or.inl ⟨by kernel_rfl, by (intro wz hSz; go_simp; try with_reducible rfl)⟩) hS0 ?_
         go_simp
         refine wpAnyH_take (i := 14) (v := ?_) rfl (by kernel_rfl) (by kernel_rfl) (by kernel_rfl) (fun _ _ _ h => h) (Or.inl ⟨by kernel_rfl, by (intro wz hSz; have a0 := cell_of_row _ _ 0 _ _ _ hSz.1; have a1 := cell_of_row _ _ 0 _ _ _ hSz.2.1; have a2 := cell_of_row _ _ 0 _ _ _ hSz.2.2; simp at a0 a1 a2; go_simp; try with_reducible rfl)⟩) hS0 ?_
         go_simp
         refine wpAnyH_take (i := 15) (v := ?_) rfl (by kernel_rfl) (by kernel_rfl) (by kernel_rfl) (fun _ _ _ h => h) (Or.inl ⟨by kernel_rfl, by (intro wz hSz; go_simp; try with_reducible rfl)⟩) hS0 ?_
         go_simp
         refine wpAnyH_take (i := 16) (v := ?_) rfl (by kernel_rfl) (by kernel_rfl) (by kernel_rfl) (fun _ _ _ h => h) (Or.inl ⟨by kernel_rfl, by (intro wz hSz; go_simp; try with_reducible rfl)⟩) hS0 ?_
         go_simp
         refine wpAnyH_take (i := 17) (v := ?_) rfl (by kernel_rfl) (by kernel_rfl) (by kernel_rfl) (fun _ _ _ h => h) (Or.inl ⟨by kernel_rfl, by (intro wz hSz; have a0 := cell_of_row _ _ 0 _ _ _ hSz.1; have a1 := cell_of_row _ _ 0 _ _ _ hSz.2.1; have a2 := cell_of_row _ _ 0 _ _ _ hSz.2.2; simp at a0 a1 a2; go_simp; try with_reducible rfl)⟩) hS0 ?_
         go_simp
         refine wpAnyH_take (i := 18) (v := ?_) rfl (by kernel_rfl) (by kernel_rfl) (by kernel_rfl) (fun _ _ _ h => h) (Or.inl ⟨by kernel_rfl, by (intro wz hSz; go_simp; try with_reducible rfl)⟩) hS0 ?_
         go_simp
         refine wpAnyH_take (i := 19) (v := ?_) rfl (by kernel_rfl) (by kernel_rfl) (by kernel_rfl) (fun _ _ _ h => h) (Or.inl ⟨by kernel_rfl, by (intro wz hSz; go_simp; try with_reducible rfl)⟩) hS0 ?_
         go_simp
         refine wpAnyH_take (i := 20) (v := ?_) rfl (by kernel_rfl) (by kernel_rfl) (by kernel_rfl) (fun _ _ _ h => h) (Or.inl ⟨by kernel_rfl, by (intro wz hSz; have a0 := cell_of_row _ _ 0 _ _ _ hSz.1; have a1 := cell_of_row _ _ 0 _ _ _ hSz.2.1; have a2 := cell_of_row _ _ 0 _ _ _ hSz.2.2; simp at a0 a1 a2; go_simp; try with_reducible rfl)⟩) hS0 ?_
         go_simp
         refine wpAnyH_take (i := 21) (v := ?_) rfl (by kernel_rfl) (by kernel_rfl) (by kernel_rfl) (fun _ _ _ h => h) (Or.inl ⟨by kernel_rfl, by (intro wz hSz; go_simp; try with_reducible rfl)⟩) hS0 ?_
         go_simp
         refine wpAnyH_take (i := 22) (v := ?_) rfl (by kernel_rfl) (by kernel_rfl) (by kernel_rfl) (fun _ _ _ h => h) (Or.inl ⟨by kernel_rfl, by (intro wz hSz; go_simp; try with_reducible rfl)⟩) hS0 ?_
         go_simp
         refine wpAnyH_take (i := 23) (v := ?_) rfl (by kernel_rfl) (by kernel_rfl) (by kernel_rfl) (fun _ _ _ h => h) (Or.inl ⟨by kernel_rfl, by (intro wz hSz; go_simp; try with_reducible rfl)⟩) hS0 ?_
         go_simp
         refine wpAnyH_take (i := 24) (v := ?_) rfl (by kernel_rfl) (by kernel_rfl) (by kernel_rfl) (fun _ _ _ h => h) (Or.inl ⟨by kernel_rfl, by (intro wz hSz; go_simp; try with_reducible rfl)⟩) hS0 ?_
         go_simp
         refine wpAnyH_take (i := 25) (v := ?_) rfl (by kernel_rfl) (by kernel_rfl) (by kernel_rfl) (fun _ _ _ h => h) (Or.inl ⟨by kernel_rfl, by (intro wz hSz; go_simp; try with_reducible rfl)⟩) hS0 ?_
         go_simp
         refine wpAnyH_take (i := 26) (v := ?_) rfl (by kernel_rfl) (by kernel_rfl) (by kernel_rfl) (fun _ _ _ h => h) (Or.inl ⟨by kernel_rfl, by (intro wz hSz; go_simp; try with_reducible rfl)⟩) hS0 ?_
         go_simp
         refine wpAnyH_take (i := 27) (v := ?_) rfl (by kernel_rfl) (by kernel_rfl) (by kernel_rfl) (fun _ _ _ h => h) (Or.inl ⟨by kernel_rfl, by (intro wz hSz; have a0 := cell_of_row _ _ 0 _ _ _ hSz.1; have a1 := cell_of_row _ _ 0 _ _ _ hSz.2.1; have a2 := cell_of_row _ _ 0 _ _ _ hSz.2.2; simp at a0 a1 a2; go_simp; try with_reducible rfl)⟩) hS0 ?_
         go_simp
         refine wpAnyH_take (i := 28) (v := ?_) rfl (by kernel_rfl) (by kernel_rfl) (by kernel_rfl) (fun _ _ _ h => h) (Or.inl ⟨by kernel_rfl, by (intro wz hSz; go_simp; try with_reducible rfl)⟩) hS0 ?_
         go_simp
         refine wpAnyH_take (i := 29) (v := ?_) rfl (by kernel_rfl) (by kernel_rfl) (by kernel_rfl) (fun _ _ _ h => h) (Or.inl ⟨by kernel_rfl, by (intro wz hSz; go_simp; try with_reducible rfl)⟩) hS0 ?_
         go_simp
         refine wpAnyH_take (i := 30) (v := ?_) rfl (by kernel_rfl) (by kernel_rfl) (by kernel_rfl) (fun _ _ _ h => h) (Or.inl ⟨by kernel_rfl, by (intro wz hSz; have a0 := cell_of_row _ _ 0 _ _ _ hSz.1; have a1 := cell_of_row _ _ 0 _ _ _ hSz.2.1; have a2 := cell_of_row _ _ 0 _ _ _ hSz.2.2; simp at a0 a1 a2; go_simp; try with_reducible rfl)⟩) hS0 ?_
         go_simp
         refine wpAnyH_ready (rs := [31]) (by kernel_rfl) (by simp) ?_
         refine AllReadyH.cons rfl (fun K hK => ?_) AllReadyH.nil
         go_simp
         go_wp2_with (go_at_call 19; refine (HHD.out _).mono ?_; rintro e ww ⟨rfl, rfl⟩)
         refine hK.out _ _ (hS0) (fun hSc => ?_)
         clear hK K
         refine wpAnyH_take (i := 32) (v := ?_) rfl (by kernel_rfl) (by kernel_rfl) (by kernel_rfl) (fun _ _ _ h => h) (Or.inl ⟨by kernel_rfl, by (intro wz hSz; go_simp; try with_reducible rfl)⟩) hSc ?_
         go_simp
         refine wpAnyH_take (i := 33) (v := ?_) rfl (by kernel_rfl) (by kernel_rfl) (by kernel_rfl) (fun _ _ _ h => h) (Or.inl ⟨by kernel_rfl, by (intro wz hSz; go_simp; try with_reducible rfl)⟩) hSc ?_
         go_simp
         refine wpAnyH_done (by kernel_rfl) ?_ _
         go_wp2_with fail
         go_roundw
         case rel => exact ⟨1, by omega, by first | rfl | go_num, Lib.hid (HBI.out.trans (hd_.mono HBI.out.size))⟩
         case measure => simp [intOf]
        ·
         subst hc_
         have q1 : decide (b1_ < min x1 m1) = false := decide_eq_false (by omega)
         have q2 : decide (max x1 m1 < b1_) = false := decide_eq_false (by omega)
         have HHD := Lib.hid (show ∀ W_ : World, Calls Try.prog 19 #[.int .i64 b1_] W_ (fun e' w' => e' = .returned (.int .i64 b1_) ∧ W_ = w') from fun W_ => by have h := Wa.held_any b1_ W_; rw [HV1.out] at h; exact h)
         go_upto_region 18 with fail
         have hd_ : Below y37.heap.size y37 y37.drew := (Below.refl _ _).drew
         refine wp_region_held_drew (S := fun y => y.heap[y32.heap.size]? = some (.cells #[.int .i64 b0_, .int .i64 b1_, .int .i64 b2_] 56 (0, 0)) ∧ y.heap[y33.heap.size]? = some (.cells #[.int .i64 x0, .int .i64 x1, .int .i64 x2] 56 (0, 0)) ∧ y.heap[y34.heap.size]? = some (.cells #[.int .i64 m0, .int .i64 m1, .int .i64 m2] 56 (0, 0))) (by kernel_rfl) (⟨hr37_5, hr37_6, hr37_7⟩) (fun hS0 => ?_)
         refine wpAnyH_take (i := 0) (v := ?_) rfl (by kernel_rfl) (by kernel_rfl) (by kernel_rfl) (fun _ _ _ h => h) (Or.inl ⟨by kernel_rfl, by (intro wz hSz; go_simp; try with_reducible rfl)⟩) hS0 ?_
         go_simp
         refine wpAnyH_take (i := 1) (v := ?_) rfl (by kernel_rfl) (by kernel_rfl) (by kernel_rfl) (fun _ _ _ h => h) (Or.inl ⟨by kernel_rfl, by (intro wz hSz; go_simp; try with_reducible rfl)⟩) hS0 ?_
         go_simp
         refine wpAnyH_take (i := 2) (v := ?_) rfl (by kernel_rfl) (by kernel_rfl) (by kernel_rfl) (fun _ _ _ h => h) (Or.inl ⟨by kernel_rfl, by (intro wz hSz; have a0 := cell_of_row _ _ 1 _ _ _ hSz.1; have a1 := cell_of_row _ _ 1 _ _ _ hSz.2.1; have a2 := cell_of_row _ _ 1 _ _ _ hSz.2.2; simp at a0 a1 a2; go_simp; try with_reducible rfl)⟩) hS0 ?_
         go_simp
         refine wpAnyH_take (i := 3) (v := ?_) rfl (by kernel_rfl) (by kernel_rfl) (by kernel_rfl) (fun _ _ _ h => h) (Or.inl ⟨by kernel_rfl, by (intro wz hSz; go_simp; try with_reducible rfl)⟩) hS0 ?_
         go_simp
         refine wpAnyH_take (i := 4) (v := ?_) rfl (by kernel_rfl) (by kernel_rfl) (by kernel_rfl) (fun _ _ _ h => h) (Or.inl ⟨by kernel_rfl, by (intro wz hSz; go_simp; try with_reducible rfl)⟩) hS0 ?_
         go_simp
         refine wpAnyH_take (i := 5) (v := ?_) rfl (by kernel_rfl) (by kernel_rfl) (by kernel_rfl) (fun _ _ _ h => h) (Or.inl ⟨by kernel_rfl, by (intro wz hSz; have a0 := cell_of_row _ _ 1 _ _ _ hSz.1; have a1 := cell_of_row _ _ 1 _ _ _ hSz.2.1; have a2 := cell_of_row _ _ 1 _ _ _ hSz.2.2; simp at a0 a1 a2; go_simp; try with_reducible rfl)⟩) hS0 ?_
         go_simp
         refine wpAnyH_take (i := 6) (v := ?_) rfl (by kernel_rfl) (by kernel_rfl) (by kernel_rfl) (fun _ _ _ h => h) (Or.inl ⟨by kernel_rfl, by (intro wz hSz; go_simp; try with_reducible rfl)⟩) hS0 ?_
         go_simp
         refine wpAnyH_take (i := 7) (v := ?_) rfl (by kernel_rfl) (by kernel_rfl) (by kernel_rfl) (fun _ _ _ h => h) (Or.inl ⟨by kernel_rfl, by (intro wz hSz; go_simp; try with_reducible rfl)⟩) hS0 ?_
         go_simp
         refine wpAnyH_take (i := 8) (v := ?_) rfl (by kernel_rfl) (by kernel_rfl) (by kernel_rfl) (fun _ _ _ h => h) (Or.inl ⟨by kernel_rfl, by (intro wz hSz; have a0 := cell_of_row _ _ 1 _ _ _ hSz.1; have a1 := cell_of_row _ _ 1 _ _ _ hSz.2.1; have a2 := cell_of_row _ _ 1 _ _ _ hSz.2.2; simp at a0 a1 a2; go_simp; try with_reducible rfl)⟩) hS0 ?_
         go_simp
         refine wpAnyH_take (i := 9) (v := ?_) rfl (by kernel_rfl) (by kernel_rfl) (by kernel_rfl) (fun _ _ _ h => h) (Or.inl ⟨by kernel_rfl, by (intro wz hSz; go_simp; try with_reducible rfl)⟩) hS0 ?_
         go_simp
         refine wpAnyH_take (i := 10) (v := ?_) rfl (by kernel_rfl) (by kernel_rfl) (by kernel_rfl) (fun _ _ _ h => h) (Or.inl ⟨by kernel_rfl, by (intro wz hSz; go_simp; try with_reducible rfl)⟩) hS0 ?_
         go_simp
         refine wpAnyH_take (i := 11) (v := ?_) rfl (by kernel_rfl) (by kernel_rfl) (by kernel_rfl) (fun _ _ _ h => h) (Or.inl ⟨by kernel_rfl, by (intro wz hSz; go_simp; try with_reducible rfl)⟩) hS0 ?_
         go_simp
         refine wpAnyH_take (i := 12) (v := ?_) rfl (by kernel_rfl) (by kernel_rfl) (by kernel_rfl) (fun _ _ _ h => h) (Or.inl ⟨by kernel_rfl, by (intro wz hSz; go_simp; try with_reducible rfl)⟩) hS0 ?_
         go_simp
         refine wpAnyH_take (i := 13) (v := ?_) rfl (by kernel_rfl) (by kernel_rfl) (by kernel_rfl) (fun _ _ _ h => h) (Or.inl ⟨by kernel_rfl, by (intro wz hSz; go_simp; try with_reducible rfl)⟩) hS0 ?_
         go_simp
         refine wpAnyH_take (i := 14) (v := ?_) rfl (by kernel_rfl) (by kernel_rfl) (by kernel_rfl) (fun _ _ _ h => h) (Or.inl ⟨by kernel_rfl, by (intro wz hSz; have a0 := cell_of_row _ _ 1 _ _ _ hSz.1; have a1 := cell_of_row _ _ 1 _ _ _ hSz.2.1; have a2 := cell_of_row _ _ 1 _ _ _ hSz.2.2; simp at a0 a1 a2; go_simp; try with_reducible rfl)⟩) hS0 ?_
         go_simp
         refine wpAnyH_take (i := 15) (v := ?_) rfl (by kernel_rfl) (by kernel_rfl) (by kernel_rfl) (fun _ _ _ h => h) (Or.inl ⟨by kernel_rfl, by (intro wz hSz; go_simp; try with_reducible rfl)⟩) hS0 ?_
         go_simp
         refine wpAnyH_take (i := 16) (v := ?_) rfl (by kernel_rfl) (by kernel_rfl) (by kernel_rfl) (fun _ _ _ h => h) (Or.inl ⟨by kernel_rfl, by (intro wz hSz; go_simp; try with_reducible rfl)⟩) hS0 ?_
         go_simp
         refine wpAnyH_take (i := 17) (v := ?_) rfl (by kernel_rfl) (by kernel_rfl) (by kernel_rfl) (fun _ _ _ h => h) (Or.inl ⟨by kernel_rfl, by (intro wz hSz; have a0 := cell_of_row _ _ 1 _ _ _ hSz.1; have a1 := cell_of_row _ _ 1 _ _ _ hSz.2.1; have a2 := cell_of_row _ _ 1 _ _ _ hSz.2.2; simp at a0 a1 a2; go_simp; try with_reducible rfl)⟩) hS0 ?_
         go_simp
         refine wpAnyH_take (i := 18) (v := ?_) rfl (by kernel_rfl) (by kernel_rfl) (by kernel_rfl) (fun _ _ _ h => h) (Or.inl ⟨by kernel_rfl, by (intro wz hSz; go_simp; try with_reducible rfl)⟩) hS0 ?_
         go_simp
         refine wpAnyH_take (i := 19) (v := ?_) rfl (by kernel_rfl) (by kernel_rfl) (by kernel_rfl) (fun _ _ _ h => h) (Or.inl ⟨by kernel_rfl, by (intro wz hSz; go_simp; try with_reducible rfl)⟩) hS0 ?_
         go_simp
         refine wpAnyH_take (i := 20) (v := ?_) rfl (by kernel_rfl) (by kernel_rfl) (by kernel_rfl) (fun _ _ _ h => h) (Or.inl ⟨by kernel_rfl, by (intro wz hSz; have a0 := cell_of_row _ _ 1 _ _ _ hSz.1; have a1 := cell_of_row _ _ 1 _ _ _ hSz.2.1; have a2 := cell_of_row _ _ 1 _ _ _ hSz.2.2; simp at a0 a1 a2; go_simp; try with_reducible rfl)⟩) hS0 ?_
         go_simp
         refine wpAnyH_take (i := 21) (v := ?_) rfl (by kernel_rfl) (by kernel_rfl) (by kernel_rfl) (fun _ _ _ h => h) (Or.inl ⟨by kernel_rfl, by (intro wz hSz; go_simp; try with_reducible rfl)⟩) hS0 ?_
         go_simp
         refine wpAnyH_take (i := 22) (v := ?_) rfl (by kernel_rfl) (by kernel_rfl) (by kernel_rfl) (fun _ _ _ h => h) (Or.inl ⟨by kernel_rfl, by (intro wz hSz; go_simp; try with_reducible rfl)⟩) hS0 ?_
         go_simp
         refine wpAnyH_take (i := 23) (v := ?_) rfl (by kernel_rfl) (by kernel_rfl) (by kernel_rfl) (fun _ _ _ h => h) (Or.inl ⟨by kernel_rfl, by (intro wz hSz; go_simp; try with_reducible rfl)⟩) hS0 ?_
         go_simp
         refine wpAnyH_take (i := 24) (v := ?_) rfl (by kernel_rfl) (by kernel_rfl) (by kernel_rfl) (fun _ _ _ h => h) (Or.inl ⟨by kernel_rfl, by (intro wz hSz; go_simp; try with_reducible rfl)⟩) hS0 ?_
         go_simp
         refine wpAnyH_take (i := 25) (v := ?_) rfl (by kernel_rfl) (by kernel_rfl) (by kernel_rfl) (fun _ _ _ h => h) (Or.inl ⟨by kernel_rfl, by (intro wz hSz; go_simp; try with_reducible rfl)⟩) hS0 ?_
         go_simp
         refine wpAnyH_take (i := 26) (v := ?_) rfl (by kernel_rfl) (by kernel_rfl) (by kernel_rfl) (fun _ _ _ h => h) (Or.inl ⟨by kernel_rfl, by (intro wz hSz; go_simp; try with_reducible rfl)⟩) hS0 ?_
         go_simp
         refine wpAnyH_take (i := 27) (v := ?_) rfl (by kernel_rfl) (by kernel_rfl) (by kernel_rfl) (fun _ _ _ h => h) (Or.inl ⟨by kernel_rfl, by (intro wz hSz; have a0 := cell_of_row _ _ 1 _ _ _ hSz.1; have a1 := cell_of_row _ _ 1 _ _ _ hSz.2.1; have a2 := cell_of_row _ _ 1 _ _ _ hSz.2.2; simp at a0 a1 a2; go_simp; try with_reducible rfl)⟩) hS0 ?_
         go_simp
         refine wpAnyH_take (i := 28) (v := ?_) rfl (by kernel_rfl) (by kernel_rfl) (by kernel_rfl) (fun _ _ _ h => h) (Or.inl ⟨by kernel_rfl, by (intro wz hSz; go_simp; try with_reducible rfl)⟩) hS0 ?_
         go_simp
         refine wpAnyH_take (i := 29) (v := ?_) rfl (by kernel_rfl) (by kernel_rfl) (by kernel_rfl) (fun _ _ _ h => h) (Or.inl ⟨by kernel_rfl, by (intro wz hSz; go_simp; try with_reducible rfl)⟩) hS0 ?_
         go_simp
         refine wpAnyH_take (i := 30) (v := ?_) rfl (by kernel_rfl) (by kernel_rfl) (by kernel_rfl) (fun _ _ _ h => h) (Or.inl ⟨by kernel_rfl, by (intro wz hSz; have a0 := cell_of_row _ _ 1 _ _ _ hSz.1; have a1 := cell_of_row _ _ 1 _ _ _ hSz.2.1; have a2 := cell_of_row _ _ 1 _ _ _ hSz.2.2; simp at a0 a1 a2; go_simp; try with_reducible rfl)⟩) hS0 ?_
         go_simp
         refine wpAnyH_ready (rs := [31]) (by kernel_rfl) (by simp) ?_
         refine AllReadyH.cons rfl (fun K hK => ?_) AllReadyH.nil
         go_simp
         go_wp2_with (go_at_call 19; refine (HHD.out _).mono ?_; rintro e ww ⟨rfl, rfl⟩)
         refine hK.out _ _ (hS0) (fun hSc => ?_)
         clear hK K
         refine wpAnyH_take (i := 32) (v := ?_) rfl (by kernel_rfl) (by kernel_rfl) (by kernel_rfl) (fun _ _ _ h => h) (Or.inl ⟨by kernel_rfl, by (intro wz hSz; go_simp; try with_reducible rfl)⟩) hSc ?_
         go_simp
         refine wpAnyH_take (i := 33) (v := ?_) rfl (by kernel_rfl) (by kernel_rfl) (by kernel_rfl) (fun _ _ _ h => h) (Or.inl ⟨by kernel_rfl, by (intro wz hSz; go_simp; try with_reducible rfl)⟩) hSc ?_
         go_simp
         refine wpAnyH_done (by kernel_rfl) ?_ _
         go_wp2_with fail
         go_roundw
         case rel => exact ⟨2, by omega, by first | rfl | go_num, Lib.hid (HBI.out.trans (hd_.mono HBI.out.size))⟩
         case measure => simp [intOf]
        ·
         subst hc_
         have q1 : decide (b2_ < min x2 m2) = false := decide_eq_false (by omega)
         have q2 : decide (max x2 m2 < b2_) = false := decide_eq_false (by omega)
         have HHD := Lib.hid (show ∀ W_ : World, Calls Try.prog 19 #[.int .i64 b2_] W_ (fun e' w' => e' = .returned (.int .i64 b2_) ∧ W_ = w') from fun W_ => by have h := Wa.held_any b2_ W_; rw [HV2.out] at h; exact h)
         go_upto_region 18 with fail
         have hd_ : Below y37.heap.size y37 y37.drew := (Below.refl _ _).drew
         refine wp_region_held_drew (S := fun y => y.heap[y32.heap.size]? = some (.cells #[.int .i64 b0_, .int .i64 b1_, .int .i64 b2_] 56 (0, 0)) ∧ y.heap[y33.heap.size]? = some (.cells #[.int .i64 x0, .int .i64 x1, .int .i64 x2] 56 (0, 0)) ∧ y.heap[y34.heap.size]? = some (.cells #[.int .i64 m0, .int .i64 m1, .int .i64 m2] 56 (0, 0))) (by kernel_rfl) (⟨hr37_5, hr37_6, hr37_7⟩) (fun hS0 => ?_)
         refine wpAnyH_take (i := 0) (v := ?_) rfl (by kernel_rfl) (by kernel_rfl) (by kernel_rfl) (fun _ _ _ h => h) (Or.inl ⟨by kernel_rfl, by (intro wz hSz; go_simp; try with_reducible rfl)⟩) hS0 ?_
         go_simp
         refine wpAnyH_take (i := 1) (v := ?_) rfl (by kernel_rfl) (by kernel_rfl) (by kernel_rfl) (fun _ _ _ h => h) (Or.inl ⟨by kernel_rfl, by (intro wz hSz; go_simp; try with_reducible rfl)⟩) hS0 ?_
         go_simp
         refine wpAnyH_take (i := 2) (v := ?_) rfl (by kernel_rfl) (by kernel_rfl) (by kernel_rfl) (fun _ _ _ h => h) (Or.inl ⟨by kernel_rfl, by (intro wz hSz; have a0 := cell_of_row _ _ 2 _ _ _ hSz.1; have a1 := cell_of_row _ _ 2 _ _ _ hSz.2.1; have a2 := cell_of_row _ _ 2 _ _ _ hSz.2.2; simp at a0 a1 a2; go_simp; try with_reducible rfl)⟩) hS0 ?_
         go_simp
         refine wpAnyH_take (i := 3) (v := ?_) rfl (by kernel_rfl) (by kernel_rfl) (by kernel_rfl) (fun _ _ _ h => h) (Or.inl ⟨by kernel_rfl, by (intro wz hSz; go_simp; try with_reducible rfl)⟩) hS0 ?_
         go_simp
         refine wpAnyH_take (i := 4) (v := ?_) rfl (by kernel_rfl) (by kernel_rfl) (by kernel_rfl) (fun _ _ _ h => h) (Or.inl ⟨by kernel_rfl, by (intro wz hSz; go_simp; try with_reducible rfl)⟩) hS0 ?_
         go_simp
         refine wpAnyH_take (i := 5) (v := ?_) rfl (by kernel_rfl) (by kernel_rfl) (by kernel_rfl) (fun _ _ _ h => h) (Or.inl ⟨by kernel_rfl, by (intro wz hSz; have a0 := cell_of_row _ _ 2 _ _ _ hSz.1; have a1 := cell_of_row _ _ 2 _ _ _ hSz.2.1; have a2 := cell_of_row _ _ 2 _ _ _ hSz.2.2; simp at a0 a1 a2; go_simp; try with_reducible rfl)⟩) hS0 ?_
         go_simp
         refine wpAnyH_take (i := 6) (v := ?_) rfl (by kernel_rfl) (by kernel_rfl) (by kernel_rfl) (fun _ _ _ h => h) (Or.inl ⟨by kernel_rfl, by (intro wz hSz; go_simp; try with_reducible rfl)⟩) hS0 ?_
         go_simp
         refine wpAnyH_take (i := 7) (v := ?_) rfl (by kernel_rfl) (by kernel_rfl) (by kernel_rfl) (fun _ _ _ h => h) (Or.inl ⟨by kernel_rfl, by (intro wz hSz; go_simp; try with_reducible rfl)⟩) hS0 ?_
         go_simp
         refine wpAnyH_take (i := 8) (v := ?_) rfl (by kernel_rfl) (by kernel_rfl) (by kernel_rfl) (fun _ _ _ h => h) (Or.inl ⟨by kernel_rfl, by (intro wz hSz; have a0 := cell_of_row _ _ 2 _ _ _ hSz.1; have a1 := cell_of_row _ _ 2 _ _ _ hSz.2.1; have a2 := cell_of_row _ _ 2 _ _ _ hSz.2.2; simp at a0 a1 a2; go_simp; try with_reducible rfl)⟩) hS0 ?_
         go_simp
         refine wpAnyH_take (i := 9) (v := ?_) rfl (by kernel_rfl) (by kernel_rfl) (by kernel_rfl) (fun _ _ _ h => h) (Or.inl ⟨by kernel_rfl, by (intro wz hSz; go_simp; try with_reducible rfl)⟩) hS0 ?_
         go_simp
         refine wpAnyH_take (i := 10) (v := ?_) rfl (by kernel_rfl) (by kernel_rfl) (by kernel_rfl) (fun _ _ _ h => h) (Or.inl ⟨by kernel_rfl, by (intro wz hSz; go_simp; try with_reducible rfl)⟩) hS0 ?_
         go_simp
         refine wpAnyH_take (i := 11) (v := ?_) rfl (by kernel_rfl) (by kernel_rfl) (by kernel_rfl) (fun _ _ _ h => h) (Or.inl ⟨by kernel_rfl, by (intro wz hSz; go_simp; try with_reducible rfl)⟩) hS0 ?_
         go_simp
         refine wpAnyH_take (i := 12) (v := ?_) rfl (by kernel_rfl) (by kernel_rfl) (by kernel_rfl) (fun _ _ _ h => h) (Or.inl ⟨by kernel_rfl, by (intro wz hSz; go_simp; try with_reducible rfl)⟩) hS0 ?_
         go_simp
         refine wpAnyH_take (i := 13) (v := ?_) rfl (by kernel_rfl) (by kernel_rfl) (by kernel_rfl) (fun _ _ _ h => h) (Or.inl ⟨by kernel_rfl, by (intro wz hSz; go_simp; try with_reducible rfl)⟩) hS0 ?_
         go_simp
         refine wpAnyH_take (i := 14) (v := ?_) rfl (by kernel_rfl) (by kernel_rfl) (by kernel_rfl) (fun _ _ _ h => h) (Or.inl ⟨by kernel_rfl, by (intro wz hSz; have a0 := cell_of_row _ _ 2 _ _ _ hSz.1; have a1 := cell_of_row _ _ 2 _ _ _ hSz.2.1; have a2 := cell_of_row _ _ 2 _ _ _ hSz.2.2; simp at a0 a1 a2; go_simp; try with_reducible rfl)⟩) hS0 ?_
         go_simp
         refine wpAnyH_take (i := 15) (v := ?_) rfl (by kernel_rfl) (by kernel_rfl) (by kernel_rfl) (fun _ _ _ h => h) (Or.inl ⟨by kernel_rfl, by (intro wz hSz; go_simp; try with_reducible rfl)⟩) hS0 ?_
         go_simp
         refine wpAnyH_take (i := 16) (v := ?_) rfl (by kernel_rfl) (by kernel_rfl) (by kernel_rfl) (fun _ _ _ h => h) (Or.inl ⟨by kernel_rfl, by (intro wz hSz; go_simp; try with_reducible rfl)⟩) hS0 ?_
         go_simp
         refine wpAnyH_take (i := 17) (v := ?_) rfl (by kernel_rfl) (by kernel_rfl) (by kernel_rfl) (fun _ _ _ h => h) (Or.inl ⟨by kernel_rfl, by (intro wz hSz; have a0 := cell_of_row _ _ 2 _ _ _ hSz.1; have a1 := cell_of_row _ _ 2 _ _ _ hSz.2.1; have a2 := cell_of_row _ _ 2 _ _ _ hSz.2.2; simp at a0 a1 a2; go_simp; try with_reducible rfl)⟩) hS0 ?_
         go_simp
         refine wpAnyH_take (i := 18) (v := ?_) rfl (by kernel_rfl) (by kernel_rfl) (by kernel_rfl) (fun _ _ _ h => h) (Or.inl ⟨by kernel_rfl, by (intro wz hSz; go_simp; try with_reducible rfl)⟩) hS0 ?_
         go_simp
         refine wpAnyH_take (i := 19) (v := ?_) rfl (by kernel_rfl) (by kernel_rfl) (by kernel_rfl) (fun _ _ _ h => h) (Or.inl ⟨by kernel_rfl, by (intro wz hSz; go_simp; try with_reducible rfl)⟩) hS0 ?_
         go_simp
         refine wpAnyH_take (i := 20) (v := ?_) rfl (by kernel_rfl) (by kernel_rfl) (by kernel_rfl) (fun _ _ _ h => h) (Or.inl ⟨by kernel_rfl, by (intro wz hSz; have a0 := cell_of_row _ _ 2 _ _ _ hSz.1; have a1 := cell_of_row _ _ 2 _ _ _ hSz.2.1; have a2 := cell_of_row _ _ 2 _ _ _ hSz.2.2; simp at a0 a1 a2; go_simp; try with_reducible rfl)⟩) hS0 ?_
         go_simp
         refine wpAnyH_take (i := 21) (v := ?_) rfl (by kernel_rfl) (by kernel_rfl) (by kernel_rfl) (fun _ _ _ h => h) (Or.inl ⟨by kernel_rfl, by (intro wz hSz; go_simp; try with_reducible rfl)⟩) hS0 ?_
         go_simp
         refine wpAnyH_take (i := 22) (v := ?_) rfl (by kernel_rfl) (by kernel_rfl) (by kernel_rfl) (fun _ _ _ h => h) (Or.inl ⟨by kernel_rfl, by (intro wz hSz; go_simp; try with_reducible rfl)⟩) hS0 ?_
         go_simp
         refine wpAnyH_take (i := 23) (v := ?_) rfl (by kernel_rfl) (by kernel_rfl) (by kernel_rfl) (fun _ _ _ h => h) (Or.inl ⟨by kernel_rfl, by (intro wz hSz; go_simp; try with_reducible rfl)⟩) hS0 ?_
         go_simp
         refine wpAnyH_take (i := 24) (v := ?_) rfl (by kernel_rfl) (by kernel_rfl) (by kernel_rfl) (fun _ _ _ h => h) (Or.inl ⟨by kernel_rfl, by (intro wz hSz; go_simp; try with_reducible rfl)⟩) hS0 ?_
         go_simp
         refine wpAnyH_take (i := 25) (v := ?_) rfl (by kernel_rfl) (by kernel_rfl) (by kernel_rfl) (fun _ _ _ h => h) (Or.inl ⟨by kernel_rfl, by (intro wz hSz; go_simp; try with_reducible rfl)⟩) hS0 ?_
         go_simp
         refine wpAnyH_take (i := 26) (v := ?_) rfl (by kernel_rfl) (by kernel_rfl) (by kernel_rfl) (fun _ _ _ h => h) (Or.inl ⟨by kernel_rfl, by (intro wz hSz; go_simp; try with_reducible rfl)⟩) hS0 ?_
         go_simp
         refine wpAnyH_take (i := 27) (v := ?_) rfl (by kernel_rfl) (by kernel_rfl) (by kernel_rfl) (fun _ _ _ h => h) (Or.inl ⟨by kernel_rfl, by (intro wz hSz; have a0 := cell_of_row _ _ 2 _ _ _ hSz.1; have a1 := cell_of_row _ _ 2 _ _ _ hSz.2.1; have a2 := cell_of_row _ _ 2 _ _ _ hSz.2.2; simp at a0 a1 a2; go_simp; try with_reducible rfl)⟩) hS0 ?_
         go_simp
         refine wpAnyH_take (i := 28) (v := ?_) rfl (by kernel_rfl) (by kernel_rfl) (by kernel_rfl) (fun _ _ _ h => h) (Or.inl ⟨by kernel_rfl, by (intro wz hSz; go_simp; try with_reducible rfl)⟩) hS0 ?_
         go_simp
         refine wpAnyH_take (i := 29) (v := ?_) rfl (by kernel_rfl) (by kernel_rfl) (by kernel_rfl) (fun _ _ _ h => h) (Or.inl ⟨by kernel_rfl, by (intro wz hSz; go_simp; try with_reducible rfl)⟩) hS0 ?_
         go_simp
         refine wpAnyH_take (i := 30) (v := ?_) rfl (by kernel_rfl) (by kernel_rfl) (by kernel_rfl) (fun _ _ _ h => h) (Or.inl ⟨by kernel_rfl, by (intro wz hSz; have a0 := cell_of_row _ _ 2 _ _ _ hSz.1; have a1 := cell_of_row _ _ 2 _ _ _ hSz.2.1; have a2 := cell_of_row _ _ 2 _ _ _ hSz.2.2; simp at a0 a1 a2; go_simp; try with_reducible rfl)⟩) hS0 ?_
         go_simp
         refine wpAnyH_ready (rs := [31]) (by kernel_rfl) (by simp) ?_
         refine AllReadyH.cons rfl (fun K hK => ?_) AllReadyH.nil
         go_simp
         go_wp2_with (go_at_call 19; refine (HHD.out _).mono ?_; rintro e ww ⟨rfl, rfl⟩)
         refine hK.out _ _ (hS0) (fun hSc => ?_)
         clear hK K
         refine wpAnyH_take (i := 32) (v := ?_) rfl (by kernel_rfl) (by kernel_rfl) (by kernel_rfl) (fun _ _ _ h => h) (Or.inl ⟨by kernel_rfl, by (intro wz hSz; go_simp; try with_reducible rfl)⟩) hSc ?_
         go_simp
         refine wpAnyH_take (i := 33) (v := ?_) rfl (by kernel_rfl) (by kernel_rfl) (by kernel_rfl) (fun _ _ _ h => h) (Or.inl ⟨by kernel_rfl, by (intro wz hSz; go_simp; try with_reducible rfl)⟩) hSc ?_
         go_simp
         refine wpAnyH_done (by kernel_rfl) ?_ _
         go_wp2_with fail
         go_roundw
         case rel => exact ⟨3, by omega, by first | rfl | go_num, Lib.hid (HBI.out.trans (hd_.mono HBI.out.size))⟩
         case measure => simp [intOf]
        ·
         subst hc_
         have HBO := Lib.hid (show Below y31.heap.size y31 y37 from HB.out.trans ((HCH.out.trans (HBI.out.mono HCH.out.size)).mono HB.out.size))
         go_wp2_with fail
         go_roundw
         case rel => exact ⟨k + 1, by omega, by go_num, HBO⟩
         case measure => simp [intOf]; omega
      ·
       have hge : ¬ (k : Int) < nl := by omega
       go_upto_region 22 with fail
       clear hge hlt HB
       have hnl1 : nl ≤ 140737488351232 := by have := HNL.out; omega
       obtain ⟨kk, hkk⟩ : ∃ t, t = keptN (⟨W, H, nl, nd, nn, nb, ns, nf, L, D, N, B, S, F⟩ : Flm) (⟨W2, H2, nl2, nd2, nn2, nb2, ns2, nf2, L2, D2, N2, B2, S2, F2⟩ : Flm) nf := ⟨_, rfl⟩
       have HKP := Lib.hid (fun (W_ : World) (h1 : FAt W_ (⟨W, H, nl, nd, nn, nb, ns, nf, L, D, N, B, S, F⟩ : Flm) (⟨al3, cl3, ad3, cd3, an3, cn3, ab3, cb3, ax3, cx3, af3, cf3⟩ : Pl)) (h2 : FAt W_ (⟨W2, H2, nl2, nd2, nn2, nb2, ns2, nf2, L2, D2, N2, B2, S2, F2⟩ : Flm) (⟨al4, cl4, ad4, cd4, an4, cn4, ab4, cb4, ax4, cx4, af4, cf4⟩ : Pl)) => (show Calls Try.prog 15 #[.agg (FC (⟨W, H, nl, nd, nn, nb, ns, nf, L, D, N, B, S, F⟩ : Flm) (⟨al3, cl3, ad3, cd3, an3, cn3, ab3, cb3, ax3, cx3, af3, cf3⟩ : Pl)), .agg (FC (⟨W2, H2, nl2, nd2, nn2, nb2, ns2, nf2, L2, D2, N2, B2, S2, F2⟩ : Flm) (⟨al4, cl4, ad4, cd4, an4, cn4, ab4, cb4, ax4, cx4, af4, cf4⟩ : Pl))] W_ (fun e' w' => e' = .returned (.int .i64 (kk : Nat)) ∧ Below W_.heap.size W_ w') by have h := kept_all _ _ (⟨al3, cl3, ad3, cd3, an3, cn3, ab3, cb3, ax3, cx3, af3, cf3⟩ : Pl) (⟨al4, cl4, ad4, cd4, an4, cn4, ab4, cb4, ax4, cx4, af4, cf4⟩ : Pl) W_ h1 h2; rw [show kK (⟨W, H, nl, nd, nn, nb, ns, nf, L, D, N, B, S, F⟩ : Flm) (⟨W2, H2, nl2, nd2, nn2, nb2, ns2, nf2, L2, D2, N2, B2, S2, F2⟩ : Flm) = (kk : Int) by rw [hkk]; exact if_pos ⟨HO.out, HO2.out⟩] at h; exact h))
       by_cases hk0 : 0 < kk
       ·
        have dk : decide ((0 : Int) < (kk : Int)) = true := decide_eq_true (by omega)
        clear hkk
        refine wp_region_held_drew (S := fun y => y.heap[w.heap.size]? = some (.cells #[.int .i64 W, .int .i64 H, .slice al nl cl, .slice ad nd cd, .slice an nn cn, .slice ab nb cb, .slice ax ns cx, .slice af nf cf] 29 (0, 0)) ∧ y.heap[q1]? = some (.cells #[.int .i64 W, .int .i64 H, .slice al3 nl cl3, .slice ad3 nd cd3, .slice an3 nn cn3, .slice ab3 nb cb3, .slice ax3 ns cx3, .slice af3 nf cf3] 40 (0, 0)) ∧ y.heap[q2]? = some (.cells #[.int .i64 W2, .int .i64 H2, .slice al4 nl2 cl4, .slice ad4 nd2 cd4, .slice an4 nn2 cn4, .slice ab4 nb2 cb4, .slice ax4 ns2 cx4, .slice af4 nf2 cf4] 40 (0, 0)) ∧ y.heap[q3]? = some (.cells #[.int .i64 W, .int .i64 H, .slice a5 nl c5] 36 (0, 0))) (by kernel_rfl) (⟨hr32_0, hr32_2, hr32_3, hr32_4⟩) (fun hS0 => ?_)
        obtain ⟨y33, hy33⟩ : ∃ y, y32.drew = y := ⟨_, rfl⟩
        have HU33 := Lib.hid (show Below w.heap.size w y33 by rw [← hy33]; exact HU32.out.drew)
        have hr33_0 : y33.heap[w.heap.size]? = some (.cells #[.int .i64 W, .int .i64 H, .slice al nl cl, .slice ad nd cd, .slice an nn cn, .slice ab nb cb, .slice ax ns cx, .slice af nf cf] 29 (0, 0)) := by rw [← hy33]; exact hr32_0
        have hr33_1 : y33.heap[w.heap.size + 1]? = some (.cells #[.int .i64 W2, .int .i64 H2, .slice al2 nl2 cl2, .slice ad2 nd2 cd2, .slice an2 nn2 cn2, .slice ab2 nb2 cb2, .slice ax2 ns2 cx2, .slice af2 nf2 cf2] 29 (0, 0)) := by rw [← hy33]; exact hr32_1
        have hr33_2 : y33.heap[q1]? = some (.cells #[.int .i64 W, .int .i64 H, .slice al3 nl cl3, .slice ad3 nd cd3, .slice an3 nn cn3, .slice ab3 nb cb3, .slice ax3 ns cx3, .slice af3 nf cf3] 40 (0, 0)) := by rw [← hy33]; exact hr32_2
        have hr33_3 : y33.heap[q2]? = some (.cells #[.int .i64 W2, .int .i64 H2, .slice al4 nl2 cl4, .slice ad4 nd2 cd4, .slice an4 nn2 cn4, .slice ab4 nb2 cb4, .slice ax4 ns2 cx4, .slice af4 nf2 cf4] 40 (0, 0)) := by rw [← hy33]; exact hr32_3
        have hr33_4 : y33.heap[q3]? = some (.cells #[.int .i64 W, .int .i64 H, .slice a5 nl c5] 36 (0, 0)) := by rw [← hy33]; exact hr32_4
        have hz33 : y32.heap.size ≤ y33.heap.size := by rw [← hy33]; exact Nat.le_refl _
        have HF33 := Lib.hid (show FAt y33 (⟨W, H, nl, nd, nn, nb, ns, nf, L, D, N, B, S, F⟩ : Flm) (⟨al3, cl3, ad3, cd3, an3, cn3, ab3, cb3, ax3, cx3, af3, cf3⟩ : Pl) by rw [← hy33]; exact HF32.out.on (Below.refl _ _).drew)
        have HG33 := Lib.hid (show FAt y33 (⟨W2, H2, nl2, nd2, nn2, nb2, ns2, nf2, L2, D2, N2, B2, S2, F2⟩ : Flm) (⟨al4, cl4, ad4, cd4, an4, cn4, ab4, cb4, ax4, cx4, af4, cf4⟩ : Pl) by rw [← hy33]; exact HG32.out.on (Below.refl _ _).drew)
        have HR33 := Lib.hid (show Rw 3 y33 a5 nl LB by rw [← hy33]; exact HR32.out.on (Below.refl _ _).drew)
        have HT33 := Lib.hid (show Rw 3 y33 a6 nl LB by rw [← hy33]; exact HT32.out.on (Below.refl _ _).drew)
        rw [hy33] at hS0 ⊢
        clear hy33
        refine wpAnyH_ready (rs := [0]) (by kernel_rfl) (by simp) ?_
        refine AllReadyH.cons rfl (fun K hK => ?_) AllReadyH.nil
        go_simp
        go_wp2_with (go_at_call 6; refine (wawake_any _).mono ?_; rintro e y34 ⟨rfl, hb34⟩)
        have hr34_0 := (hb34.block _ (lt_heap hr33_0)).trans hr33_0
        have hr34_1 := (hb34.block _ (lt_heap hr33_1)).trans hr33_1
        have hr34_2 := (hb34.block _ (lt_heap hr33_2)).trans hr33_2
        have hr34_3 := (hb34.block _ (lt_heap hr33_3)).trans hr33_3
        have hr34_4 := (hb34.block _ (lt_heap hr33_4)).trans hr33_4
        have HU34 := Lib.hid (HU33.out.trans (hb34.mono HU33.out.size))
        have HF34 := Lib.hid (HF33.out.on hb34)
        have HG34 := Lib.hid (HG33.out.on hb34)
        have HR34 := Lib.hid (HR33.out.on hb34)
        have HT34 := Lib.hid (HT33.out.on hb34)
        have hz34 := hb34.size
        refine hK.out _ _ (⟨(hb34.block _ (lt_heap hS0.1)).trans hS0.1, (hb34.block _ (lt_heap hS0.2.1)).trans hS0.2.1, (hb34.block _ (lt_heap hS0.2.2.1)).trans hS0.2.2.1, (hb34.block _ (lt_heap hS0.2.2.2)).trans hS0.2.2.2⟩) (fun hS34c => ?_)
        clear hK K
        refine wpAnyH_take (i := 1) (v := ?_) rfl (by kernel_rfl) (by kernel_rfl) (by kernel_rfl) (fun _ _ _ h => h) (Or.inl ⟨by kernel_rfl, by (intro wz hSz; go_simp; try with_reducible rfl)⟩) hS34c ?_
        go_simp
        refine wpAnyH_take (i := 2) (v := ?_) rfl (by kernel_rfl) (by kernel_rfl) (by kernel_rfl) (fun _ _ _ h => h) (Or.inl ⟨by kernel_rfl, by (intro wz hSz; have c0_0 := cell_of_row _ _ 0 _ _ _ hSz.1; have c0_1 := cell_of_row _ _ 1 _ _ _ hSz.1; have c0_2 := cell_of_row _ _ 2 _ _ _ hSz.1; have c0_3 := cell_of_row _ _ 3 _ _ _ hSz.1; have c0_4 := cell_of_row _ _ 4 _ _ _ hSz.1; have c0_5 := cell_of_row _ _ 5 _ _ _ hSz.1; have c0_6 := cell_of_row _ _ 6 _ _ _ hSz.1; have c0_7 := cell_of_row _ _ 7 _ _ _ hSz.1; have c2_0 := cell_of_row _ _ 0 _ _ _ hSz.2.1; have c2_1 := cell_of_row _ _ 1 _ _ _ hSz.2.1; have c2_2 := cell_of_row _ _ 2 _ _ _ hSz.2.1; have c2_3 := cell_of_row _ _ 3 _ _ _ hSz.2.1; have c2_4 := cell_of_row _ _ 4 _ _ _ hSz.2.1; have c2_5 := cell_of_row _ _ 5 _ _ _ hSz.2.1; have c2_6 := cell_of_row _ _ 6 _ _ _ hSz.2.1; have c2_7 := cell_of_row _ _ 7 _ _ _ hSz.2.1; have c3_0 := cell_of_row _ _ 0 _ _ _ hSz.2.2.1; have c3_1 := cell_of_row _ _ 1 _ _ _ hSz.2.2.1; have c3_2 := cell_of_row _ _ 2 _ _ _ hSz.2.2.1; have c3_3 := cell_of_row _ _ 3 _ _ _ hSz.2.2.1; have c3_4 := cell_of_row _ _ 4 _ _ _ hSz.2.2.1; have c3_5 := cell_of_row _ _ 5 _ _ _ hSz.2.2.1; have c3_6 := cell_of_row _ _ 6 _ _ _ hSz.2.2.1; have c3_7 := cell_of_row _ _ 7 _ _ _ hSz.2.2.1; have c4_0 := cell_of_row _ _ 0 _ _ _ hSz.2.2.2; have c4_1 := cell_of_row _ _ 1 _ _ _ hSz.2.2.2; have c4_2 := cell_of_row _ _ 2 _ _ _ hSz.2.2.2; simp at c0_0 c0_1 c0_2 c0_3 c0_4 c0_5 c0_6 c0_7 c2_0 c2_1 c2_2 c2_3 c2_4 c2_5 c2_6 c2_7 c3_0 c3_1 c3_2 c3_3 c3_4 c3_5 c3_6 c3_7 c4_0 c4_1 c4_2; go_simp; try with_reducible rfl)⟩) hS34c ?_
        go_simp
        refine wpAnyH_take (i := 3) (v := ?_) rfl (by kernel_rfl) (by kernel_rfl) (by kernel_rfl) (fun _ _ _ h => h) (Or.inl ⟨by kernel_rfl, by (intro wz hSz; have c0_0 := cell_of_row _ _ 0 _ _ _ hSz.1; have c0_1 := cell_of_row _ _ 1 _ _ _ hSz.1; have c0_2 := cell_of_row _ _ 2 _ _ _ hSz.1; have c0_3 := cell_of_row _ _ 3 _ _ _ hSz.1; have c0_4 := cell_of_row _ _ 4 _ _ _ hSz.1; have c0_5 := cell_of_row _ _ 5 _ _ _ hSz.1; have c0_6 := cell_of_row _ _ 6 _ _ _ hSz.1; have c0_7 := cell_of_row _ _ 7 _ _ _ hSz.1; have c2_0 := cell_of_row _ _ 0 _ _ _ hSz.2.1; have c2_1 := cell_of_row _ _ 1 _ _ _ hSz.2.1; have c2_2 := cell_of_row _ _ 2 _ _ _ hSz.2.1; have c2_3 := cell_of_row _ _ 3 _ _ _ hSz.2.1; have c2_4 := cell_of_row _ _ 4 _ _ _ hSz.2.1; have c2_5 := cell_of_row _ _ 5 _ _ _ hSz.2.1; have c2_6 := cell_of_row _ _ 6 _ _ _ hSz.2.1; have c2_7 := cell_of_row _ _ 7 _ _ _ hSz.2.1; have c3_0 := cell_of_row _ _ 0 _ _ _ hSz.2.2.1; have c3_1 := cell_of_row _ _ 1 _ _ _ hSz.2.2.1; have c3_2 := cell_of_row _ _ 2 _ _ _ hSz.2.2.1; have c3_3 := cell_of_row _ _ 3 _ _ _ hSz.2.2.1; have c3_4 := cell_of_row _ _ 4 _ _ _ hSz.2.2.1; have c3_5 := cell_of_row _ _ 5 _ _ _ hSz.2.2.1; have c3_6 := cell_of_row _ _ 6 _ _ _ hSz.2.2.1; have c3_7 := cell_of_row _ _ 7 _ _ _ hSz.2.2.1; have c4_0 := cell_of_row _ _ 0 _ _ _ hSz.2.2.2; have c4_1 := cell_of_row _ _ 1 _ _ _ hSz.2.2.2; have c4_2 := cell_of_row _ _ 2 _ _ _ hSz.2.2.2; simp at c0_0 c0_1 c0_2 c0_3 c0_4 c0_5 c0_6 c0_7 c2_0 c2_1 c2_2 c2_3 c2_4 c2_5 c2_6 c2_7 c3_0 c3_1 c3_2 c3_3 c3_4 c3_5 c3_6 c3_7 c4_0 c4_1 c4_2; go_simp; try with_reducible rfl)⟩) hS34c ?_
        go_simp
        refine wpAnyH_ready (rs := [4]) (by kernel_rfl) (by simp) ?_
        refine AllReadyH.cons rfl (fun K hK => ?_) AllReadyH.nil
        go_simp
        go_wp2_with (go_at_call 15; refine (HKP.out _ HF34.out HG34.out).mono ?_; rintro e y35 ⟨rfl, hb35⟩)
        have hr35_0 := (hb35.block _ (lt_heap hr34_0)).trans hr34_0
        have hr35_1 := (hb35.block _ (lt_heap hr34_1)).trans hr34_1
        have hr35_2 := (hb35.block _ (lt_heap hr34_2)).trans hr34_2
        have hr35_3 := (hb35.block _ (lt_heap hr34_3)).trans hr34_3
        have hr35_4 := (hb35.block _ (lt_heap hr34_4)).trans hr34_4
        have HU35 := Lib.hid (HU34.out.trans (hb35.mono HU34.out.size))
        have HF35 := Lib.hid (HF34.out.on hb35)
        have HG35 := Lib.hid (HG34.out.on hb35)
        have HR35 := Lib.hid (HR34.out.on hb35)
        have HT35 := Lib.hid (HT34.out.on hb35)
        have hz35 := hb35.size
        refine hK.out _ _ (⟨(hb35.block _ (lt_heap hS34c.1)).trans hS34c.1, (hb35.block _ (lt_heap hS34c.2.1)).trans hS34c.2.1, (hb35.block _ (lt_heap hS34c.2.2.1)).trans hS34c.2.2.1, (hb35.block _ (lt_heap hS34c.2.2.2)).trans hS34c.2.2.2⟩) (fun hS35c => ?_)
        clear hK K
        refine wpAnyH_take (i := 5) (v := ?_) rfl (by kernel_rfl) (by kernel_rfl) (by kernel_rfl) (fun _ _ _ h => h) (Or.inl ⟨by kernel_rfl, by (intro wz hSz; go_simp; try with_reducible rfl)⟩) hS35c ?_
        go_simp
        refine wpAnyH_take (i := 6) (v := ?_) rfl (by kernel_rfl) (by kernel_rfl) (by kernel_rfl) (fun _ _ _ h => h) (Or.inl ⟨by kernel_rfl, by (intro wz hSz; go_simp; try with_reducible rfl)⟩) hS35c ?_
        go_simp
        refine wpAnyH_take (i := 7) (v := undef) rfl (by kernel_rfl) (by kernel_rfl) (by kernel_rfl) (fun _ _ _ h => h) (Or.inr ⟨by kernel_rfl, rfl⟩) hS35c ?_
        go_simp
        refine wpAnyH_take (i := 8) (v := undef) rfl (by kernel_rfl) (by kernel_rfl) (by kernel_rfl) (fun _ _ _ h => h) (Or.inr ⟨by kernel_rfl, rfl⟩) hS35c ?_
        go_simp
        refine wpAnyH_take (i := 9) (v := undef) rfl (by kernel_rfl) (by kernel_rfl) (by kernel_rfl) (fun _ _ _ h => h) (Or.inr ⟨by kernel_rfl, rfl⟩) hS35c ?_
        go_simp
        refine wpAnyH_take (i := 10) (v := undef) rfl (by kernel_rfl) (by kernel_rfl) (by kernel_rfl) (fun _ _ _ h => h) (Or.inr ⟨by kernel_rfl, rfl⟩) hS35c ?_
        go_simp
        refine wpAnyH_take (i := 11) (v := undef) rfl (by kernel_rfl) (by kernel_rfl) (by kernel_rfl) (fun _ _ _ h => h) (Or.inr ⟨by kernel_rfl, rfl⟩) hS35c ?_
        go_simp
        refine wpAnyH_take (i := 12) (v := ?_) rfl (by kernel_rfl) (by kernel_rfl) (by kernel_rfl) (fun _ _ _ h => h) (Or.inl ⟨by kernel_rfl, by (intro wz hSz; go_simp; try with_reducible rfl)⟩) hS35c ?_
        go_simp
        refine wpAnyH_take (i := 13) (v := ?_) rfl (by kernel_rfl) (by kernel_rfl) (by kernel_rfl) (fun _ _ _ h => h) (Or.inl ⟨by kernel_rfl, by (intro wz hSz; go_simp; try with_reducible rfl)⟩) hS35c ?_
        go_simp
        refine wpAnyH_take (i := 14) (v := ?_) rfl (by kernel_rfl) (by kernel_rfl) (by kernel_rfl) (fun _ _ _ h => h) (Or.inl ⟨by kernel_rfl, by (intro wz hSz; go_simp; try with_reducible rfl)⟩) hS35c ?_
        go_simp
        refine wpAnyH_done (by kernel_rfl) ?_ _
        go_wp2_with fail
        all_goals first
         | (exfalso; omega)
         | (go_ret; exact ⟨rfl, HU35.out⟩)
       ·
        have dk : decide ((0 : Int) < (kk : Int)) = false := decide_eq_false (by omega)
        have HSAME := Lib.hid (show ∀ j, j < nl * 3 → LB j = L j from fun j hj => by rw [HLB.out]; exact blend_none (⟨W, H, nl, nd, nn, nb, ns, nf, L, D, N, B, S, F⟩ : Flm) (⟨W2, H2, nl2, nd2, nn2, nb2, ns2, nf2, L2, D2, N2, B2, S2, F2⟩ : Flm) nl (by have h1 := hkk; have h2 : keptN (⟨W, H, nl, nd, nn, nb, ns, nf, L, D, N, B, S, F⟩ : Flm) (⟨W2, H2, nl2, nd2, nn2, nb2, ns2, nf2, L2, D2, N2, B2, S2, F2⟩ : Flm) nl = keptN (⟨W, H, nl, nd, nn, nb, ns, nf, L, D, N, B, S, F⟩ : Flm) (⟨W2, H2, nl2, nd2, nn2, nb2, ns2, nf2, L2, D2, N2, B2, S2, F2⟩ : Flm) nf := congrArg _ HNL.out.2.1.symm; omega) L2 j hj)
        clear hkk
        refine wp_region_held_drew (S := fun y => y.heap[w.heap.size]? = some (.cells #[.int .i64 W, .int .i64 H, .slice al nl cl, .slice ad nd cd, .slice an nn cn, .slice ab nb cb, .slice ax ns cx, .slice af nf cf] 29 (0, 0)) ∧ y.heap[q1]? = some (.cells #[.int .i64 W, .int .i64 H, .slice al3 nl cl3, .slice ad3 nd cd3, .slice an3 nn cn3, .slice ab3 nb cb3, .slice ax3 ns cx3, .slice af3 nf cf3] 40 (0, 0)) ∧ y.heap[q2]? = some (.cells #[.int .i64 W2, .int .i64 H2, .slice al4 nl2 cl4, .slice ad4 nd2 cd4, .slice an4 nn2 cn4, .slice ab4 nb2 cb4, .slice ax4 ns2 cx4, .slice af4 nf2 cf4] 40 (0, 0)) ∧ y.heap[q3]? = some (.cells #[.int .i64 W, .int .i64 H, .slice a5 nl c5] 36 (0, 0))) (by kernel_rfl) (⟨hr32_0, hr32_2, hr32_3, hr32_4⟩) (fun hS0 => ?_)
        obtain ⟨y33, hy33⟩ : ∃ y, y32.drew = y := ⟨_, rfl⟩
        have HU33 := Lib.hid (show Below w.heap.size w y33 by rw [← hy33]; exact HU32.out.drew)
        have hr33_0 : y33.heap[w.heap.size]? = some (.cells #[.int .i64 W, .int .i64 H, .slice al nl cl, .slice ad nd cd, .slice an nn cn, .slice ab nb cb, .slice ax ns cx, .slice af nf cf] 29 (0, 0)) := by rw [← hy33]; exact hr32_0
        have hr33_1 : y33.heap[w.heap.size + 1]? = some (.cells #[.int .i64 W2, .int .i64 H2, .slice al2 nl2 cl2, .slice ad2 nd2 cd2, .slice an2 nn2 cn2, .slice ab2 nb2 cb2, .slice ax2 ns2 cx2, .slice af2 nf2 cf2] 29 (0, 0)) := by rw [← hy33]; exact hr32_1
        have hr33_2 : y33.heap[q1]? = some (.cells #[.int .i64 W, .int .i64 H, .slice al3 nl cl3, .slice ad3 nd cd3, .slice an3 nn cn3, .slice ab3 nb cb3, .slice ax3 ns cx3, .slice af3 nf cf3] 40 (0, 0)) := by rw [← hy33]; exact hr32_2
        have hr33_3 : y33.heap[q2]? = some (.cells #[.int .i64 W2, .int .i64 H2, .slice al4 nl2 cl4, .slice ad4 nd2 cd4, .slice an4 nn2 cn4, .slice ab4 nb2 cb4, .slice ax4 ns2 cx4, .slice af4 nf2 cf4] 40 (0, 0)) := by rw [← hy33]; exact hr32_3
        have hr33_4 : y33.heap[q3]? = some (.cells #[.int .i64 W, .int .i64 H, .slice a5 nl c5] 36 (0, 0)) := by rw [← hy33]; exact hr32_4
        have hz33 : y32.heap.size ≤ y33.heap.size := by rw [← hy33]; exact Nat.le_refl _
        have HF33 := Lib.hid (show FAt y33 (⟨W, H, nl, nd, nn, nb, ns, nf, L, D, N, B, S, F⟩ : Flm) (⟨al3, cl3, ad3, cd3, an3, cn3, ab3, cb3, ax3, cx3, af3, cf3⟩ : Pl) by rw [← hy33]; exact HF32.out.on (Below.refl _ _).drew)
        have HG33 := Lib.hid (show FAt y33 (⟨W2, H2, nl2, nd2, nn2, nb2, ns2, nf2, L2, D2, N2, B2, S2, F2⟩ : Flm) (⟨al4, cl4, ad4, cd4, an4, cn4, ab4, cb4, ax4, cx4, af4, cf4⟩ : Pl) by rw [← hy33]; exact HG32.out.on (Below.refl _ _).drew)
        have HR33 := Lib.hid (show Rw 3 y33 a5 nl LB by rw [← hy33]; exact HR32.out.on (Below.refl _ _).drew)
        have HT33 := Lib.hid (show Rw 3 y33 a6 nl LB by rw [← hy33]; exact HT32.out.on (Below.refl _ _).drew)
        rw [hy33] at hS0 ⊢
        clear hy33
        refine wpAnyH_ready (rs := [0]) (by kernel_rfl) (by simp) ?_
        refine AllReadyH.cons rfl (fun K hK => ?_) AllReadyH.nil
        go_simp
        go_wp2_with (go_at_call 6; refine (wawake_any _).mono ?_; rintro e y34 ⟨rfl, hb34⟩)
        have hr34_0 := (hb34.block _ (lt_heap hr33_0)).trans hr33_0
        have hr34_1 := (hb34.block _ (lt_heap hr33_1)).trans hr33_1
        have hr34_2 := (hb34.block _ (lt_heap hr33_2)).trans hr33_2
        have hr34_3 := (hb34.block _ (lt_heap hr33_3)).trans hr33_3
        have hr34_4 := (hb34.block _ (lt_heap hr33_4)).trans hr33_4
        have HU34 := Lib.hid (HU33.out.trans (hb34.mono HU33.out.size))
        have HF34 := Lib.hid (HF33.out.on hb34)
        have HG34 := Lib.hid (HG33.out.on hb34)
        have HR34 := Lib.hid (HR33.out.on hb34)
        have HT34 := Lib.hid (HT33.out.on hb34)
        have hz34 := hb34.size
        refine hK.out _ _ (⟨(hb34.block _ (lt_heap hS0.1)).trans hS0.1, (hb34.block _ (lt_heap hS0.2.1)).trans hS0.2.1, (hb34.block _ (lt_heap hS0.2.2.1)).trans hS0.2.2.1, (hb34.block _ (lt_heap hS0.2.2.2)).trans hS0.2.2.2⟩) (fun hS34c => ?_)
        clear hK K
        refine wpAnyH_take (i := 1) (v := ?_) rfl (by kernel_rfl) (by kernel_rfl) (by kernel_rfl) (fun _ _ _ h => h) (Or.inl ⟨by kernel_rfl, by (intro wz hSz; go_simp; try with_reducible rfl)⟩) hS34c ?_
        go_simp
        refine wpAnyH_take (i := 2) (v := ?_) rfl (by kernel_rfl) (by kernel_rfl) (by kernel_rfl) (fun _ _ _ h => h) (Or.inl ⟨by kernel_rfl, by (intro wz hSz; have c0_0 := cell_of_row _ _ 0 _ _ _ hSz.1; have c0_1 := cell_of_row _ _ 1 _ _ _ hSz.1; have c0_2 := cell_of_row _ _ 2 _ _ _ hSz.1; have c0_3 := cell_of_row _ _ 3 _ _ _ hSz.1; have c0_4 := cell_of_row _ _ 4 _ _ _ hSz.1; have c0_5 := cell_of_row _ _ 5 _ _ _ hSz.1; have c0_6 := cell_of_row _ _ 6 _ _ _ hSz.1; have c0_7 := cell_of_row _ _ 7 _ _ _ hSz.1; have c2_0 := cell_of_row _ _ 0 _ _ _ hSz.2.1; have c2_1 := cell_of_row _ _ 1 _ _ _ hSz.2.1; have c2_2 := cell_of_row _ _ 2 _ _ _ hSz.2.1; have c2_3 := cell_of_row _ _ 3 _ _ _ hSz.2.1; have c2_4 := cell_of_row _ _ 4 _ _ _ hSz.2.1; have c2_5 := cell_of_row _ _ 5 _ _ _ hSz.2.1; have c2_6 := cell_of_row _ _ 6 _ _ _ hSz.2.1; have c2_7 := cell_of_row _ _ 7 _ _ _ hSz.2.1; have c3_0 := cell_of_row _ _ 0 _ _ _ hSz.2.2.1; have c3_1 := cell_of_row _ _ 1 _ _ _ hSz.2.2.1; have c3_2 := cell_of_row _ _ 2 _ _ _ hSz.2.2.1; have c3_3 := cell_of_row _ _ 3 _ _ _ hSz.2.2.1; have c3_4 := cell_of_row _ _ 4 _ _ _ hSz.2.2.1; have c3_5 := cell_of_row _ _ 5 _ _ _ hSz.2.2.1; have c3_6 := cell_of_row _ _ 6 _ _ _ hSz.2.2.1; have c3_7 := cell_of_row _ _ 7 _ _ _ hSz.2.2.1; have c4_0 := cell_of_row _ _ 0 _ _ _ hSz.2.2.2; have c4_1 := cell_of_row _ _ 1 _ _ _ hSz.2.2.2; have c4_2 := cell_of_row _ _ 2 _ _ _ hSz.2.2.2; simp at c0_0 c0_1 c0_2 c0_3 c0_4 c0_5 c0_6 c0_7 c2_0 c2_1 c2_2 c2_3 c2_4 c2_5 c2_6 c2_7 c3_0 c3_1 c3_2 c3_3 c3_4 c3_5 c3_6 c3_7 c4_0 c4_1 c4_2; go_simp; try with_reducible rfl)⟩) hS34c ?_
        go_simp
        refine wpAnyH_take (i := 3) (v := ?_) rfl (by kernel_rfl) (by kernel_rfl) (by kernel_rfl) (fun _ _ _ h => h) (Or.inl ⟨by kernel_rfl, by (intro wz hSz; have c0_0 := cell_of_row _ _ 0 _ _ _ hSz.1; have c0_1 := cell_of_row _ _ 1 _ _ _ hSz.1; have c0_2 := cell_of_row _ _ 2 _ _ _ hSz.1; have c0_3 := cell_of_row _ _ 3 _ _ _ hSz.1; have c0_4 := cell_of_row _ _ 4 _ _ _ hSz.1; have c0_5 := cell_of_row _ _ 5 _ _ _ hSz.1; have c0_6 := cell_of_row _ _ 6 _ _ _ hSz.1; have c0_7 := cell_of_row _ _ 7 _ _ _ hSz.1; have c2_0 := cell_of_row _ _ 0 _ _ _ hSz.2.1; have c2_1 := cell_of_row _ _ 1 _ _ _ hSz.2.1; have c2_2 := cell_of_row _ _ 2 _ _ _ hSz.2.1; have c2_3 := cell_of_row _ _ 3 _ _ _ hSz.2.1; have c2_4 := cell_of_row _ _ 4 _ _ _ hSz.2.1; have c2_5 := cell_of_row _ _ 5 _ _ _ hSz.2.1; have c2_6 := cell_of_row _ _ 6 _ _ _ hSz.2.1; have c2_7 := cell_of_row _ _ 7 _ _ _ hSz.2.1; have c3_0 := cell_of_row _ _ 0 _ _ _ hSz.2.2.1; have c3_1 := cell_of_row _ _ 1 _ _ _ hSz.2.2.1; have c3_2 := cell_of_row _ _ 2 _ _ _ hSz.2.2.1; have c3_3 := cell_of_row _ _ 3 _ _ _ hSz.2.2.1; have c3_4 := cell_of_row _ _ 4 _ _ _ hSz.2.2.1; have c3_5 := cell_of_row _ _ 5 _ _ _ hSz.2.2.1; have c3_6 := cell_of_row _ _ 6 _ _ _ hSz.2.2.1; have c3_7 := cell_of_row _ _ 7 _ _ _ hSz.2.2.1; have c4_0 := cell_of_row _ _ 0 _ _ _ hSz.2.2.2; have c4_1 := cell_of_row _ _ 1 _ _ _ hSz.2.2.2; have c4_2 := cell_of_row _ _ 2 _ _ _ hSz.2.2.2; simp at c0_0 c0_1 c0_2 c0_3 c0_4 c0_5 c0_6 c0_7 c2_0 c2_1 c2_2 c2_3 c2_4 c2_5 c2_6 c2_7 c3_0 c3_1 c3_2 c3_3 c3_4 c3_5 c3_6 c3_7 c4_0 c4_1 c4_2; go_simp; try with_reducible rfl)⟩) hS34c ?_
        go_simp
        refine wpAnyH_ready (rs := [4]) (by kernel_rfl) (by simp) ?_
        refine AllReadyH.cons rfl (fun K hK => ?_) AllReadyH.nil
        go_simp
        go_wp2_with (go_at_call 15; refine (HKP.out _ HF34.out HG34.out).mono ?_; rintro e y35 ⟨rfl, hb35⟩)
        have hr35_0 := (hb35.block _ (lt_heap hr34_0)).trans hr34_0
        have hr35_1 := (hb35.block _ (lt_heap hr34_1)).trans hr34_1
        have hr35_2 := (hb35.block _ (lt_heap hr34_2)).trans hr34_2
        have hr35_3 := (hb35.block _ (lt_heap hr34_3)).trans hr34_3
        have hr35_4 := (hb35.block _ (lt_heap hr34_4)).trans hr34_4
        have HU35 := Lib.hid (HU34.out.trans (hb35.mono HU34.out.size))
        have HF35 := Lib.hid (HF34.out.on hb35)
        have HG35 := Lib.hid (HG34.out.on hb35)
        have HR35 := Lib.hid (HR34.out.on hb35)
        have HT35 := Lib.hid (HT34.out.on hb35)
        have hz35 := hb35.size
        refine hK.out _ _ (⟨(hb35.block _ (lt_heap hS34c.1)).trans hS34c.1, (hb35.block _ (lt_heap hS34c.2.1)).trans hS34c.2.1, (hb35.block _ (lt_heap hS34c.2.2.1)).trans hS34c.2.2.1, (hb35.block _ (lt_heap hS34c.2.2.2)).trans hS34c.2.2.2⟩) (fun hS35c => ?_)
        clear hK K
        refine wpAnyH_take (i := 5) (v := ?_) rfl (by kernel_rfl) (by kernel_rfl) (by kernel_rfl) (fun _ _ _ h => h) (Or.inl ⟨by kernel_rfl, by (intro wz hSz; go_simp; try with_reducible rfl)⟩) hS35c ?_
        go_simp
        refine wpAnyH_take (i := 6) (v := ?_) rfl (by kernel_rfl) (by kernel_rfl) (by kernel_rfl) (fun _ _ _ h => h) (Or.inl ⟨by kernel_rfl, by (intro wz hSz; go_simp; try with_reducible rfl)⟩) hS35c ?_
        go_simp
        refine wpAnyH_take (i := 7) (v := ?_) rfl (by kernel_rfl) (by kernel_rfl) (by kernel_rfl) (fun _ _ _ h => h) (Or.inl ⟨by kernel_rfl, by (intro wz hSz; have c0_0 := cell_of_row _ _ 0 _ _ _ hSz.1; have c0_1 := cell_of_row _ _ 1 _ _ _ hSz.1; have c0_2 := cell_of_row _ _ 2 _ _ _ hSz.1; have c0_3 := cell_of_row _ _ 3 _ _ _ hSz.1; have c0_4 := cell_of_row _ _ 4 _ _ _ hSz.1; have c0_5 := cell_of_row _ _ 5 _ _ _ hSz.1; have c0_6 := cell_of_row _ _ 6 _ _ _ hSz.1; have c0_7 := cell_of_row _ _ 7 _ _ _ hSz.1; have c2_0 := cell_of_row _ _ 0 _ _ _ hSz.2.1; have c2_1 := cell_of_row _ _ 1 _ _ _ hSz.2.1; have c2_2 := cell_of_row _ _ 2 _ _ _ hSz.2.1; have c2_3 := cell_of_row _ _ 3 _ _ _ hSz.2.1; have c2_4 := cell_of_row _ _ 4 _ _ _ hSz.2.1; have c2_5 := cell_of_row _ _ 5 _ _ _ hSz.2.1; have c2_6 := cell_of_row _ _ 6 _ _ _ hSz.2.1; have c2_7 := cell_of_row _ _ 7 _ _ _ hSz.2.1; have c3_0 := cell_of_row _ _ 0 _ _ _ hSz.2.2.1; have c3_1 := cell_of_row _ _ 1 _ _ _ hSz.2.2.1; have c3_2 := cell_of_row _ _ 2 _ _ _ hSz.2.2.1; have c3_3 := cell_of_row _ _ 3 _ _ _ hSz.2.2.1; have c3_4 := cell_of_row _ _ 4 _ _ _ hSz.2.2.1; have c3_5 := cell_of_row _ _ 5 _ _ _ hSz.2.2.1; have c3_6 := cell_of_row _ _ 6 _ _ _ hSz.2.2.1; have c3_7 := cell_of_row _ _ 7 _ _ _ hSz.2.2.1; have c4_0 := cell_of_row _ _ 0 _ _ _ hSz.2.2.2; have c4_1 := cell_of_row _ _ 1 _ _ _ hSz.2.2.2; have c4_2 := cell_of_row _ _ 2 _ _ _ hSz.2.2.2; simp at c0_0 c0_1 c0_2 c0_3 c0_4 c0_5 c0_6 c0_7 c2_0 c2_1 c2_2 c2_3 c2_4 c2_5 c2_6 c2_7 c3_0 c3_1 c3_2 c3_3 c3_4 c3_5 c3_6 c3_7 c4_0 c4_1 c4_2; go_simp; try with_reducible rfl)⟩) hS35c ?_
        go_simp
        refine wpAnyH_take (i := 9) (v := ?_) rfl (by kernel_rfl) (by kernel_rfl) (by kernel_rfl) (fun _ _ _ h => h) (Or.inl ⟨by kernel_rfl, by (intro wz hSz; go_simp; try with_reducible rfl)⟩) hS35c ?_
        go_simp
        refine wpAnyH_take (i := 10) (v := ?_) rfl (by kernel_rfl) (by kernel_rfl) (by kernel_rfl) (fun _ _ _ h => h) (Or.inl ⟨by kernel_rfl, by (intro wz hSz; have c0_0 := cell_of_row _ _ 0 _ _ _ hSz.1; have c0_1 := cell_of_row _ _ 1 _ _ _ hSz.1; have c0_2 := cell_of_row _ _ 2 _ _ _ hSz.1; have c0_3 := cell_of_row _ _ 3 _ _ _ hSz.1; have c0_4 := cell_of_row _ _ 4 _ _ _ hSz.1; have c0_5 := cell_of_row _ _ 5 _ _ _ hSz.1; have c0_6 := cell_of_row _ _ 6 _ _ _ hSz.1; have c0_7 := cell_of_row _ _ 7 _ _ _ hSz.1; have c2_0 := cell_of_row _ _ 0 _ _ _ hSz.2.1; have c2_1 := cell_of_row _ _ 1 _ _ _ hSz.2.1; have c2_2 := cell_of_row _ _ 2 _ _ _ hSz.2.1; have c2_3 := cell_of_row _ _ 3 _ _ _ hSz.2.1; have c2_4 := cell_of_row _ _ 4 _ _ _ hSz.2.1; have c2_5 := cell_of_row _ _ 5 _ _ _ hSz.2.1; have c2_6 := cell_of_row _ _ 6 _ _ _ hSz.2.1; have c2_7 := cell_of_row _ _ 7 _ _ _ hSz.2.1; have c3_0 := cell_of_row _ _ 0 _ _ _ hSz.2.2.1; have c3_1 := cell_of_row _ _ 1 _ _ _ hSz.2.2.1; have c3_2 := cell_of_row _ _ 2 _ _ _ hSz.2.2.1; have c3_3 := cell_of_row _ _ 3 _ _ _ hSz.2.2.1; have c3_4 := cell_of_row _ _ 4 _ _ _ hSz.2.2.1; have c3_5 := cell_of_row _ _ 5 _ _ _ hSz.2.2.1; have c3_6 := cell_of_row _ _ 6 _ _ _ hSz.2.2.1; have c3_7 := cell_of_row _ _ 7 _ _ _ hSz.2.2.1; have c4_0 := cell_of_row _ _ 0 _ _ _ hSz.2.2.2; have c4_1 := cell_of_row _ _ 1 _ _ _ hSz.2.2.2; have c4_2 := cell_of_row _ _ 2 _ _ _ hSz.2.2.2; simp at c0_0 c0_1 c0_2 c0_3 c0_4 c0_5 c0_6 c0_7 c2_0 c2_1 c2_2 c2_3 c2_4 c2_5 c2_6 c2_7 c3_0 c3_1 c3_2 c3_3 c3_4 c3_5 c3_6 c3_7 c4_0 c4_1 c4_2; go_simp; try with_reducible rfl)⟩) hS35c ?_
        go_simp
        refine wpAnyH_ready (rs := [8]) (by kernel_rfl) (by simp) ?_
        refine AllReadyH.cons rfl (fun K hK => ?_) AllReadyH.nil
        go_simp
        go_wp2_with (go_at_call 14; refine (fromsheet_any W H a5 nl c5 LB _ HR35.out hnl24).mono ?_; rintro e y36 ⟨⟨a9, c9, rfl, hft⟩, hb36⟩)
        have hr36_0 := (hb36.block _ (lt_heap hr35_0)).trans hr35_0
        have hr36_1 := (hb36.block _ (lt_heap hr35_1)).trans hr35_1
        have hr36_2 := (hb36.block _ (lt_heap hr35_2)).trans hr35_2
        have hr36_3 := (hb36.block _ (lt_heap hr35_3)).trans hr35_3
        have hr36_4 := (hb36.block _ (lt_heap hr35_4)).trans hr35_4
        have HU36 := Lib.hid (HU35.out.trans (hb36.mono HU35.out.size))
        have HF36 := Lib.hid (HF35.out.on hb36)
        have HG36 := Lib.hid (HG35.out.on hb36)
        have HR36 := Lib.hid (HR35.out.on hb36)
        have HT36 := Lib.hid (HT35.out.on hb36)
        have hz36 := hb36.size
        have HQ36 := Lib.hid (Rw.congr (hft.rw (by decide)) HSAME.out)
        refine hK.out _ _ (⟨(hb36.block _ (lt_heap hS35c.1)).trans hS35c.1, (hb36.block _ (lt_heap hS35c.2.1)).trans hS35c.2.1, (hb36.block _ (lt_heap hS35c.2.2.1)).trans hS35c.2.2.1, (hb36.block _ (lt_heap hS35c.2.2.2)).trans hS35c.2.2.2⟩) (fun hS36c => ?_)
        clear hK K
        refine wpAnyH_ready (rs := [11]) (by kernel_rfl) (by simp) ?_
        refine AllReadyH.cons rfl (fun K hK => ?_) AllReadyH.nil
        go_simp
        go_wp2_with (go_at_call 13; refine (samesheet_any W H nl a9 al c9 cl L _ HQ36.out (HC.out.at_.l.on HU36.out) hnl1).mono ?_; rintro e y37 ⟨rfl, hb37⟩)
        have hr37_0 := (hb37.block _ (lt_heap hr36_0)).trans hr36_0
        have hr37_1 := (hb37.block _ (lt_heap hr36_1)).trans hr36_1
        have hr37_2 := (hb37.block _ (lt_heap hr36_2)).trans hr36_2
        have hr37_3 := (hb37.block _ (lt_heap hr36_3)).trans hr36_3
        have hr37_4 := (hb37.block _ (lt_heap hr36_4)).trans hr36_4
        have HU37 := Lib.hid (HU36.out.trans (hb37.mono HU36.out.size))
        have HF37 := Lib.hid (HF36.out.on hb37)
        have HG37 := Lib.hid (HG36.out.on hb37)
        have HR37 := Lib.hid (HR36.out.on hb37)
        have HT37 := Lib.hid (HT36.out.on hb37)
        have HQ37 := Lib.hid (HQ36.out.on hb37)
        have hz37 := hb37.size
        refine hK.out _ _ (⟨(hb37.block _ (lt_heap hS36c.1)).trans hS36c.1, (hb37.block _ (lt_heap hS36c.2.1)).trans hS36c.2.1, (hb37.block _ (lt_heap hS36c.2.2.1)).trans hS36c.2.2.1, (hb37.block _ (lt_heap hS36c.2.2.2)).trans hS36c.2.2.2⟩) (fun hS37c => ?_)
        clear hK K
        refine wpAnyH_take (i := 12) (v := ?_) rfl (by kernel_rfl) (by kernel_rfl) (by kernel_rfl) (fun _ _ _ h => h) (Or.inl ⟨by kernel_rfl, by (intro wz hSz; go_simp; try with_reducible rfl)⟩) hS37c ?_
        go_simp
        refine wpAnyH_take (i := 13) (v := ?_) rfl (by kernel_rfl) (by kernel_rfl) (by kernel_rfl) (fun _ _ _ h => h) (Or.inl ⟨by kernel_rfl, by (intro wz hSz; go_simp; try with_reducible rfl)⟩) hS37c ?_
        go_simp
        refine wpAnyH_take (i := 14) (v := ?_) rfl (by kernel_rfl) (by kernel_rfl) (by kernel_rfl) (fun _ _ _ h => h) (Or.inl ⟨by kernel_rfl, by (intro wz hSz; go_simp; try with_reducible rfl)⟩) hS37c ?_
        go_simp
        refine wpAnyH_done (by kernel_rfl) ?_ _
        go_wp2_with fail
        all_goals first
         | (exfalso; omega)
         | (go_ret; exact ⟨rfl, HU37.out⟩)

theorem walk (f g : Flm) (p q : Pl) (w : World) (hc : Came w f p) (hc2 : Came w g q) : Calls Try.prog 4 #[.agg (FC f p), .agg (FC g q)] w fun e' w' => e' = .returned (.bool true) ∧ Below w.heap.size w w' := by
 obtain ⟨W, H, nl, nd, nn, nb, ns, nf, L, D, N, B, S, F⟩ := f
 obtain ⟨al, cl, ad, cd, an, cn, ab, cb, ax, cx, af, cf⟩ := p
 obtain ⟨W2, H2, nl2, nd2, nn2, nb2, ns2, nf2, L2, D2, N2, B2, S2, F2⟩ := g
 obtain ⟨al2, cl2, ad2, cd2, an2, cn2, ab2, cb2, ax2, cx2, af2, cf2⟩ := q
 by_cases k0 : 5000 < nl
 ·
  exact big_0 W H al ad an ab ax af cl cd cn cb cx cf nl nd nn nb ns nf L D N B S F W2 H2 al2 ad2 an2 ab2 ax2 af2 cl2 cd2 cn2 cb2 cx2 cf2 nl2 nd2 nn2 nb2 ns2 nf2 L2 D2 N2 B2 S2 F2 w hc hc2 k0
 by_cases k1 : 5000 < ns
 ·
  exact big_1 W H al ad an ab ax af cl cd cn cb cx cf nl nd nn nb ns nf L D N B S F W2 H2 al2 ad2 an2 ab2 ax2 af2 cl2 cd2 cn2 cb2 cx2 cf2 nl2 nd2 nn2 nb2 ns2 nf2 L2 D2 N2 B2 S2 F2 w hc hc2 k0 k1
 by_cases k2 : 5000 < nf
 ·
  exact big_2 W H al ad an ab ax af cl cd cn cb cx cf nl nd nn nb ns nf L D N B S F W2 H2 al2 ad2 an2 ab2 ax2 af2 cl2 cd2 cn2 cb2 cx2 cf2 nl2 nd2 nn2 nb2 ns2 nf2 L2 D2 N2 B2 S2 F2 w hc hc2 k0 k1 k2
 by_cases k3 : 5000 < nl2
 ·
  exact big_3 W H al ad an ab ax af cl cd cn cb cx cf nl nd nn nb ns nf L D N B S F W2 H2 al2 ad2 an2 ab2 ax2 af2 cl2 cd2 cn2 cb2 cx2 cf2 nl2 nd2 nn2 nb2 ns2 nf2 L2 D2 N2 B2 S2 F2 w hc hc2 k0 k1 k2 k3
 by_cases k4 : 5000 < ns2
 ·
  exact big_4 W H al ad an ab ax af cl cd cn cb cx cf nl nd nn nb ns nf L D N B S F W2 H2 al2 ad2 an2 ab2 ax2 af2 cl2 cd2 cn2 cb2 cx2 cf2 nl2 nd2 nn2 nb2 ns2 nf2 L2 D2 N2 B2 S2 F2 w hc hc2 k0 k1 k2 k3 k4
 by_cases k5 : 5000 < nf2
 ·
  exact big_5 W H al ad an ab ax af cl cd cn cb cx cf nl nd nn nb ns nf L D N B S F W2 H2 al2 ad2 an2 ab2 ax2 af2 cl2 cd2 cn2 cb2 cx2 cf2 nl2 nd2 nn2 nb2 ns2 nf2 L2 D2 N2 B2 S2 F2 w hc hc2 k0 k1 k2 k3 k4 k5
 have hiff : bOK (⟨W, H, nl, nd, nn, nb, ns, nf, L, D, N, B, S, F⟩ : Flm) (⟨W2, H2, nl2, nd2, nn2, nb2, ns2, nf2, L2, D2, N2, B2, S2, F2⟩ : Flm) W2 H2 nl2 ↔ okF (⟨W, H, nl, nd, nn, nb, ns, nf, L, D, N, B, S, F⟩ : Flm) ∧ okF (⟨W2, H2, nl2, nd2, nn2, nb2, ns2, nf2, L2, D2, N2, B2, S2, F2⟩ : Flm) := ⟨fun k => ⟨k.1, k.2.1⟩, fun k => ⟨k.1, k.2, k.2.1, rfl, rfl⟩⟩
 exact go_on W H al ad an ab ax af cl cd cn cb cx cf nl nd nn nb ns nf L D N B S F W2 H2 al2 ad2 an2 ab2 ax2 af2 cl2 cd2 cn2 cb2 cx2 cf2 nl2 nd2 nn2 nb2 ns2 nf2 L2 D2 N2 B2 S2 F2 w hc hc2 k0 k1 k2 k3 k4 k5 (bW (⟨W, H, nl, nd, nn, nb, ns, nf, L, D, N, B, S, F⟩ : Flm) (⟨W2, H2, nl2, nd2, nn2, nb2, ns2, nf2, L2, D2, N2, B2, S2, F2⟩ : Flm) W2 H2 nl2) (bH (⟨W, H, nl, nd, nn, nb, ns, nf, L, D, N, B, S, F⟩ : Flm) (⟨W2, H2, nl2, nd2, nn2, nb2, ns2, nf2, L2, D2, N2, B2, S2, F2⟩ : Flm) W2 H2 nl2) (bE (⟨W, H, nl, nd, nn, nb, ns, nf, L, D, N, B, S, F⟩ : Flm) (⟨W2, H2, nl2, nd2, nn2, nb2, ns2, nf2, L2, D2, N2, B2, S2, F2⟩ : Flm) W2 H2 nl2) (bN (⟨W, H, nl, nd, nn, nb, ns, nf, L, D, N, B, S, F⟩ : Flm) (⟨W2, H2, nl2, nd2, nn2, nb2, ns2, nf2, L2, D2, N2, B2, S2, F2⟩ : Flm) W2 H2 nl2) (blend (⟨W, H, nl, nd, nn, nb, ns, nf, L, D, N, B, S, F⟩ : Flm) (⟨W2, H2, nl2, nd2, nn2, nb2, ns2, nf2, L2, D2, N2, B2, S2, F2⟩ : Flm) L2) rfl (fun h => if_neg (fun k => h (hiff.1 k))) (fun h => ⟨if_pos (hiff.2 h), if_pos (hiff.2 h), if_pos (hiff.2 h), if_pos (hiff.2 h)⟩) (fun W' p q am cm h1 h2 h3 => blend_all _ _ p q W2 H2 am nl2 cm L2 W' h1 h2 h3)

end Go.Proofs.Ytgpbnpnnbipfpaa.warpBetweenW
