/- FilmRights: the walk. -/
import Derived.Test.YtgkfoiekminfmaaFf
import Derived.Test.YtgkfoiekminfmaaFc
import Derived.Test.YtgkfoiekminfmaaFh
import Derived.Test.YtgkfoiekminfmaaFn
namespace Go.Proofs.Ytgkfoiekminfmaa.filmRightsW
open Go Go.RowKit Go.Proofs.Ytgkfoiekminfmaa Go.Proofs.Ytgkfoiekminfmaa.Rp Go.Proofs.Ytgkfoiekminfmaa.Re Go.Proofs.Ytgkfoiekminfmaa.Au Go.Proofs.Ytgkfoiekminfmaa.Jw Go.Proofs.Ytgkfoiekminfmaa.Fm
set_option linter.unusedVariables false
set_option linter.unusedSimpArgs false

set_option maxHeartbeats 16000000 in
set_option maxRecDepth 100000 in
theorem big_l (W H : Int) (al ad an ab ax af : Option Addr) (cl cd cn cb cx cf nl nd nn nb ns nf : Nat) (L D N B S F : Nat → Int) (w : World) (hc : Came w (⟨W, H, nl, nd, nn, nb, ns, nf, L, D, N, B, S, F⟩ : Flm) (⟨al, cl, ad, cd, an, cn, ab, cb, ax, cx, af, cf⟩ : Pl)) (k1 : 5000 < nl) : Calls Try.prog 3 #[.agg #[.int .i64 W, .int .i64 H, .slice al nl cl, .slice ad nd cd, .slice an nn cn, .slice ab nb cb, .slice ax ns cx, .slice af nf cf]] w fun e' w' => e' = .returned (.bool true) ∧ Below w.heap.size w w' := by
  have HC := Lib.hid hc
  clear hc
  have d1 := decide_eq_true (show (5000 : Int) < (nl : Int) by omega)
  go_enter Try.func3, Try.ntmps3
  go_upto_region 1 with fail
  have hR := Au.rows1 w (.cells #[.int .i64 W, .int .i64 H, .slice al nl cl, .slice ad nd cd, .slice an nn cn, .slice ab nb cb, .slice ax ns cx, .slice af nf cf] 29)
  have HUx := Ve.below_n1 w (.cells #[.int .i64 W, .int .i64 H, .slice al nl cl, .slice ad nd cd, .slice an nn cn, .slice ab nb cb, .slice ax ns cx, .slice af nf cf] 29)
  obtain ⟨y0, hy0⟩ : ∃ y0, w.alloc (.cells #[.int .i64 W, .int .i64 H, .slice al nl cl, .slice ad nd cd, .slice an nn cn, .slice ab nb cb, .slice ax ns cx, .slice af nf cf] 29) = y0 := ⟨_, rfl⟩
  rw [hy0] at hR HUx ⊢
  clear hy0
  have HU0 := Lib.hid HUx
  clear HUx
  have hr0_0 := hR
  clear hR
  have c0_0 := cell_of_row _ _ 0 _ _ _ hr0_0
  have c0_1 := cell_of_row _ _ 1 _ _ _ hr0_0
  have c0_2 := cell_of_row _ _ 2 _ _ _ hr0_0
  have c0_3 := cell_of_row _ _ 3 _ _ _ hr0_0
  have c0_4 := cell_of_row _ _ 4 _ _ _ hr0_0
  have c0_5 := cell_of_row _ _ 5 _ _ _ hr0_0
  have c0_6 := cell_of_row _ _ 6 _ _ _ hr0_0
  have c0_7 := cell_of_row _ _ 7 _ _ _ hr0_0
  simp at c0_0 c0_1 c0_2 c0_3 c0_4 c0_5 c0_6 c0_7
  go_wp2_with fail
  refine (awake_any _).mono ?_
  rintro e y1 ⟨rfl, hb1⟩
  clear c0_0 c0_1 c0_2 c0_3 c0_4 c0_5 c0_6 c0_7
  have hr1_0 := (hb1.block _ (lt_heap hr0_0)).trans hr0_0
  have HU1 := Lib.hid (HU0.out.trans (hb1.mono HU0.out.size))
  clear hr0_0 HU0
  go_wp2
  go_ret
  exact ⟨rfl, HU1.out⟩

set_option maxHeartbeats 16000000 in
set_option maxRecDepth 100000 in
theorem big_s (W H : Int) (al ad an ab ax af : Option Addr) (cl cd cn cb cx cf nl nd nn nb ns nf : Nat) (L D N B S F : Nat → Int) (w : World) (hc : Came w (⟨W, H, nl, nd, nn, nb, ns, nf, L, D, N, B, S, F⟩ : Flm) (⟨al, cl, ad, cd, an, cn, ab, cb, ax, cx, af, cf⟩ : Pl)) (k1 : ¬ 5000 < nl) (k2 : 5000 < ns) : Calls Try.prog 3 #[.agg #[.int .i64 W, .int .i64 H, .slice al nl cl, .slice ad nd cd, .slice an nn cn, .slice ab nb cb, .slice ax ns cx, .slice af nf cf]] w fun e' w' => e' = .returned (.bool true) ∧ Below w.heap.size w w' := by
  have HC := Lib.hid hc
  clear hc
  have d1 := decide_eq_false (show ¬ (5000 : Int) < (nl : Int) by omega)
  have d2 := decide_eq_true (show (5000 : Int) < (ns : Int) by omega)
  go_enter Try.func3, Try.ntmps3
  go_upto_region 1 with fail
  have hR := Au.rows1 w (.cells #[.int .i64 W, .int .i64 H, .slice al nl cl, .slice ad nd cd, .slice an nn cn, .slice ab nb cb, .slice ax ns cx, .slice af nf cf] 29)
  have HUx := Ve.below_n1 w (.cells #[.int .i64 W, .int .i64 H, .slice al nl cl, .slice ad nd cd, .slice an nn cn, .slice ab nb cb, .slice ax ns cx, .slice af nf cf] 29)
  obtain ⟨y0, hy0⟩ : ∃ y0, w.alloc (.cells #[.int .i64 W, .int .i64 H, .slice al nl cl, .slice ad nd cd, .slice an nn cn, .slice ab nb cb, .slice ax ns cx, .slice af nf cf] 29) = y0 := ⟨_, rfl⟩
  rw [hy0] at hR HUx ⊢
  clear hy0
  have HU0 := Lib.hid HUx
  clear HUx
  have hr0_0 := hR
  clear hR
  have c0_0 := cell_of_row _ _ 0 _ _ _ hr0_0
  have c0_1 := cell_of_row _ _ 1 _ _ _ hr0_0
  have c0_2 := cell_of_row _ _ 2 _ _ _ hr0_0
  have c0_3 := cell_of_row _ _ 3 _ _ _ hr0_0
  have c0_4 := cell_of_row _ _ 4 _ _ _ hr0_0
  have c0_5 := cell_of_row _ _ 5 _ _ _ hr0_0
  have c0_6 := cell_of_row _ _ 6 _ _ _ hr0_0
  have c0_7 := cell_of_row _ _ 7 _ _ _ hr0_0
  simp at c0_0 c0_1 c0_2 c0_3 c0_4 c0_5 c0_6 c0_7
  go_wp2_with fail
  refine (awake_any _).mono ?_
  rintro e y1 ⟨rfl, hb1⟩
  clear c0_0 c0_1 c0_2 c0_3 c0_4 c0_5 c0_6 c0_7
  have hr1_0 := (hb1.block _ (lt_heap hr0_0)).trans hr0_0
  have HU1 := Lib.hid (HU0.out.trans (hb1.mono HU0.out.size))
  clear hr0_0 HU0
  go_wp2
  go_ret
  exact ⟨rfl, HU1.out⟩

set_option maxHeartbeats 16000000 in
set_option maxRecDepth 100000 in
theorem case_0 (W H : Int) (al ad an ab ax af : Option Addr) (cl cd cn cb cx cf nl nd nn nb ns nf : Nat) (L D N B S F : Nat → Int) (w : World) (hc : Came w (⟨W, H, nl, nd, nn, nb, ns, nf, L, D, N, B, S, F⟩ : Flm) (⟨al, cl, ad, cd, an, cn, ab, cb, ax, cx, af, cf⟩ : Pl)) (k1 : ¬ 5000 < nl) (k2 : ¬ 5000 < ns) (r2 r3 : Bool) (e1 : decide (okSz W H) = false) (e2 : decide (okSh W H nl) = r2) (e3 : decide (okF (⟨W, H, nl, nd, nn, nb, ns, nf, L, D, N, B, S, F⟩ : Flm)) = r3) : Calls Try.prog 3 #[.agg #[.int .i64 W, .int .i64 H, .slice al nl cl, .slice ad nd cd, .slice an nn cn, .slice ab nb cb, .slice ax ns cx, .slice af nf cf]] w fun e' w' => e' = .returned (.bool true) ∧ Below w.heap.size w w' := by
  have HC := Lib.hid hc
  clear hc
  have d1 := decide_eq_false (show ¬ (5000 : Int) < (nl : Int) by omega)
  have d2 := decide_eq_false (show ¬ (5000 : Int) < (ns : Int) by omega)
  have E1 := Lib.hid e1
  have E2 := Lib.hid e2
  have E3 := Lib.hid e3
  clear e1 e2 e3
  go_enter Try.func3, Try.ntmps3
  go_upto_region 1 with fail
  have hR := Au.rows1 w (.cells #[.int .i64 W, .int .i64 H, .slice al nl cl, .slice ad nd cd, .slice an nn cn, .slice ab nb cb, .slice ax ns cx, .slice af nf cf] 29)
  have HUx := Ve.below_n1 w (.cells #[.int .i64 W, .int .i64 H, .slice al nl cl, .slice ad nd cd, .slice an nn cn, .slice ab nb cb, .slice ax ns cx, .slice af nf cf] 29)
  obtain ⟨y0, hy0⟩ : ∃ y0, w.alloc (.cells #[.int .i64 W, .int .i64 H, .slice al nl cl, .slice ad nd cd, .slice an nn cn, .slice ab nb cb, .slice ax ns cx, .slice af nf cf] 29) = y0 := ⟨_, rfl⟩
  rw [hy0] at hR HUx ⊢
  clear hy0
  have HU0 := Lib.hid HUx
  clear HUx
  have hr0_0 := hR
  clear hR
  have c0_0 := cell_of_row _ _ 0 _ _ _ hr0_0
  have c0_1 := cell_of_row _ _ 1 _ _ _ hr0_0
  have c0_2 := cell_of_row _ _ 2 _ _ _ hr0_0
  have c0_3 := cell_of_row _ _ 3 _ _ _ hr0_0
  have c0_4 := cell_of_row _ _ 4 _ _ _ hr0_0
  have c0_5 := cell_of_row _ _ 5 _ _ _ hr0_0
  have c0_6 := cell_of_row _ _ 6 _ _ _ hr0_0
  have c0_7 := cell_of_row _ _ 7 _ _ _ hr0_0
  simp at c0_0 c0_1 c0_2 c0_3 c0_4 c0_5 c0_6 c0_7
  go_wp2_with fail
  refine (to_film (⟨W, H, nl, nd, nn, nb, ns, nf, L, D, N, B, S, F⟩ : Flm) (⟨al, cl, ad, cd, an, cn, ab, cb, ax, cx, af, cf⟩ : Pl) _ (HC.out.at_.on HU0.out) HC.out.bl HC.out.bd HC.out.bn HC.out.bb HC.out.bs HC.out.bf HC.out.ks HC.out.kf).mono ?_
  rintro e y1 ⟨⟨⟨al2, cl2, ad2, cd2, an2, cn2, ab2, cb2, ax2, cx2, af2, cf2⟩, rfl, hat⟩, hb1⟩
  clear c0_0 c0_1 c0_2 c0_3 c0_4 c0_5 c0_6 c0_7
  have hr1_0 := (hb1.block _ (lt_heap hr0_0)).trans hr0_0
  have HU1 := Lib.hid (HU0.out.trans (hb1.mono HU0.out.size))
  clear hr0_0 HU0
  have HAT1 := Lib.hid hat
  clear hat
  have c0_0 := cell_of_row _ _ 0 _ _ _ hr1_0
  have c0_1 := cell_of_row _ _ 1 _ _ _ hr1_0
  have c0_2 := cell_of_row _ _ 2 _ _ _ hr1_0
  have c0_3 := cell_of_row _ _ 3 _ _ _ hr1_0
  have c0_4 := cell_of_row _ _ 4 _ _ _ hr1_0
  have c0_5 := cell_of_row _ _ 5 _ _ _ hr1_0
  have c0_6 := cell_of_row _ _ 6 _ _ _ hr1_0
  have c0_7 := cell_of_row _ _ 7 _ _ _ hr1_0
  simp at c0_0 c0_1 c0_2 c0_3 c0_4 c0_5 c0_6 c0_7
  have HA := Lib.hid (heap_alloc_last y1 (.cells #[.int .i64 0, .int .i64 0, .slice none 0 0, .slice none 0 0, .slice none 0 0, .slice none 0 0, .slice none 0 0, .slice none 0 0] 39))
  have hHi := Lib.hid (show (Try.prog.info? 39).map (·.size) = some (#[.int .i64 W, .int .i64 H, .slice al2 nl cl2, .slice ad2 nd cd2, .slice an2 nn cn2, .slice ab2 nb cb2, .slice ax2 ns cx2, .slice af2 nf cf2] : Array Value).size by kernel_rfl)
  have hHz := Lib.hid (show (#[.int .i64 0, .int .i64 0, .slice none 0 0, .slice none 0 0, .slice none 0 0, .slice none 0 0, .slice none 0 0, .slice none 0 0] : Array Value).size = (#[.int .i64 W, .int .i64 H, .slice al2 nl cl2, .slice ad2 nd cd2, .slice an2 nn cn2, .slice ab2 nb cb2, .slice ax2 ns cx2, .slice af2 nf cf2] : Array Value).size from rfl)
  have hHo := Lib.hid (show (#[.int .i64 W, .int .i64 H, .slice al2 nl cl2, .slice ad2 nd cd2, .slice an2 nn cn2, .slice ab2 nb cb2, .slice ax2 ns cx2, .slice af2 nf cf2] : Array Value).all (·.oneCell') = true by simp [Value.oneCell'])
  go_upto_region 4 with (refine Au.wpList_store_row rfl 39 (.tmp 3) (.tmp 17) rfl (y1.alloc (.cells #[.int .i64 0, .int .i64 0, .slice none 0 0, .slice none 0 0, .slice none 0 0, .slice none 0 0, .slice none 0 0, .slice none 0 0] 39)) #[.int .i64 0, .int .i64 0, .slice none 0 0, .slice none 0 0, .slice none 0 0, .slice none 0 0, .slice none 0 0, .slice none 0 0] #[.int .i64 W, .int .i64 H, .slice al2 nl cl2, .slice ad2 nd cd2, .slice an2 nn cn2, .slice ab2 nb cb2, .slice ax2 ns cx2, .slice af2 nf cf2] (y1.heap.size) 39 HA.out rfl rfl hHi.out hHz.out hHo.out ?_)
  clear c0_0 c0_1 c0_2 c0_3 c0_4 c0_5 c0_6 c0_7
  clear hHi hHz hHo
  have hN := setRow_heap _ (y1.heap.size) _ #[.int .i64 W, .int .i64 H, .slice al2 nl cl2, .slice ad2 nd cd2, .slice an2 nn cn2, .slice ab2 nb cb2, .slice ax2 ns cx2, .slice af2 nf cf2] _ _ HA.out
  clear HA
  have hsz := HU1.out.size
  have hb := Ve.below_n1 y1 (.cells #[.int .i64 0, .int .i64 0, .slice none 0 0, .slice none 0 0, .slice none 0 0, .slice none 0 0, .slice none 0 0, .slice none 0 0] 39)
  have HUx := below_setRow (g := y1.heap.size) (HU1.out.trans (hb.mono HU1.out.size)) (by omega) #[.int .i64 W, .int .i64 H, .slice al2 nl cl2, .slice ad2 nd cd2, .slice an2 nn cn2, .slice ab2 nb cb2, .slice ax2 ns cx2, .slice af2 nf cf2]
  have hO : ∀ kk, kk < y1.heap.size → ((y1.alloc (.cells #[.int .i64 0, .int .i64 0, .slice none 0 0, .slice none 0 0, .slice none 0 0, .slice none 0 0, .slice none 0 0, .slice none 0 0] 39)).setRow (y1.heap.size) #[.int .i64 W, .int .i64 H, .slice al2 nl cl2, .slice ad2 nd cd2, .slice an2 nn cn2, .slice ab2 nb cb2, .slice ax2 ns cx2, .slice af2 nf cf2]).heap[kk]? = y1.heap[kk]? := fun kk hk => (setRow_other _ _ _ _ (by omega)).trans (hb.block _ hk)
  obtain ⟨y2, hy2⟩ : ∃ y, (y1.alloc (.cells #[.int .i64 0, .int .i64 0, .slice none 0 0, .slice none 0 0, .slice none 0 0, .slice none 0 0, .slice none 0 0, .slice none 0 0] 39)).setRow (y1.heap.size) #[.int .i64 W, .int .i64 H, .slice al2 nl cl2, .slice ad2 nd cd2, .slice an2 nn cn2, .slice ab2 nb cb2, .slice ax2 ns cx2, .slice af2 nf cf2] = y := ⟨_, rfl⟩
  have hs2 : y2.heap.size = y1.heap.size + 1 := by rw [← hy2]; simp [World.setRow]
  rw [hy2] at hN HUx hO ⊢
  clear hy2 hsz hb
  have HU2 := Lib.hid HUx
  clear HUx
  have hl2_0 := lt_heap hr1_0
  have hr2_0 := (hO _ hl2_0).trans hr1_0
  have hr2_1 := hN
  have hKK := hO
  clear hN hO
  clear hr1_0 HU1
  have HAT2 := Lib.hid (show FAt y2 (⟨W, H, nl, nd, nn, nb, ns, nf, L, D, N, B, S, F⟩ : Flm) (⟨al2, cl2, ad2, cd2, an2, cn2, ab2, cb2, ax2, cx2, af2, cf2⟩ : Pl) from ⟨(HAT1.out.l.low.keep (fun b hb => hKK b hb)).rw (by decide), (HAT1.out.d.low.keep (fun b hb => hKK b hb)).rw (by decide), (HAT1.out.n.low.keep (fun b hb => hKK b hb)).rw (by decide), (HAT1.out.b.low.keep (fun b hb => hKK b hb)).rw (by decide), (HAT1.out.s.low.keep (fun b hb => hKK b hb)).rw (by decide), (HAT1.out.f.low.keep (fun b hb => hKK b hb)).rw (by decide)⟩)
  clear HAT1 hKK
  refine wp_region_held_drew (S := fun y => y.heap[w.heap.size]? = some (.cells #[.int .i64 W, .int .i64 H, .slice al nl cl, .slice ad nd cd, .slice an nn cn, .slice ab nb cb, .slice ax ns cx, .slice af nf cf] 29 (0, 0)) ∧ y.heap[y1.heap.size]? = some (.cells #[.int .i64 W, .int .i64 H, .slice al2 nl cl2, .slice ad2 nd cd2, .slice an2 nn cn2, .slice ab2 nb cb2, .slice ax2 ns cx2, .slice af2 nf cf2] 39 (0, 0))) (by kernel_rfl) (⟨hr2_0, hr2_1⟩) (fun hS0 => ?_)
  obtain ⟨y3, hy3⟩ : ∃ y, y2.drew = y := ⟨_, rfl⟩
  have HU3 := Lib.hid (show Below w.heap.size w y3 by rw [← hy3]; exact HU2.out.drew)
  have hr3_0 : y3.heap[w.heap.size]? = some (.cells #[.int .i64 W, .int .i64 H, .slice al nl cl, .slice ad nd cd, .slice an nn cn, .slice ab nb cb, .slice ax ns cx, .slice af nf cf] 29 (0, 0)) := by rw [← hy3]; exact hr2_0
  have hr3_1 : y3.heap[y1.heap.size]? = some (.cells #[.int .i64 W, .int .i64 H, .slice al2 nl cl2, .slice ad2 nd cd2, .slice an2 nn cn2, .slice ab2 nb cb2, .slice ax2 ns cx2, .slice af2 nf cf2] 39 (0, 0)) := by rw [← hy3]; exact hr2_1
  have HAT3 := Lib.hid (show FAt y3 (⟨W, H, nl, nd, nn, nb, ns, nf, L, D, N, B, S, F⟩ : Flm) (⟨al2, cl2, ad2, cd2, an2, cn2, ab2, cb2, ax2, cx2, af2, cf2⟩ : Pl) by rw [← hy3]; exact HAT2.out.on (Below.refl _ _).drew)
  rw [hy3] at hS0 ⊢
  clear hy3
  refine wpAnyH_ready (rs := [0]) (by kernel_rfl) (by simp) ?_
  refine AllReadyH.cons rfl (fun K hK => ?_) AllReadyH.nil
  go_simp
  go_wp2_with (go_at_call 7; refine (awake_any _).mono ?_; rintro e y4 ⟨rfl, hb4⟩; have HAT4 := Lib.hid (HAT3.out.on hb4))
  have hr4_0 := (hb4.block _ (lt_heap hr3_0)).trans hr3_0
  have hr4_1 := (hb4.block _ (lt_heap hr3_1)).trans hr3_1
  have HU4 := Lib.hid (HU3.out.trans (hb4.mono HU3.out.size))
  refine hK.out _ _ (⟨(hb4.block _ (lt_heap hS0.1)).trans hS0.1, (hb4.block _ (lt_heap hS0.2)).trans hS0.2⟩) (fun hS4c => ?_)
  clear hK K
  refine wpAnyH_take (i := 1) (v := ?_) rfl (by kernel_rfl) (by kernel_rfl) (by kernel_rfl) (fun _ _ _ h => h) (Or.inl ⟨by kernel_rfl, by (intro wz hSz; go_simp; try with_reducible rfl)⟩) hS4c ?_
  go_simp
  refine wpAnyH_take (i := 2) (v := ?_) rfl (by kernel_rfl) (by kernel_rfl) (by kernel_rfl) (fun _ _ _ h => h) (Or.inl ⟨by kernel_rfl, by (intro wz hSz; go_simp; try with_reducible rfl)⟩) hS4c ?_
  go_simp
  refine wpAnyH_take (i := 3) (v := ?_) rfl (by kernel_rfl) (by kernel_rfl) (by kernel_rfl) (fun _ _ _ h => h) (Or.inl ⟨by kernel_rfl, by (intro wz hSz; go_simp; try with_reducible rfl)⟩) hS4c ?_
  go_simp
  refine wpAnyH_take (i := 4) (v := ?_) rfl (by kernel_rfl) (by kernel_rfl) (by kernel_rfl) (fun _ _ _ h => h) (Or.inl ⟨by kernel_rfl, by (intro wz hSz; have c0_0 := cell_of_row _ _ 0 _ _ _ hSz.1; have c0_1 := cell_of_row _ _ 1 _ _ _ hSz.1; have c0_2 := cell_of_row _ _ 2 _ _ _ hSz.1; have c0_3 := cell_of_row _ _ 3 _ _ _ hSz.1; have c0_4 := cell_of_row _ _ 4 _ _ _ hSz.1; have c0_5 := cell_of_row _ _ 5 _ _ _ hSz.1; have c0_6 := cell_of_row _ _ 6 _ _ _ hSz.1; have c0_7 := cell_of_row _ _ 7 _ _ _ hSz.1; have c1_0 := cell_of_row _ _ 0 _ _ _ hSz.2; have c1_1 := cell_of_row _ _ 1 _ _ _ hSz.2; have c1_2 := cell_of_row _ _ 2 _ _ _ hSz.2; have c1_3 := cell_of_row _ _ 3 _ _ _ hSz.2; have c1_4 := cell_of_row _ _ 4 _ _ _ hSz.2; have c1_5 := cell_of_row _ _ 5 _ _ _ hSz.2; have c1_6 := cell_of_row _ _ 6 _ _ _ hSz.2; have c1_7 := cell_of_row _ _ 7 _ _ _ hSz.2; simp at c0_0 c0_1 c0_2 c0_3 c0_4 c0_5 c0_6 c0_7 c1_0 c1_1 c1_2 c1_3 c1_4 c1_5 c1_6 c1_7; go_simp; try with_reducible rfl)⟩) hS4c ?_
  go_simp
  refine wpAnyH_take (i := 6) (v := ?_) rfl (by kernel_rfl) (by kernel_rfl) (by kernel_rfl) (fun _ _ _ h => h) (Or.inl ⟨by kernel_rfl, by (intro wz hSz; go_simp; try with_reducible rfl)⟩) hS4c ?_
  go_simp
  refine wpAnyH_take (i := 7) (v := ?_) rfl (by kernel_rfl) (by kernel_rfl) (by kernel_rfl) (fun _ _ _ h => h) (Or.inl ⟨by kernel_rfl, by (intro wz hSz; go_simp; try with_reducible rfl)⟩) hS4c ?_
  go_simp
  refine wpAnyH_take (i := 8) (v := ?_) rfl (by kernel_rfl) (by kernel_rfl) (by kernel_rfl) (fun _ _ _ h => h) (Or.inl ⟨by kernel_rfl, by (intro wz hSz; have c0_0 := cell_of_row _ _ 0 _ _ _ hSz.1; have c0_1 := cell_of_row _ _ 1 _ _ _ hSz.1; have c0_2 := cell_of_row _ _ 2 _ _ _ hSz.1; have c0_3 := cell_of_row _ _ 3 _ _ _ hSz.1; have c0_4 := cell_of_row _ _ 4 _ _ _ hSz.1; have c0_5 := cell_of_row _ _ 5 _ _ _ hSz.1; have c0_6 := cell_of_row _ _ 6 _ _ _ hSz.1; have c0_7 := cell_of_row _ _ 7 _ _ _ hSz.1; have c1_0 := cell_of_row _ _ 0 _ _ _ hSz.2; have c1_1 := cell_of_row _ _ 1 _ _ _ hSz.2; have c1_2 := cell_of_row _ _ 2 _ _ _ hSz.2; have c1_3 := cell_of_row _ _ 3 _ _ _ hSz.2; have c1_4 := cell_of_row _ _ 4 _ _ _ hSz.2; have c1_5 := cell_of_row _ _ 5 _ _ _ hSz.2; have c1_6 := cell_of_row _ _ 6 _ _ _ hSz.2; have c1_7 := cell_of_row _ _ 7 _ _ _ hSz.2; simp at c0_0 c0_1 c0_2 c0_3 c0_4 c0_5 c0_6 c0_7 c1_0 c1_1 c1_2 c1_3 c1_4 c1_5 c1_6 c1_7; go_simp; try with_reducible rfl)⟩) hS4c ?_
  go_simp
  refine wpAnyH_take (i := 9) (v := ?_) rfl (by kernel_rfl) (by kernel_rfl) (by kernel_rfl) (fun _ _ _ h => h) (Or.inl ⟨by kernel_rfl, by (intro wz hSz; go_simp; try with_reducible rfl)⟩) hS4c ?_
  go_simp
  refine wpAnyH_take (i := 10) (v := ?_) rfl (by kernel_rfl) (by kernel_rfl) (by kernel_rfl) (fun _ _ _ h => h) (Or.inl ⟨by kernel_rfl, by (intro wz hSz; go_simp; try with_reducible rfl)⟩) hS4c ?_
  go_simp
  refine wpAnyH_take (i := 11) (v := ?_) rfl (by kernel_rfl) (by kernel_rfl) (by kernel_rfl) (fun _ _ _ h => h) (Or.inl ⟨by kernel_rfl, by (intro wz hSz; have c0_0 := cell_of_row _ _ 0 _ _ _ hSz.1; have c0_1 := cell_of_row _ _ 1 _ _ _ hSz.1; have c0_2 := cell_of_row _ _ 2 _ _ _ hSz.1; have c0_3 := cell_of_row _ _ 3 _ _ _ hSz.1; have c0_4 := cell_of_row _ _ 4 _ _ _ hSz.1; have c0_5 := cell_of_row _ _ 5 _ _ _ hSz.1; have c0_6 := cell_of_row _ _ 6 _ _ _ hSz.1; have c0_7 := cell_of_row _ _ 7 _ _ _ hSz.1; have c1_0 := cell_of_row _ _ 0 _ _ _ hSz.2; have c1_1 := cell_of_row _ _ 1 _ _ _ hSz.2; have c1_2 := cell_of_row _ _ 2 _ _ _ hSz.2; have c1_3 := cell_of_row _ _ 3 _ _ _ hSz.2; have c1_4 := cell_of_row _ _ 4 _ _ _ hSz.2; have c1_5 := cell_of_row _ _ 5 _ _ _ hSz.2; have c1_6 := cell_of_row _ _ 6 _ _ _ hSz.2; have c1_7 := cell_of_row _ _ 7 _ _ _ hSz.2; simp at c0_0 c0_1 c0_2 c0_3 c0_4 c0_5 c0_6 c0_7 c1_0 c1_1 c1_2 c1_3 c1_4 c1_5 c1_6 c1_7; go_simp; try with_reducible rfl)⟩) hS4c ?_
  go_simp
  refine wpAnyH_ready (rs := [5]) (by kernel_rfl) (by simp) ?_
  refine AllReadyH.cons rfl (fun K hK => ?_) AllReadyH.nil
  go_simp
  go_wp2_with (go_at_call 9; refine (szright_any W H _).mono ?_; rintro e y5 ⟨rfl, hb5⟩; rw [E1.out]; have HAT5 := Lib.hid (HAT4.out.on hb5))
  have hr5_0 := (hb5.block _ (lt_heap hr4_0)).trans hr4_0
  have hr5_1 := (hb5.block _ (lt_heap hr4_1)).trans hr4_1
  have HU5 := Lib.hid (HU4.out.trans (hb5.mono HU4.out.size))
  refine hK.out _ _ (⟨(hb5.block _ (lt_heap hS4c.1)).trans hS4c.1, (hb5.block _ (lt_heap hS4c.2)).trans hS4c.2⟩) (fun hS5c => ?_)
  clear hK K
  refine wpAnyH_ready (rs := [12]) (by kernel_rfl) (by simp) ?_
  refine AllReadyH.cons rfl (fun K hK => ?_) AllReadyH.nil
  go_simp
  go_wp2_with (go_at_call 10; refine (drsize_any W H _).mono ?_; rintro e ww ⟨rfl, rfl⟩; rw [E1.out])
  refine hK.out _ _ (hS5c) (fun hS5q12 => ?_)
  clear hK K
  refine wpAnyH_take (i := 13) (v := ?_) rfl (by kernel_rfl) (by kernel_rfl) (by kernel_rfl) (fun _ _ _ h => h) (Or.inl ⟨by kernel_rfl, by (intro wz hSz; go_simp; try with_reducible rfl)⟩) hS5q12 ?_
  go_simp
  refine wpAnyH_take (i := 14) (v := ?_) rfl (by kernel_rfl) (by kernel_rfl) (by kernel_rfl) (fun _ _ _ h => h) (Or.inl ⟨by kernel_rfl, by (intro wz hSz; go_simp; try with_reducible rfl)⟩) hS5q12 ?_
  go_simp
  refine wpAnyH_take (i := 15) (v := ?_) rfl (by kernel_rfl) (by kernel_rfl) (by kernel_rfl) (fun _ _ _ h => h) (Or.inl ⟨by kernel_rfl, by (intro wz hSz; go_simp; try with_reducible rfl)⟩) hS5q12 ?_
  go_simp
  refine wpAnyH_take (i := 16) (v := ?_) rfl (by kernel_rfl) (by kernel_rfl) (by kernel_rfl) (fun _ _ _ h => h) (Or.inl ⟨by kernel_rfl, by (intro wz hSz; go_simp; try with_reducible rfl)⟩) hS5q12 ?_
  go_simp
  refine wpAnyH_take (i := 17) (v := ?_) rfl (by kernel_rfl) (by kernel_rfl) (by kernel_rfl) (fun _ _ _ h => h) (Or.inl ⟨by kernel_rfl, by (intro wz hSz; have c0_0 := cell_of_row _ _ 0 _ _ _ hSz.1; have c0_1 := cell_of_row _ _ 1 _ _ _ hSz.1; have c0_2 := cell_of_row _ _ 2 _ _ _ hSz.1; have c0_3 := cell_of_row _ _ 3 _ _ _ hSz.1; have c0_4 := cell_of_row _ _ 4 _ _ _ hSz.1; have c0_5 := cell_of_row _ _ 5 _ _ _ hSz.1; have c0_6 := cell_of_row _ _ 6 _ _ _ hSz.1; have c0_7 := cell_of_row _ _ 7 _ _ _ hSz.1; have c1_0 := cell_of_row _ _ 0 _ _ _ hSz.2; have c1_1 := cell_of_row _ _ 1 _ _ _ hSz.2; have c1_2 := cell_of_row _ _ 2 _ _ _ hSz.2; have c1_3 := cell_of_row _ _ 3 _ _ _ hSz.2; have c1_4 := cell_of_row _ _ 4 _ _ _ hSz.2; have c1_5 := cell_of_row _ _ 5 _ _ _ hSz.2; have c1_6 := cell_of_row _ _ 6 _ _ _ hSz.2; have c1_7 := cell_of_row _ _ 7 _ _ _ hSz.2; simp at c0_0 c0_1 c0_2 c0_3 c0_4 c0_5 c0_6 c0_7 c1_0 c1_1 c1_2 c1_3 c1_4 c1_5 c1_6 c1_7; go_simp; try with_reducible rfl)⟩) hS5q12 ?_
  go_simp
  refine wpAnyH_take (i := 19) (v := ?_) rfl (by kernel_rfl) (by kernel_rfl) (by kernel_rfl) (fun _ _ _ h => h) (Or.inl ⟨by kernel_rfl, by (intro wz hSz; go_simp; try with_reducible rfl)⟩) hS5q12 ?_
  go_simp
  refine wpAnyH_take (i := 20) (v := ?_) rfl (by kernel_rfl) (by kernel_rfl) (by kernel_rfl) (fun _ _ _ h => h) (Or.inl ⟨by kernel_rfl, by (intro wz hSz; have c0_0 := cell_of_row _ _ 0 _ _ _ hSz.1; have c0_1 := cell_of_row _ _ 1 _ _ _ hSz.1; have c0_2 := cell_of_row _ _ 2 _ _ _ hSz.1; have c0_3 := cell_of_row _ _ 3 _ _ _ hSz.1; have c0_4 := cell_of_row _ _ 4 _ _ _ hSz.1; have c0_5 := cell_of_row _ _ 5 _ _ _ hSz.1; have c0_6 := cell_of_row _ _ 6 _ _ _ hSz.1; have c0_7 := cell_of_row _ _ 7 _ _ _ hSz.1; have c1_0 := cell_of_row _ _ 0 _ _ _ hSz.2; have c1_1 := cell_of_row _ _ 1 _ _ _ hSz.2; have c1_2 := cell_of_row _ _ 2 _ _ _ hSz.2; have c1_3 := cell_of_row _ _ 3 _ _ _ hSz.2; have c1_4 := cell_of_row _ _ 4 _ _ _ hSz.2; have c1_5 := cell_of_row _ _ 5 _ _ _ hSz.2; have c1_6 := cell_of_row _ _ 6 _ _ _ hSz.2; have c1_7 := cell_of_row _ _ 7 _ _ _ hSz.2; simp at c0_0 c0_1 c0_2 c0_3 c0_4 c0_5 c0_6 c0_7 c1_0 c1_1 c1_2 c1_3 c1_4 c1_5 c1_6 c1_7; go_simp; try with_reducible rfl)⟩) hS5q12 ?_
  go_simp
  refine wpAnyH_ready (rs := [18]) (by kernel_rfl) (by simp) ?_
  refine AllReadyH.cons rfl (fun K hK => ?_) AllReadyH.nil
  go_simp
  go_wp2_with (go_at_call 11; refine (shright_any W H al2 nl cl2 _).mono ?_; rintro e y6 ⟨rfl, hb6⟩; rw [E2.out]; have HAT6 := Lib.hid (HAT5.out.on hb6))
  have hr6_0 := (hb6.block _ (lt_heap hr5_0)).trans hr5_0
  have hr6_1 := (hb6.block _ (lt_heap hr5_1)).trans hr5_1
  have HU6 := Lib.hid (HU5.out.trans (hb6.mono HU5.out.size))
  refine hK.out _ _ (⟨(hb6.block _ (lt_heap hS5q12.1)).trans hS5q12.1, (hb6.block _ (lt_heap hS5q12.2)).trans hS5q12.2⟩) (fun hS6c => ?_)
  clear hK K
  refine wpAnyH_ready (rs := [21]) (by kernel_rfl) (by simp) ?_
  refine AllReadyH.cons rfl (fun K hK => ?_) AllReadyH.nil
  go_simp
  go_wp2_with (go_at_call 12; refine (drsheet_any W H al nl cl _).mono ?_; rintro e y7 ⟨rfl, hb7⟩; rw [E2.out]; have HAT7 := Lib.hid (HAT6.out.on hb7))
  have hr7_0 := (hb7.block _ (lt_heap hr6_0)).trans hr6_0
  have hr7_1 := (hb7.block _ (lt_heap hr6_1)).trans hr6_1
  have HU7 := Lib.hid (HU6.out.trans (hb7.mono HU6.out.size))
  refine hK.out _ _ (⟨(hb7.block _ (lt_heap hS6c.1)).trans hS6c.1, (hb7.block _ (lt_heap hS6c.2)).trans hS6c.2⟩) (fun hS7c => ?_)
  clear hK K
  refine wpAnyH_take (i := 22) (v := ?_) rfl (by kernel_rfl) (by kernel_rfl) (by kernel_rfl) (fun _ _ _ h => h) (Or.inl ⟨by kernel_rfl, by (intro wz hSz; go_simp; try with_reducible rfl)⟩) hS7c ?_
  go_simp
  refine wpAnyH_take (i := 23) (v := ?_) rfl (by kernel_rfl) (by kernel_rfl) (by kernel_rfl) (fun _ _ _ h => h) (Or.inl ⟨by kernel_rfl, by (intro wz hSz; go_simp; try with_reducible rfl)⟩) hS7c ?_
  go_simp
  refine wpAnyH_take (i := 24) (v := ?_) rfl (by kernel_rfl) (by kernel_rfl) (by kernel_rfl) (fun _ _ _ h => h) (Or.inl ⟨by kernel_rfl, by (intro wz hSz; go_simp; try with_reducible rfl)⟩) hS7c ?_
  go_simp
  refine wpAnyH_take (i := 25) (v := ?_) rfl (by kernel_rfl) (by kernel_rfl) (by kernel_rfl) (fun _ _ _ h => h) (Or.inl ⟨by kernel_rfl, by (intro wz hSz; have c0_0 := cell_of_row _ _ 0 _ _ _ hSz.1; have c0_1 := cell_of_row _ _ 1 _ _ _ hSz.1; have c0_2 := cell_of_row _ _ 2 _ _ _ hSz.1; have c0_3 := cell_of_row _ _ 3 _ _ _ hSz.1; have c0_4 := cell_of_row _ _ 4 _ _ _ hSz.1; have c0_5 := cell_of_row _ _ 5 _ _ _ hSz.1; have c0_6 := cell_of_row _ _ 6 _ _ _ hSz.1; have c0_7 := cell_of_row _ _ 7 _ _ _ hSz.1; have c1_0 := cell_of_row _ _ 0 _ _ _ hSz.2; have c1_1 := cell_of_row _ _ 1 _ _ _ hSz.2; have c1_2 := cell_of_row _ _ 2 _ _ _ hSz.2; have c1_3 := cell_of_row _ _ 3 _ _ _ hSz.2; have c1_4 := cell_of_row _ _ 4 _ _ _ hSz.2; have c1_5 := cell_of_row _ _ 5 _ _ _ hSz.2; have c1_6 := cell_of_row _ _ 6 _ _ _ hSz.2; have c1_7 := cell_of_row _ _ 7 _ _ _ hSz.2; simp at c0_0 c0_1 c0_2 c0_3 c0_4 c0_5 c0_6 c0_7 c1_0 c1_1 c1_2 c1_3 c1_4 c1_5 c1_6 c1_7; go_simp; try with_reducible rfl)⟩) hS7c ?_
  go_simp
  refine wpAnyH_take (i := 27) (v := ?_) rfl (by kernel_rfl) (by kernel_rfl) (by kernel_rfl) (fun _ _ _ h => h) (Or.inl ⟨by kernel_rfl, by (intro wz hSz; have c0_0 := cell_of_row _ _ 0 _ _ _ hSz.1; have c0_1 := cell_of_row _ _ 1 _ _ _ hSz.1; have c0_2 := cell_of_row _ _ 2 _ _ _ hSz.1; have c0_3 := cell_of_row _ _ 3 _ _ _ hSz.1; have c0_4 := cell_of_row _ _ 4 _ _ _ hSz.1; have c0_5 := cell_of_row _ _ 5 _ _ _ hSz.1; have c0_6 := cell_of_row _ _ 6 _ _ _ hSz.1; have c0_7 := cell_of_row _ _ 7 _ _ _ hSz.1; have c1_0 := cell_of_row _ _ 0 _ _ _ hSz.2; have c1_1 := cell_of_row _ _ 1 _ _ _ hSz.2; have c1_2 := cell_of_row _ _ 2 _ _ _ hSz.2; have c1_3 := cell_of_row _ _ 3 _ _ _ hSz.2; have c1_4 := cell_of_row _ _ 4 _ _ _ hSz.2; have c1_5 := cell_of_row _ _ 5 _ _ _ hSz.2; have c1_6 := cell_of_row _ _ 6 _ _ _ hSz.2; have c1_7 := cell_of_row _ _ 7 _ _ _ hSz.2; simp at c0_0 c0_1 c0_2 c0_3 c0_4 c0_5 c0_6 c0_7 c1_0 c1_1 c1_2 c1_3 c1_4 c1_5 c1_6 c1_7; go_simp; try with_reducible rfl)⟩) hS7c ?_
  go_simp
  refine wpAnyH_ready (rs := [26]) (by kernel_rfl) (by simp) ?_
  refine AllReadyH.cons rfl (fun K hK => ?_) AllReadyH.nil
  go_simp
  go_wp2_with (go_at_call 13; refine (fright_any (⟨W, H, nl, nd, nn, nb, ns, nf, L, D, N, B, S, F⟩ : Flm) (⟨al2, cl2, ad2, cd2, an2, cn2, ab2, cb2, ax2, cx2, af2, cf2⟩ : Pl) _ HAT7.out).mono ?_; rintro e y8 ⟨rfl, hb8⟩; rw [E3.out]; have HAT8 := Lib.hid (HAT7.out.on hb8))
  have hr8_0 := (hb8.block _ (lt_heap hr7_0)).trans hr7_0
  have hr8_1 := (hb8.block _ (lt_heap hr7_1)).trans hr7_1
  have HU8 := Lib.hid (HU7.out.trans (hb8.mono HU7.out.size))
  refine hK.out _ _ (⟨(hb8.block _ (lt_heap hS7c.1)).trans hS7c.1, (hb8.block _ (lt_heap hS7c.2)).trans hS7c.2⟩) (fun hS8c => ?_)
  clear hK K
  refine wpAnyH_ready (rs := [28]) (by kernel_rfl) (by simp) ?_
  refine AllReadyH.cons rfl (fun K hK => ?_) AllReadyH.nil
  go_simp
  go_wp2_with (go_at_call 14; refine (dright_any (⟨W, H, nl, nd, nn, nb, ns, nf, L, D, N, B, S, F⟩ : Flm) (⟨al, cl, ad, cd, an, cn, ab, cb, ax, cx, af, cf⟩ : Pl) _ (HC.out.at_.on HU8.out)).mono ?_; rintro e y9 ⟨rfl, hb9⟩; rw [E3.out]; have HAT9 := Lib.hid (HAT8.out.on hb9))
  have hr9_0 := (hb9.block _ (lt_heap hr8_0)).trans hr8_0
  have hr9_1 := (hb9.block _ (lt_heap hr8_1)).trans hr8_1
  have HU9 := Lib.hid (HU8.out.trans (hb9.mono HU8.out.size))
  refine hK.out _ _ (⟨(hb9.block _ (lt_heap hS8c.1)).trans hS8c.1, (hb9.block _ (lt_heap hS8c.2)).trans hS8c.2⟩) (fun hS9c => ?_)
  clear hK K
  refine wpAnyH_take (i := 29) (v := ?_) rfl (by kernel_rfl) (by kernel_rfl) (by kernel_rfl) (fun _ _ _ h => h) (Or.inl ⟨by kernel_rfl, by (intro wz hSz; go_simp; try with_reducible rfl)⟩) hS9c ?_
  go_simp
  refine wpAnyH_take (i := 30) (v := ?_) rfl (by kernel_rfl) (by kernel_rfl) (by kernel_rfl) (fun _ _ _ h => h) (Or.inl ⟨by kernel_rfl, by (intro wz hSz; go_simp; try with_reducible rfl)⟩) hS9c ?_
  go_simp
  refine wpAnyH_take (i := 31) (v := ?_) rfl (by kernel_rfl) (by kernel_rfl) (by kernel_rfl) (fun _ _ _ h => h) (Or.inl ⟨by kernel_rfl, by (intro wz hSz; go_simp; try with_reducible rfl)⟩) hS9c ?_
  go_simp
  refine wpAnyH_take (i := 32) (v := ?_) rfl (by kernel_rfl) (by kernel_rfl) (by kernel_rfl) (fun _ _ _ h => h) (Or.inl ⟨by kernel_rfl, by (intro wz hSz; go_simp; try with_reducible rfl)⟩) hS9c ?_
  go_simp
  refine wpAnyH_take (i := 33) (v := ?_) rfl (by kernel_rfl) (by kernel_rfl) (by kernel_rfl) (fun _ _ _ h => h) (Or.inl ⟨by kernel_rfl, by (intro wz hSz; go_simp; try with_reducible rfl)⟩) hS9c ?_
  go_simp
  refine wpAnyH_take (i := 34) (v := ?_) rfl (by kernel_rfl) (by kernel_rfl) (by kernel_rfl) (fun _ _ _ h => h) (Or.inl ⟨by kernel_rfl, by (intro wz hSz; have c0_0 := cell_of_row _ _ 0 _ _ _ hSz.1; have c0_1 := cell_of_row _ _ 1 _ _ _ hSz.1; have c0_2 := cell_of_row _ _ 2 _ _ _ hSz.1; have c0_3 := cell_of_row _ _ 3 _ _ _ hSz.1; have c0_4 := cell_of_row _ _ 4 _ _ _ hSz.1; have c0_5 := cell_of_row _ _ 5 _ _ _ hSz.1; have c0_6 := cell_of_row _ _ 6 _ _ _ hSz.1; have c0_7 := cell_of_row _ _ 7 _ _ _ hSz.1; have c1_0 := cell_of_row _ _ 0 _ _ _ hSz.2; have c1_1 := cell_of_row _ _ 1 _ _ _ hSz.2; have c1_2 := cell_of_row _ _ 2 _ _ _ hSz.2; have c1_3 := cell_of_row _ _ 3 _ _ _ hSz.2; have c1_4 := cell_of_row _ _ 4 _ _ _ hSz.2; have c1_5 := cell_of_row _ _ 5 _ _ _ hSz.2; have c1_6 := cell_of_row _ _ 6 _ _ _ hSz.2; have c1_7 := cell_of_row _ _ 7 _ _ _ hSz.2; simp at c0_0 c0_1 c0_2 c0_3 c0_4 c0_5 c0_6 c0_7 c1_0 c1_1 c1_2 c1_3 c1_4 c1_5 c1_6 c1_7; go_simp; try with_reducible rfl)⟩) hS9c ?_
  go_simp
  refine wpAnyH_take (i := 35) (v := ?_) rfl (by kernel_rfl) (by kernel_rfl) (by kernel_rfl) (fun _ _ _ h => h) (Or.inl ⟨by kernel_rfl, by (intro wz hSz; go_simp; try with_reducible rfl)⟩) hS9c ?_
  go_simp
  refine wpAnyH_take (i := 36) (v := ?_) rfl (by kernel_rfl) (by kernel_rfl) (by kernel_rfl) (fun _ _ _ h => h) (Or.inl ⟨by kernel_rfl, by (intro wz hSz; go_simp; try with_reducible rfl)⟩) hS9c ?_
  go_simp
  refine wpAnyH_take (i := 37) (v := ?_) rfl (by kernel_rfl) (by kernel_rfl) (by kernel_rfl) (fun _ _ _ h => h) (Or.inl ⟨by kernel_rfl, by (intro wz hSz; have c0_0 := cell_of_row _ _ 0 _ _ _ hSz.1; have c0_1 := cell_of_row _ _ 1 _ _ _ hSz.1; have c0_2 := cell_of_row _ _ 2 _ _ _ hSz.1; have c0_3 := cell_of_row _ _ 3 _ _ _ hSz.1; have c0_4 := cell_of_row _ _ 4 _ _ _ hSz.1; have c0_5 := cell_of_row _ _ 5 _ _ _ hSz.1; have c0_6 := cell_of_row _ _ 6 _ _ _ hSz.1; have c0_7 := cell_of_row _ _ 7 _ _ _ hSz.1; have c1_0 := cell_of_row _ _ 0 _ _ _ hSz.2; have c1_1 := cell_of_row _ _ 1 _ _ _ hSz.2; have c1_2 := cell_of_row _ _ 2 _ _ _ hSz.2; have c1_3 := cell_of_row _ _ 3 _ _ _ hSz.2; have c1_4 := cell_of_row _ _ 4 _ _ _ hSz.2; have c1_5 := cell_of_row _ _ 5 _ _ _ hSz.2; have c1_6 := cell_of_row _ _ 6 _ _ _ hSz.2; have c1_7 := cell_of_row _ _ 7 _ _ _ hSz.2; simp at c0_0 c0_1 c0_2 c0_3 c0_4 c0_5 c0_6 c0_7 c1_0 c1_1 c1_2 c1_3 c1_4 c1_5 c1_6 c1_7; go_simp; try with_reducible rfl)⟩) hS9c ?_
  go_simp
  refine wpAnyH_ready (rs := [38]) (by kernel_rfl) (by simp) ?_
  refine AllReadyH.cons rfl (fun K hK => ?_) AllReadyH.nil
  go_simp
  go_wp2_with (go_at_call 10; refine (drsize_any W H _).mono ?_; rintro e ww ⟨rfl, rfl⟩; rw [E1.out])
  refine hK.out _ _ (hS9c) (fun hS9q38 => ?_)
  clear hK K
  refine wpAnyH_take (i := 39) (v := ?_) rfl (by kernel_rfl) (by kernel_rfl) (by kernel_rfl) (fun _ _ _ h => h) (Or.inl ⟨by kernel_rfl, by (intro wz hSz; go_simp; try with_reducible rfl)⟩) hS9q38 ?_
  go_simp
  refine wpAnyH_take (i := 40) (v := ?_) rfl (by kernel_rfl) (by kernel_rfl) (by kernel_rfl) (fun _ _ _ h => h) (Or.inl ⟨by kernel_rfl, by (intro wz hSz; go_simp; try with_reducible rfl)⟩) hS9q38 ?_
  go_simp
  refine wpAnyH_take (i := 41) (v := undef) rfl (by kernel_rfl) (by kernel_rfl) (by kernel_rfl) (fun _ _ _ h => h) (Or.inr ⟨by kernel_rfl, rfl⟩) hS9q38 ?_
  go_simp
  refine wpAnyH_take (i := 42) (v := undef) rfl (by kernel_rfl) (by kernel_rfl) (by kernel_rfl) (fun _ _ _ h => h) (Or.inr ⟨by kernel_rfl, rfl⟩) hS9q38 ?_
  go_simp
  refine wpAnyH_take (i := 43) (v := undef) rfl (by kernel_rfl) (by kernel_rfl) (by kernel_rfl) (fun _ _ _ h => h) (Or.inr ⟨by kernel_rfl, rfl⟩) hS9q38 ?_
  go_simp
  refine wpAnyH_take (i := 44) (v := undef) rfl (by kernel_rfl) (by kernel_rfl) (by kernel_rfl) (fun _ _ _ h => h) (Or.inr ⟨by kernel_rfl, rfl⟩) hS9q38 ?_
  go_simp
  refine wpAnyH_take (i := 45) (v := undef) rfl (by kernel_rfl) (by kernel_rfl) (by kernel_rfl) (fun _ _ _ h => h) (Or.inr ⟨by kernel_rfl, rfl⟩) hS9q38 ?_
  go_simp
  refine wpAnyH_take (i := 46) (v := undef) rfl (by kernel_rfl) (by kernel_rfl) (by kernel_rfl) (fun _ _ _ h => h) (Or.inr ⟨by kernel_rfl, rfl⟩) hS9q38 ?_
  go_simp
  refine wpAnyH_take (i := 47) (v := undef) rfl (by kernel_rfl) (by kernel_rfl) (by kernel_rfl) (fun _ _ _ h => h) (Or.inr ⟨by kernel_rfl, rfl⟩) hS9q38 ?_
  go_simp
  refine wpAnyH_take (i := 48) (v := undef) rfl (by kernel_rfl) (by kernel_rfl) (by kernel_rfl) (fun _ _ _ h => h) (Or.inr ⟨by kernel_rfl, rfl⟩) hS9q38 ?_
  go_simp
  refine wpAnyH_take (i := 49) (v := undef) rfl (by kernel_rfl) (by kernel_rfl) (by kernel_rfl) (fun _ _ _ h => h) (Or.inr ⟨by kernel_rfl, rfl⟩) hS9q38 ?_
  go_simp
  refine wpAnyH_take (i := 50) (v := undef) rfl (by kernel_rfl) (by kernel_rfl) (by kernel_rfl) (fun _ _ _ h => h) (Or.inr ⟨by kernel_rfl, rfl⟩) hS9q38 ?_
  go_simp
  refine wpAnyH_take (i := 51) (v := undef) rfl (by kernel_rfl) (by kernel_rfl) (by kernel_rfl) (fun _ _ _ h => h) (Or.inr ⟨by kernel_rfl, rfl⟩) hS9q38 ?_
  go_simp
  refine wpAnyH_take (i := 52) (v := undef) rfl (by kernel_rfl) (by kernel_rfl) (by kernel_rfl) (fun _ _ _ h => h) (Or.inr ⟨by kernel_rfl, rfl⟩) hS9q38 ?_
  go_simp
  refine wpAnyH_take (i := 53) (v := ?_) rfl (by kernel_rfl) (by kernel_rfl) (by kernel_rfl) (fun _ _ _ h => h) (Or.inl ⟨by kernel_rfl, by (intro wz hSz; go_simp; try with_reducible rfl)⟩) hS9q38 ?_
  go_simp
  refine wpAnyH_take (i := 54) (v := ?_) rfl (by kernel_rfl) (by kernel_rfl) (by kernel_rfl) (fun _ _ _ h => h) (Or.inl ⟨by kernel_rfl, by (intro wz hSz; go_simp; try with_reducible rfl)⟩) hS9q38 ?_
  go_simp
  refine wpAnyH_take (i := 55) (v := ?_) rfl (by kernel_rfl) (by kernel_rfl) (by kernel_rfl) (fun _ _ _ h => h) (Or.inl ⟨by kernel_rfl, by (intro wz hSz; go_simp; try with_reducible rfl)⟩) hS9q38 ?_
  go_simp
  refine wpAnyH_done (by kernel_rfl) ?_ _
  go_wp2
  go_ret
  exact ⟨rfl, HU9.out⟩

set_option maxHeartbeats 16000000 in
set_option maxRecDepth 100000 in
theorem case_1 (W H : Int) (al ad an ab ax af : Option Addr) (cl cd cn cb cx cf nl nd nn nb ns nf : Nat) (L D N B S F : Nat → Int) (w : World) (hc : Came w (⟨W, H, nl, nd, nn, nb, ns, nf, L, D, N, B, S, F⟩ : Flm) (⟨al, cl, ad, cd, an, cn, ab, cb, ax, cx, af, cf⟩ : Pl)) (k1 : ¬ 5000 < nl) (k2 : ¬ 5000 < ns) (r2 r3 : Bool) (e1 : decide (okSz W H) = true) (e2 : decide (okSh W H nl) = r2) (e3 : decide (okF (⟨W, H, nl, nd, nn, nb, ns, nf, L, D, N, B, S, F⟩ : Flm)) = r3) : Calls Try.prog 3 #[.agg #[.int .i64 W, .int .i64 H, .slice al nl cl, .slice ad nd cd, .slice an nn cn, .slice ab nb cb, .slice ax ns cx, .slice af nf cf]] w fun e' w' => e' = .returned (.bool true) ∧ Below w.heap.size w w' := by
  have HC := Lib.hid hc
  clear hc
  have d1 := decide_eq_false (show ¬ (5000 : Int) < (nl : Int) by omega)
  have d2 := decide_eq_false (show ¬ (5000 : Int) < (ns : Int) by omega)
  have E1 := Lib.hid e1
  have E2 := Lib.hid e2
  have E3 := Lib.hid e3
  clear e1 e2 e3
  have HOK := Lib.hid (of_decide_eq_true E1.out)
  obtain ⟨q1, q2⟩ := okSz_mul HOK.out
  obtain ⟨m, hm⟩ : ∃ m, m = W * H := ⟨_, rfl⟩
  rw [← hm] at q1 q2
  have hw1 : IntKind.i64.wrap (W * H) = m := by rw [← hm, IntKind.wrap_i64]; omega
  have hw2 : wrap64 (W * H) = m := by rw [← hm]; unfold wrap64; omega
  have HM := Lib.hid hm
  clear hm
  go_enter Try.func3, Try.ntmps3
  go_upto_region 1 with fail
  have hR := Au.rows1 w (.cells #[.int .i64 W, .int .i64 H, .slice al nl cl, .slice ad nd cd, .slice an nn cn, .slice ab nb cb, .slice ax ns cx, .slice af nf cf] 29)
  have HUx := Ve.below_n1 w (.cells #[.int .i64 W, .int .i64 H, .slice al nl cl, .slice ad nd cd, .slice an nn cn, .slice ab nb cb, .slice ax ns cx, .slice af nf cf] 29)
  obtain ⟨y0, hy0⟩ : ∃ y0, w.alloc (.cells #[.int .i64 W, .int .i64 H, .slice al nl cl, .slice ad nd cd, .slice an nn cn, .slice ab nb cb, .slice ax ns cx, .slice af nf cf] 29) = y0 := ⟨_, rfl⟩
  rw [hy0] at hR HUx ⊢
  clear hy0
  have HU0 := Lib.hid HUx
  clear HUx
  have hr0_0 := hR
  clear hR
  have c0_0 := cell_of_row _ _ 0 _ _ _ hr0_0
  have c0_1 := cell_of_row _ _ 1 _ _ _ hr0_0
  have c0_2 := cell_of_row _ _ 2 _ _ _ hr0_0
  have c0_3 := cell_of_row _ _ 3 _ _ _ hr0_0
  have c0_4 := cell_of_row _ _ 4 _ _ _ hr0_0
  have c0_5 := cell_of_row _ _ 5 _ _ _ hr0_0
  have c0_6 := cell_of_row _ _ 6 _ _ _ hr0_0
  have c0_7 := cell_of_row _ _ 7 _ _ _ hr0_0
  simp at c0_0 c0_1 c0_2 c0_3 c0_4 c0_5 c0_6 c0_7
  go_wp2_with fail
  refine (to_film (⟨W, H, nl, nd, nn, nb, ns, nf, L, D, N, B, S, F⟩ : Flm) (⟨al, cl, ad, cd, an, cn, ab, cb, ax, cx, af, cf⟩ : Pl) _ (HC.out.at_.on HU0.out) HC.out.bl HC.out.bd HC.out.bn HC.out.bb HC.out.bs HC.out.bf HC.out.ks HC.out.kf).mono ?_
  rintro e y1 ⟨⟨⟨al2, cl2, ad2, cd2, an2, cn2, ab2, cb2, ax2, cx2, af2, cf2⟩, rfl, hat⟩, hb1⟩
  clear c0_0 c0_1 c0_2 c0_3 c0_4 c0_5 c0_6 c0_7
  have hr1_0 := (hb1.block _ (lt_heap hr0_0)).trans hr0_0
  have HU1 := Lib.hid (HU0.out.trans (hb1.mono HU0.out.size))
  clear hr0_0 HU0
  have HAT1 := Lib.hid hat
  clear hat
  have c0_0 := cell_of_row _ _ 0 _ _ _ hr1_0
  have c0_1 := cell_of_row _ _ 1 _ _ _ hr1_0
  have c0_2 := cell_of_row _ _ 2 _ _ _ hr1_0
  have c0_3 := cell_of_row _ _ 3 _ _ _ hr1_0
  have c0_4 := cell_of_row _ _ 4 _ _ _ hr1_0
  have c0_5 := cell_of_row _ _ 5 _ _ _ hr1_0
  have c0_6 := cell_of_row _ _ 6 _ _ _ hr1_0
  have c0_7 := cell_of_row _ _ 7 _ _ _ hr1_0
  simp at c0_0 c0_1 c0_2 c0_3 c0_4 c0_5 c0_6 c0_7
  have HA := Lib.hid (heap_alloc_last y1 (.cells #[.int .i64 0, .int .i64 0, .slice none 0 0, .slice none 0 0, .slice none 0 0, .slice none 0 0, .slice none 0 0, .slice none 0 0] 39))
  have hHi := Lib.hid (show (Try.prog.info? 39).map (·.size) = some (#[.int .i64 W, .int .i64 H, .slice al2 nl cl2, .slice ad2 nd cd2, .slice an2 nn cn2, .slice ab2 nb cb2, .slice ax2 ns cx2, .slice af2 nf cf2] : Array Value).size by kernel_rfl)
  have hHz := Lib.hid (show (#[.int .i64 0, .int .i64 0, .slice none 0 0, .slice none 0 0, .slice none 0 0, .slice none 0 0, .slice none 0 0, .slice none 0 0] : Array Value).size = (#[.int .i64 W, .int .i64 H, .slice al2 nl cl2, .slice ad2 nd cd2, .slice an2 nn cn2, .slice ab2 nb cb2, .slice ax2 ns cx2, .slice af2 nf cf2] : Array Value).size from rfl)
  have hHo := Lib.hid (show (#[.int .i64 W, .int .i64 H, .slice al2 nl cl2, .slice ad2 nd cd2, .slice an2 nn cn2, .slice ab2 nb cb2, .slice ax2 ns cx2, .slice af2 nf cf2] : Array Value).all (·.oneCell') = true by simp [Value.oneCell'])
  go_upto_region 4 with (refine Au.wpList_store_row rfl 39 (.tmp 3) (.tmp 17) rfl (y1.alloc (.cells #[.int .i64 0, .int .i64 0, .slice none 0 0, .slice none 0 0, .slice none 0 0, .slice none 0 0, .slice none 0 0, .slice none 0 0] 39)) #[.int .i64 0, .int .i64 0, .slice none 0 0, .slice none 0 0, .slice none 0 0, .slice none 0 0, .slice none 0 0, .slice none 0 0] #[.int .i64 W, .int .i64 H, .slice al2 nl cl2, .slice ad2 nd cd2, .slice an2 nn cn2, .slice ab2 nb cb2, .slice ax2 ns cx2, .slice af2 nf cf2] (y1.heap.size) 39 HA.out rfl rfl hHi.out hHz.out hHo.out ?_)
  clear c0_0 c0_1 c0_2 c0_3 c0_4 c0_5 c0_6 c0_7
  clear hHi hHz hHo
  have hN := setRow_heap _ (y1.heap.size) _ #[.int .i64 W, .int .i64 H, .slice al2 nl cl2, .slice ad2 nd cd2, .slice an2 nn cn2, .slice ab2 nb cb2, .slice ax2 ns cx2, .slice af2 nf cf2] _ _ HA.out
  clear HA
  have hsz := HU1.out.size
  have hb := Ve.below_n1 y1 (.cells #[.int .i64 0, .int .i64 0, .slice none 0 0, .slice none 0 0, .slice none 0 0, .slice none 0 0, .slice none 0 0, .slice none 0 0] 39)
  have HUx := below_setRow (g := y1.heap.size) (HU1.out.trans (hb.mono HU1.out.size)) (by omega) #[.int .i64 W, .int .i64 H, .slice al2 nl cl2, .slice ad2 nd cd2, .slice an2 nn cn2, .slice ab2 nb cb2, .slice ax2 ns cx2, .slice af2 nf cf2]
  have hO : ∀ kk, kk < y1.heap.size → ((y1.alloc (.cells #[.int .i64 0, .int .i64 0, .slice none 0 0, .slice none 0 0, .slice none 0 0, .slice none 0 0, .slice none 0 0, .slice none 0 0] 39)).setRow (y1.heap.size) #[.int .i64 W, .int .i64 H, .slice al2 nl cl2, .slice ad2 nd cd2, .slice an2 nn cn2, .slice ab2 nb cb2, .slice ax2 ns cx2, .slice af2 nf cf2]).heap[kk]? = y1.heap[kk]? := fun kk hk => (setRow_other _ _ _ _ (by omega)).trans (hb.block _ hk)
  obtain ⟨y2, hy2⟩ : ∃ y, (y1.alloc (.cells #[.int .i64 0, .int .i64 0, .slice none 0 0, .slice none 0 0, .slice none 0 0, .slice none 0 0, .slice none 0 0, .slice none 0 0] 39)).setRow (y1.heap.size) #[.int .i64 W, .int .i64 H, .slice al2 nl cl2, .slice ad2 nd cd2, .slice an2 nn cn2, .slice ab2 nb cb2, .slice ax2 ns cx2, .slice af2 nf cf2] = y := ⟨_, rfl⟩
  have hs2 : y2.heap.size = y1.heap.size + 1 := by rw [← hy2]; simp [World.setRow]
  rw [hy2] at hN HUx hO ⊢
  clear hy2 hsz hb
  have HU2 := Lib.hid HUx
  clear HUx
  have hl2_0 := lt_heap hr1_0
  have hr2_0 := (hO _ hl2_0).trans hr1_0
  have hr2_1 := hN
  have hKK := hO
  clear hN hO
  clear hr1_0 HU1
  have HAT2 := Lib.hid (show FAt y2 (⟨W, H, nl, nd, nn, nb, ns, nf, L, D, N, B, S, F⟩ : Flm) (⟨al2, cl2, ad2, cd2, an2, cn2, ab2, cb2, ax2, cx2, af2, cf2⟩ : Pl) from ⟨(HAT1.out.l.low.keep (fun b hb => hKK b hb)).rw (by decide), (HAT1.out.d.low.keep (fun b hb => hKK b hb)).rw (by decide), (HAT1.out.n.low.keep (fun b hb => hKK b hb)).rw (by decide), (HAT1.out.b.low.keep (fun b hb => hKK b hb)).rw (by decide), (HAT1.out.s.low.keep (fun b hb => hKK b hb)).rw (by decide), (HAT1.out.f.low.keep (fun b hb => hKK b hb)).rw (by decide)⟩)
  clear HAT1 hKK
  refine wp_region_held_drew (S := fun y => y.heap[w.heap.size]? = some (.cells #[.int .i64 W, .int .i64 H, .slice al nl cl, .slice ad nd cd, .slice an nn cn, .slice ab nb cb, .slice ax ns cx, .slice af nf cf] 29 (0, 0)) ∧ y.heap[y1.heap.size]? = some (.cells #[.int .i64 W, .int .i64 H, .slice al2 nl cl2, .slice ad2 nd cd2, .slice an2 nn cn2, .slice ab2 nb cb2, .slice ax2 ns cx2, .slice af2 nf cf2] 39 (0, 0))) (by kernel_rfl) (⟨hr2_0, hr2_1⟩) (fun hS0 => ?_)
  obtain ⟨y3, hy3⟩ : ∃ y, y2.drew = y := ⟨_, rfl⟩
  have HU3 := Lib.hid (show Below w.heap.size w y3 by rw [← hy3]; exact HU2.out.drew)
  have hr3_0 : y3.heap[w.heap.size]? = some (.cells #[.int .i64 W, .int .i64 H, .slice al nl cl, .slice ad nd cd, .slice an nn cn, .slice ab nb cb, .slice ax ns cx, .slice af nf cf] 29 (0, 0)) := by rw [← hy3]; exact hr2_0
  have hr3_1 : y3.heap[y1.heap.size]? = some (.cells #[.int .i64 W, .int .i64 H, .slice al2 nl cl2, .slice ad2 nd cd2, .slice an2 nn cn2, .slice ab2 nb cb2, .slice ax2 ns cx2, .slice af2 nf cf2] 39 (0, 0)) := by rw [← hy3]; exact hr2_1
  have HAT3 := Lib.hid (show FAt y3 (⟨W, H, nl, nd, nn, nb, ns, nf, L, D, N, B, S, F⟩ : Flm) (⟨al2, cl2, ad2, cd2, an2, cn2, ab2, cb2, ax2, cx2, af2, cf2⟩ : Pl) by rw [← hy3]; exact HAT2.out.on (Below.refl _ _).drew)
  rw [hy3] at hS0 ⊢
  clear hy3
  refine wpAnyH_ready (rs := [0]) (by kernel_rfl) (by simp) ?_
  refine AllReadyH.cons rfl (fun K hK => ?_) AllReadyH.nil
  go_simp
  go_wp2_with (go_at_call 7; refine (awake_any _).mono ?_; rintro e y4 ⟨rfl, hb4⟩; have HAT4 := Lib.hid (HAT3.out.on hb4))
  have hr4_0 := (hb4.block _ (lt_heap hr3_0)).trans hr3_0
  have hr4_1 := (hb4.block _ (lt_heap hr3_1)).trans hr3_1
  have HU4 := Lib.hid (HU3.out.trans (hb4.mono HU3.out.size))
  refine hK.out _ _ (⟨(hb4.block _ (lt_heap hS0.1)).trans hS0.1, (hb4.block _ (lt_heap hS0.2)).trans hS0.2⟩) (fun hS4c => ?_)
  clear hK K
  refine wpAnyH_take (i := 1) (v := ?_) rfl (by kernel_rfl) (by kernel_rfl) (by kernel_rfl) (fun _ _ _ h => h) (Or.inl ⟨by kernel_rfl, by (intro wz hSz; go_simp; try with_reducible rfl)⟩) hS4c ?_
  go_simp
  refine wpAnyH_take (i := 2) (v := ?_) rfl (by kernel_rfl) (by kernel_rfl) (by kernel_rfl) (fun _ _ _ h => h) (Or.inl ⟨by kernel_rfl, by (intro wz hSz; go_simp; try with_reducible rfl)⟩) hS4c ?_
  go_simp
  refine wpAnyH_take (i := 3) (v := ?_) rfl (by kernel_rfl) (by kernel_rfl) (by kernel_rfl) (fun _ _ _ h => h) (Or.inl ⟨by kernel_rfl, by (intro wz hSz; go_simp; try with_reducible rfl)⟩) hS4c ?_
  go_simp
  refine wpAnyH_take (i := 4) (v := ?_) rfl (by kernel_rfl) (by kernel_rfl) (by kernel_rfl) (fun _ _ _ h => h) (Or.inl ⟨by kernel_rfl, by (intro wz hSz; have c0_0 := cell_of_row _ _ 0 _ _ _ hSz.1; have c0_1 := cell_of_row _ _ 1 _ _ _ hSz.1; have c0_2 := cell_of_row _ _ 2 _ _ _ hSz.1; have c0_3 := cell_of_row _ _ 3 _ _ _ hSz.1; have c0_4 := cell_of_row _ _ 4 _ _ _ hSz.1; have c0_5 := cell_of_row _ _ 5 _ _ _ hSz.1; have c0_6 := cell_of_row _ _ 6 _ _ _ hSz.1; have c0_7 := cell_of_row _ _ 7 _ _ _ hSz.1; have c1_0 := cell_of_row _ _ 0 _ _ _ hSz.2; have c1_1 := cell_of_row _ _ 1 _ _ _ hSz.2; have c1_2 := cell_of_row _ _ 2 _ _ _ hSz.2; have c1_3 := cell_of_row _ _ 3 _ _ _ hSz.2; have c1_4 := cell_of_row _ _ 4 _ _ _ hSz.2; have c1_5 := cell_of_row _ _ 5 _ _ _ hSz.2; have c1_6 := cell_of_row _ _ 6 _ _ _ hSz.2; have c1_7 := cell_of_row _ _ 7 _ _ _ hSz.2; simp at c0_0 c0_1 c0_2 c0_3 c0_4 c0_5 c0_6 c0_7 c1_0 c1_1 c1_2 c1_3 c1_4 c1_5 c1_6 c1_7; go_simp; try with_reducible rfl)⟩) hS4c ?_
  go_simp
  refine wpAnyH_take (i := 6) (v := ?_) rfl (by kernel_rfl) (by kernel_rfl) (by kernel_rfl) (fun _ _ _ h => h) (Or.inl ⟨by kernel_rfl, by (intro wz hSz; go_simp; try with_reducible rfl)⟩) hS4c ?_
  go_simp
  refine wpAnyH_take (i := 7) (v := ?_) rfl (by kernel_rfl) (by kernel_rfl) (by kernel_rfl) (fun _ _ _ h => h) (Or.inl ⟨by kernel_rfl, by (intro wz hSz; go_simp; try with_reducible rfl)⟩) hS4c ?_
  go_simp
  refine wpAnyH_take (i := 8) (v := ?_) rfl (by kernel_rfl) (by kernel_rfl) (by kernel_rfl) (fun _ _ _ h => h) (Or.inl ⟨by kernel_rfl, by (intro wz hSz; have c0_0 := cell_of_row _ _ 0 _ _ _ hSz.1; have c0_1 := cell_of_row _ _ 1 _ _ _ hSz.1; have c0_2 := cell_of_row _ _ 2 _ _ _ hSz.1; have c0_3 := cell_of_row _ _ 3 _ _ _ hSz.1; have c0_4 := cell_of_row _ _ 4 _ _ _ hSz.1; have c0_5 := cell_of_row _ _ 5 _ _ _ hSz.1; have c0_6 := cell_of_row _ _ 6 _ _ _ hSz.1; have c0_7 := cell_of_row _ _ 7 _ _ _ hSz.1; have c1_0 := cell_of_row _ _ 0 _ _ _ hSz.2; have c1_1 := cell_of_row _ _ 1 _ _ _ hSz.2; have c1_2 := cell_of_row _ _ 2 _ _ _ hSz.2; have c1_3 := cell_of_row _ _ 3 _ _ _ hSz.2; have c1_4 := cell_of_row _ _ 4 _ _ _ hSz.2; have c1_5 := cell_of_row _ _ 5 _ _ _ hSz.2; have c1_6 := cell_of_row _ _ 6 _ _ _ hSz.2; have c1_7 := cell_of_row _ _ 7 _ _ _ hSz.2; simp at c0_0 c0_1 c0_2 c0_3 c0_4 c0_5 c0_6 c0_7 c1_0 c1_1 c1_2 c1_3 c1_4 c1_5 c1_6 c1_7; go_simp; try with_reducible rfl)⟩) hS4c ?_
  go_simp
  refine wpAnyH_take (i := 9) (v := ?_) rfl (by kernel_rfl) (by kernel_rfl) (by kernel_rfl) (fun _ _ _ h => h) (Or.inl ⟨by kernel_rfl, by (intro wz hSz; go_simp; try with_reducible rfl)⟩) hS4c ?_
  go_simp
  refine wpAnyH_take (i := 10) (v := ?_) rfl (by kernel_rfl) (by kernel_rfl) (by kernel_rfl) (fun _ _ _ h => h) (Or.inl ⟨by kernel_rfl, by (intro wz hSz; go_simp; try with_reducible rfl)⟩) hS4c ?_
  go_simp
  refine wpAnyH_take (i := 11) (v := ?_) rfl (by kernel_rfl) (by kernel_rfl) (by kernel_rfl) (fun _ _ _ h => h) (Or.inl ⟨by kernel_rfl, by (intro wz hSz; have c0_0 := cell_of_row _ _ 0 _ _ _ hSz.1; have c0_1 := cell_of_row _ _ 1 _ _ _ hSz.1; have c0_2 := cell_of_row _ _ 2 _ _ _ hSz.1; have c0_3 := cell_of_row _ _ 3 _ _ _ hSz.1; have c0_4 := cell_of_row _ _ 4 _ _ _ hSz.1; have c0_5 := cell_of_row _ _ 5 _ _ _ hSz.1; have c0_6 := cell_of_row _ _ 6 _ _ _ hSz.1; have c0_7 := cell_of_row _ _ 7 _ _ _ hSz.1; have c1_0 := cell_of_row _ _ 0 _ _ _ hSz.2; have c1_1 := cell_of_row _ _ 1 _ _ _ hSz.2; have c1_2 := cell_of_row _ _ 2 _ _ _ hSz.2; have c1_3 := cell_of_row _ _ 3 _ _ _ hSz.2; have c1_4 := cell_of_row _ _ 4 _ _ _ hSz.2; have c1_5 := cell_of_row _ _ 5 _ _ _ hSz.2; have c1_6 := cell_of_row _ _ 6 _ _ _ hSz.2; have c1_7 := cell_of_row _ _ 7 _ _ _ hSz.2; simp at c0_0 c0_1 c0_2 c0_3 c0_4 c0_5 c0_6 c0_7 c1_0 c1_1 c1_2 c1_3 c1_4 c1_5 c1_6 c1_7; go_simp; try with_reducible rfl)⟩) hS4c ?_
  go_simp
  refine wpAnyH_ready (rs := [5]) (by kernel_rfl) (by simp) ?_
  refine AllReadyH.cons rfl (fun K hK => ?_) AllReadyH.nil
  go_simp
  go_wp2_with (go_at_call 9; refine (szright_any W H _).mono ?_; rintro e y5 ⟨rfl, hb5⟩; rw [E1.out]; have HAT5 := Lib.hid (HAT4.out.on hb5))
  have hr5_0 := (hb5.block _ (lt_heap hr4_0)).trans hr4_0
  have hr5_1 := (hb5.block _ (lt_heap hr4_1)).trans hr4_1
  have HU5 := Lib.hid (HU4.out.trans (hb5.mono HU4.out.size))
  refine hK.out _ _ (⟨(hb5.block _ (lt_heap hS4c.1)).trans hS4c.1, (hb5.block _ (lt_heap hS4c.2)).trans hS4c.2⟩) (fun hS5c => ?_)
  clear hK K
  refine wpAnyH_ready (rs := [12]) (by kernel_rfl) (by simp) ?_
  refine AllReadyH.cons rfl (fun K hK => ?_) AllReadyH.nil
  go_simp
  go_wp2_with (go_at_call 10; refine (drsize_any W H _).mono ?_; rintro e ww ⟨rfl, rfl⟩; rw [E1.out])
  refine hK.out _ _ (hS5c) (fun hS5q12 => ?_)
  clear hK K
  refine wpAnyH_take (i := 13) (v := ?_) rfl (by kernel_rfl) (by kernel_rfl) (by kernel_rfl) (fun _ _ _ h => h) (Or.inl ⟨by kernel_rfl, by (intro wz hSz; go_simp; try with_reducible rfl)⟩) hS5q12 ?_
  go_simp
  refine wpAnyH_take (i := 14) (v := ?_) rfl (by kernel_rfl) (by kernel_rfl) (by kernel_rfl) (fun _ _ _ h => h) (Or.inl ⟨by kernel_rfl, by (intro wz hSz; go_simp; try with_reducible rfl)⟩) hS5q12 ?_
  go_simp
  refine wpAnyH_take (i := 15) (v := ?_) rfl (by kernel_rfl) (by kernel_rfl) (by kernel_rfl) (fun _ _ _ h => h) (Or.inl ⟨by kernel_rfl, by (intro wz hSz; go_simp; try with_reducible rfl)⟩) hS5q12 ?_
  go_simp
  refine wpAnyH_take (i := 16) (v := ?_) rfl (by kernel_rfl) (by kernel_rfl) (by kernel_rfl) (fun _ _ _ h => h) (Or.inl ⟨by kernel_rfl, by (intro wz hSz; go_simp; try with_reducible rfl)⟩) hS5q12 ?_
  go_simp
  refine wpAnyH_take (i := 17) (v := ?_) rfl (by kernel_rfl) (by kernel_rfl) (by kernel_rfl) (fun _ _ _ h => h) (Or.inl ⟨by kernel_rfl, by (intro wz hSz; have c0_0 := cell_of_row _ _ 0 _ _ _ hSz.1; have c0_1 := cell_of_row _ _ 1 _ _ _ hSz.1; have c0_2 := cell_of_row _ _ 2 _ _ _ hSz.1; have c0_3 := cell_of_row _ _ 3 _ _ _ hSz.1; have c0_4 := cell_of_row _ _ 4 _ _ _ hSz.1; have c0_5 := cell_of_row _ _ 5 _ _ _ hSz.1; have c0_6 := cell_of_row _ _ 6 _ _ _ hSz.1; have c0_7 := cell_of_row _ _ 7 _ _ _ hSz.1; have c1_0 := cell_of_row _ _ 0 _ _ _ hSz.2; have c1_1 := cell_of_row _ _ 1 _ _ _ hSz.2; have c1_2 := cell_of_row _ _ 2 _ _ _ hSz.2; have c1_3 := cell_of_row _ _ 3 _ _ _ hSz.2; have c1_4 := cell_of_row _ _ 4 _ _ _ hSz.2; have c1_5 := cell_of_row _ _ 5 _ _ _ hSz.2; have c1_6 := cell_of_row _ _ 6 _ _ _ hSz.2; have c1_7 := cell_of_row _ _ 7 _ _ _ hSz.2; simp at c0_0 c0_1 c0_2 c0_3 c0_4 c0_5 c0_6 c0_7 c1_0 c1_1 c1_2 c1_3 c1_4 c1_5 c1_6 c1_7; go_simp; try with_reducible rfl)⟩) hS5q12 ?_
  go_simp
  refine wpAnyH_take (i := 19) (v := ?_) rfl (by kernel_rfl) (by kernel_rfl) (by kernel_rfl) (fun _ _ _ h => h) (Or.inl ⟨by kernel_rfl, by (intro wz hSz; go_simp; try with_reducible rfl)⟩) hS5q12 ?_
  go_simp
  refine wpAnyH_take (i := 20) (v := ?_) rfl (by kernel_rfl) (by kernel_rfl) (by kernel_rfl) (fun _ _ _ h => h) (Or.inl ⟨by kernel_rfl, by (intro wz hSz; have c0_0 := cell_of_row _ _ 0 _ _ _ hSz.1; have c0_1 := cell_of_row _ _ 1 _ _ _ hSz.1; have c0_2 := cell_of_row _ _ 2 _ _ _ hSz.1; have c0_3 := cell_of_row _ _ 3 _ _ _ hSz.1; have c0_4 := cell_of_row _ _ 4 _ _ _ hSz.1; have c0_5 := cell_of_row _ _ 5 _ _ _ hSz.1; have c0_6 := cell_of_row _ _ 6 _ _ _ hSz.1; have c0_7 := cell_of_row _ _ 7 _ _ _ hSz.1; have c1_0 := cell_of_row _ _ 0 _ _ _ hSz.2; have c1_1 := cell_of_row _ _ 1 _ _ _ hSz.2; have c1_2 := cell_of_row _ _ 2 _ _ _ hSz.2; have c1_3 := cell_of_row _ _ 3 _ _ _ hSz.2; have c1_4 := cell_of_row _ _ 4 _ _ _ hSz.2; have c1_5 := cell_of_row _ _ 5 _ _ _ hSz.2; have c1_6 := cell_of_row _ _ 6 _ _ _ hSz.2; have c1_7 := cell_of_row _ _ 7 _ _ _ hSz.2; simp at c0_0 c0_1 c0_2 c0_3 c0_4 c0_5 c0_6 c0_7 c1_0 c1_1 c1_2 c1_3 c1_4 c1_5 c1_6 c1_7; go_simp; try with_reducible rfl)⟩) hS5q12 ?_
  go_simp
  refine wpAnyH_ready (rs := [18]) (by kernel_rfl) (by simp) ?_
  refine AllReadyH.cons rfl (fun K hK => ?_) AllReadyH.nil
  go_simp
  go_wp2_with (go_at_call 11; refine (shright_any W H al2 nl cl2 _).mono ?_; rintro e y6 ⟨rfl, hb6⟩; rw [E2.out]; have HAT6 := Lib.hid (HAT5.out.on hb6))
  have hr6_0 := (hb6.block _ (lt_heap hr5_0)).trans hr5_0
  have hr6_1 := (hb6.block _ (lt_heap hr5_1)).trans hr5_1
  have HU6 := Lib.hid (HU5.out.trans (hb6.mono HU5.out.size))
  refine hK.out _ _ (⟨(hb6.block _ (lt_heap hS5q12.1)).trans hS5q12.1, (hb6.block _ (lt_heap hS5q12.2)).trans hS5q12.2⟩) (fun hS6c => ?_)
  clear hK K
  refine wpAnyH_ready (rs := [21]) (by kernel_rfl) (by simp) ?_
  refine AllReadyH.cons rfl (fun K hK => ?_) AllReadyH.nil
  go_simp
  go_wp2_with (go_at_call 12; refine (drsheet_any W H al nl cl _).mono ?_; rintro e y7 ⟨rfl, hb7⟩; rw [E2.out]; have HAT7 := Lib.hid (HAT6.out.on hb7))
  have hr7_0 := (hb7.block _ (lt_heap hr6_0)).trans hr6_0
  have hr7_1 := (hb7.block _ (lt_heap hr6_1)).trans hr6_1
  have HU7 := Lib.hid (HU6.out.trans (hb7.mono HU6.out.size))
  refine hK.out _ _ (⟨(hb7.block _ (lt_heap hS6c.1)).trans hS6c.1, (hb7.block _ (lt_heap hS6c.2)).trans hS6c.2⟩) (fun hS7c => ?_)
  clear hK K
  refine wpAnyH_take (i := 22) (v := ?_) rfl (by kernel_rfl) (by kernel_rfl) (by kernel_rfl) (fun _ _ _ h => h) (Or.inl ⟨by kernel_rfl, by (intro wz hSz; go_simp; try with_reducible rfl)⟩) hS7c ?_
  go_simp
  refine wpAnyH_take (i := 23) (v := ?_) rfl (by kernel_rfl) (by kernel_rfl) (by kernel_rfl) (fun _ _ _ h => h) (Or.inl ⟨by kernel_rfl, by (intro wz hSz; go_simp; try with_reducible rfl)⟩) hS7c ?_
  go_simp
  refine wpAnyH_take (i := 24) (v := ?_) rfl (by kernel_rfl) (by kernel_rfl) (by kernel_rfl) (fun _ _ _ h => h) (Or.inl ⟨by kernel_rfl, by (intro wz hSz; go_simp; try with_reducible rfl)⟩) hS7c ?_
  go_simp
  refine wpAnyH_take (i := 25) (v := ?_) rfl (by kernel_rfl) (by kernel_rfl) (by kernel_rfl) (fun _ _ _ h => h) (Or.inl ⟨by kernel_rfl, by (intro wz hSz; have c0_0 := cell_of_row _ _ 0 _ _ _ hSz.1; have c0_1 := cell_of_row _ _ 1 _ _ _ hSz.1; have c0_2 := cell_of_row _ _ 2 _ _ _ hSz.1; have c0_3 := cell_of_row _ _ 3 _ _ _ hSz.1; have c0_4 := cell_of_row _ _ 4 _ _ _ hSz.1; have c0_5 := cell_of_row _ _ 5 _ _ _ hSz.1; have c0_6 := cell_of_row _ _ 6 _ _ _ hSz.1; have c0_7 := cell_of_row _ _ 7 _ _ _ hSz.1; have c1_0 := cell_of_row _ _ 0 _ _ _ hSz.2; have c1_1 := cell_of_row _ _ 1 _ _ _ hSz.2; have c1_2 := cell_of_row _ _ 2 _ _ _ hSz.2; have c1_3 := cell_of_row _ _ 3 _ _ _ hSz.2; have c1_4 := cell_of_row _ _ 4 _ _ _ hSz.2; have c1_5 := cell_of_row _ _ 5 _ _ _ hSz.2; have c1_6 := cell_of_row _ _ 6 _ _ _ hSz.2; have c1_7 := cell_of_row _ _ 7 _ _ _ hSz.2; simp at c0_0 c0_1 c0_2 c0_3 c0_4 c0_5 c0_6 c0_7 c1_0 c1_1 c1_2 c1_3 c1_4 c1_5 c1_6 c1_7; go_simp; try with_reducible rfl)⟩) hS7c ?_
  go_simp
  refine wpAnyH_take (i := 27) (v := ?_) rfl (by kernel_rfl) (by kernel_rfl) (by kernel_rfl) (fun _ _ _ h => h) (Or.inl ⟨by kernel_rfl, by (intro wz hSz; have c0_0 := cell_of_row _ _ 0 _ _ _ hSz.1; have c0_1 := cell_of_row _ _ 1 _ _ _ hSz.1; have c0_2 := cell_of_row _ _ 2 _ _ _ hSz.1; have c0_3 := cell_of_row _ _ 3 _ _ _ hSz.1; have c0_4 := cell_of_row _ _ 4 _ _ _ hSz.1; have c0_5 := cell_of_row _ _ 5 _ _ _ hSz.1; have c0_6 := cell_of_row _ _ 6 _ _ _ hSz.1; have c0_7 := cell_of_row _ _ 7 _ _ _ hSz.1; have c1_0 := cell_of_row _ _ 0 _ _ _ hSz.2; have c1_1 := cell_of_row _ _ 1 _ _ _ hSz.2; have c1_2 := cell_of_row _ _ 2 _ _ _ hSz.2; have c1_3 := cell_of_row _ _ 3 _ _ _ hSz.2; have c1_4 := cell_of_row _ _ 4 _ _ _ hSz.2; have c1_5 := cell_of_row _ _ 5 _ _ _ hSz.2; have c1_6 := cell_of_row _ _ 6 _ _ _ hSz.2; have c1_7 := cell_of_row _ _ 7 _ _ _ hSz.2; simp at c0_0 c0_1 c0_2 c0_3 c0_4 c0_5 c0_6 c0_7 c1_0 c1_1 c1_2 c1_3 c1_4 c1_5 c1_6 c1_7; go_simp; try with_reducible rfl)⟩) hS7c ?_
  go_simp
  refine wpAnyH_ready (rs := [26]) (by kernel_rfl) (by simp) ?_
  refine AllReadyH.cons rfl (fun K hK => ?_) AllReadyH.nil
  go_simp
  go_wp2_with (go_at_call 13; refine (fright_any (⟨W, H, nl, nd, nn, nb, ns, nf, L, D, N, B, S, F⟩ : Flm) (⟨al2, cl2, ad2, cd2, an2, cn2, ab2, cb2, ax2, cx2, af2, cf2⟩ : Pl) _ HAT7.out).mono ?_; rintro e y8 ⟨rfl, hb8⟩; rw [E3.out]; have HAT8 := Lib.hid (HAT7.out.on hb8))
  have hr8_0 := (hb8.block _ (lt_heap hr7_0)).trans hr7_0
  have hr8_1 := (hb8.block _ (lt_heap hr7_1)).trans hr7_1
  have HU8 := Lib.hid (HU7.out.trans (hb8.mono HU7.out.size))
  refine hK.out _ _ (⟨(hb8.block _ (lt_heap hS7c.1)).trans hS7c.1, (hb8.block _ (lt_heap hS7c.2)).trans hS7c.2⟩) (fun hS8c => ?_)
  clear hK K
  refine wpAnyH_ready (rs := [28]) (by kernel_rfl) (by simp) ?_
  refine AllReadyH.cons rfl (fun K hK => ?_) AllReadyH.nil
  go_simp
  go_wp2_with (go_at_call 14; refine (dright_any (⟨W, H, nl, nd, nn, nb, ns, nf, L, D, N, B, S, F⟩ : Flm) (⟨al, cl, ad, cd, an, cn, ab, cb, ax, cx, af, cf⟩ : Pl) _ (HC.out.at_.on HU8.out)).mono ?_; rintro e y9 ⟨rfl, hb9⟩; rw [E3.out]; have HAT9 := Lib.hid (HAT8.out.on hb9))
  have hr9_0 := (hb9.block _ (lt_heap hr8_0)).trans hr8_0
  have hr9_1 := (hb9.block _ (lt_heap hr8_1)).trans hr8_1
  have HU9 := Lib.hid (HU8.out.trans (hb9.mono HU8.out.size))
  refine hK.out _ _ (⟨(hb9.block _ (lt_heap hS8c.1)).trans hS8c.1, (hb9.block _ (lt_heap hS8c.2)).trans hS8c.2⟩) (fun hS9c => ?_)
  clear hK K
  refine wpAnyH_take (i := 29) (v := ?_) rfl (by kernel_rfl) (by kernel_rfl) (by kernel_rfl) (fun _ _ _ h => h) (Or.inl ⟨by kernel_rfl, by (intro wz hSz; go_simp; try with_reducible rfl)⟩) hS9c ?_
  go_simp
  refine wpAnyH_take (i := 30) (v := ?_) rfl (by kernel_rfl) (by kernel_rfl) (by kernel_rfl) (fun _ _ _ h => h) (Or.inl ⟨by kernel_rfl, by (intro wz hSz; go_simp; try with_reducible rfl)⟩) hS9c ?_
  go_simp
  refine wpAnyH_take (i := 31) (v := ?_) rfl (by kernel_rfl) (by kernel_rfl) (by kernel_rfl) (fun _ _ _ h => h) (Or.inl ⟨by kernel_rfl, by (intro wz hSz; go_simp; try with_reducible rfl)⟩) hS9c ?_
  go_simp
  refine wpAnyH_take (i := 32) (v := ?_) rfl (by kernel_rfl) (by kernel_rfl) (by kernel_rfl) (fun _ _ _ h => h) (Or.inl ⟨by kernel_rfl, by (intro wz hSz; go_simp; try with_reducible rfl)⟩) hS9c ?_
  go_simp
  refine wpAnyH_take (i := 33) (v := ?_) rfl (by kernel_rfl) (by kernel_rfl) (by kernel_rfl) (fun _ _ _ h => h) (Or.inl ⟨by kernel_rfl, by (intro wz hSz; go_simp; try with_reducible rfl)⟩) hS9c ?_
  go_simp
  refine wpAnyH_take (i := 34) (v := ?_) rfl (by kernel_rfl) (by kernel_rfl) (by kernel_rfl) (fun _ _ _ h => h) (Or.inl ⟨by kernel_rfl, by (intro wz hSz; have c0_0 := cell_of_row _ _ 0 _ _ _ hSz.1; have c0_1 := cell_of_row _ _ 1 _ _ _ hSz.1; have c0_2 := cell_of_row _ _ 2 _ _ _ hSz.1; have c0_3 := cell_of_row _ _ 3 _ _ _ hSz.1; have c0_4 := cell_of_row _ _ 4 _ _ _ hSz.1; have c0_5 := cell_of_row _ _ 5 _ _ _ hSz.1; have c0_6 := cell_of_row _ _ 6 _ _ _ hSz.1; have c0_7 := cell_of_row _ _ 7 _ _ _ hSz.1; have c1_0 := cell_of_row _ _ 0 _ _ _ hSz.2; have c1_1 := cell_of_row _ _ 1 _ _ _ hSz.2; have c1_2 := cell_of_row _ _ 2 _ _ _ hSz.2; have c1_3 := cell_of_row _ _ 3 _ _ _ hSz.2; have c1_4 := cell_of_row _ _ 4 _ _ _ hSz.2; have c1_5 := cell_of_row _ _ 5 _ _ _ hSz.2; have c1_6 := cell_of_row _ _ 6 _ _ _ hSz.2; have c1_7 := cell_of_row _ _ 7 _ _ _ hSz.2; simp at c0_0 c0_1 c0_2 c0_3 c0_4 c0_5 c0_6 c0_7 c1_0 c1_1 c1_2 c1_3 c1_4 c1_5 c1_6 c1_7; go_simp; try with_reducible rfl)⟩) hS9c ?_
  go_simp
  refine wpAnyH_take (i := 35) (v := ?_) rfl (by kernel_rfl) (by kernel_rfl) (by kernel_rfl) (fun _ _ _ h => h) (Or.inl ⟨by kernel_rfl, by (intro wz hSz; go_simp; try with_reducible rfl)⟩) hS9c ?_
  go_simp
  refine wpAnyH_take (i := 36) (v := ?_) rfl (by kernel_rfl) (by kernel_rfl) (by kernel_rfl) (fun _ _ _ h => h) (Or.inl ⟨by kernel_rfl, by (intro wz hSz; go_simp; try with_reducible rfl)⟩) hS9c ?_
  go_simp
  refine wpAnyH_take (i := 37) (v := ?_) rfl (by kernel_rfl) (by kernel_rfl) (by kernel_rfl) (fun _ _ _ h => h) (Or.inl ⟨by kernel_rfl, by (intro wz hSz; have c0_0 := cell_of_row _ _ 0 _ _ _ hSz.1; have c0_1 := cell_of_row _ _ 1 _ _ _ hSz.1; have c0_2 := cell_of_row _ _ 2 _ _ _ hSz.1; have c0_3 := cell_of_row _ _ 3 _ _ _ hSz.1; have c0_4 := cell_of_row _ _ 4 _ _ _ hSz.1; have c0_5 := cell_of_row _ _ 5 _ _ _ hSz.1; have c0_6 := cell_of_row _ _ 6 _ _ _ hSz.1; have c0_7 := cell_of_row _ _ 7 _ _ _ hSz.1; have c1_0 := cell_of_row _ _ 0 _ _ _ hSz.2; have c1_1 := cell_of_row _ _ 1 _ _ _ hSz.2; have c1_2 := cell_of_row _ _ 2 _ _ _ hSz.2; have c1_3 := cell_of_row _ _ 3 _ _ _ hSz.2; have c1_4 := cell_of_row _ _ 4 _ _ _ hSz.2; have c1_5 := cell_of_row _ _ 5 _ _ _ hSz.2; have c1_6 := cell_of_row _ _ 6 _ _ _ hSz.2; have c1_7 := cell_of_row _ _ 7 _ _ _ hSz.2; simp at c0_0 c0_1 c0_2 c0_3 c0_4 c0_5 c0_6 c0_7 c1_0 c1_1 c1_2 c1_3 c1_4 c1_5 c1_6 c1_7; go_simp; try with_reducible rfl)⟩) hS9c ?_
  go_simp
  refine wpAnyH_ready (rs := [38]) (by kernel_rfl) (by simp) ?_
  refine AllReadyH.cons rfl (fun K hK => ?_) AllReadyH.nil
  go_simp
  go_wp2_with (go_at_call 10; refine (drsize_any W H _).mono ?_; rintro e ww ⟨rfl, rfl⟩; rw [E1.out])
  refine hK.out _ _ (hS9c) (fun hS9q38 => ?_)
  clear hK K
  refine wpAnyH_take (i := 39) (v := ?_) rfl (by kernel_rfl) (by kernel_rfl) (by kernel_rfl) (fun _ _ _ h => h) (Or.inl ⟨by kernel_rfl, by (intro wz hSz; go_simp; try with_reducible rfl)⟩) hS9q38 ?_
  go_simp
  refine wpAnyH_take (i := 40) (v := ?_) rfl (by kernel_rfl) (by kernel_rfl) (by kernel_rfl) (fun _ _ _ h => h) (Or.inl ⟨by kernel_rfl, by (intro wz hSz; go_simp; try with_reducible rfl)⟩) hS9q38 ?_
  go_simp
  refine wpAnyH_take (i := 41) (v := ?_) rfl (by kernel_rfl) (by kernel_rfl) (by kernel_rfl) (fun _ _ _ h => h) (Or.inl ⟨by kernel_rfl, by (intro wz hSz; go_simp; try with_reducible rfl)⟩) hS9q38 ?_
  go_simp
  refine wpAnyH_take (i := 42) (v := ?_) rfl (by kernel_rfl) (by kernel_rfl) (by kernel_rfl) (fun _ _ _ h => h) (Or.inl ⟨by kernel_rfl, by (intro wz hSz; go_simp; try with_reducible rfl)⟩) hS9q38 ?_
  go_simp
  refine wpAnyH_take (i := 43) (v := ?_) rfl (by kernel_rfl) (by kernel_rfl) (by kernel_rfl) (fun _ _ _ h => h) (Or.inl ⟨by kernel_rfl, by (intro wz hSz; have c0_0 := cell_of_row _ _ 0 _ _ _ hSz.1; have c0_1 := cell_of_row _ _ 1 _ _ _ hSz.1; have c0_2 := cell_of_row _ _ 2 _ _ _ hSz.1; have c0_3 := cell_of_row _ _ 3 _ _ _ hSz.1; have c0_4 := cell_of_row _ _ 4 _ _ _ hSz.1; have c0_5 := cell_of_row _ _ 5 _ _ _ hSz.1; have c0_6 := cell_of_row _ _ 6 _ _ _ hSz.1; have c0_7 := cell_of_row _ _ 7 _ _ _ hSz.1; have c1_0 := cell_of_row _ _ 0 _ _ _ hSz.2; have c1_1 := cell_of_row _ _ 1 _ _ _ hSz.2; have c1_2 := cell_of_row _ _ 2 _ _ _ hSz.2; have c1_3 := cell_of_row _ _ 3 _ _ _ hSz.2; have c1_4 := cell_of_row _ _ 4 _ _ _ hSz.2; have c1_5 := cell_of_row _ _ 5 _ _ _ hSz.2; have c1_6 := cell_of_row _ _ 6 _ _ _ hSz.2; have c1_7 := cell_of_row _ _ 7 _ _ _ hSz.2; simp at c0_0 c0_1 c0_2 c0_3 c0_4 c0_5 c0_6 c0_7 c1_0 c1_1 c1_2 c1_3 c1_4 c1_5 c1_6 c1_7; go_simp; try with_reducible rfl)⟩) hS9q38 ?_
  go_simp
  refine wpAnyH_take (i := 45) (v := ?_) rfl (by kernel_rfl) (by kernel_rfl) (by kernel_rfl) (fun _ _ _ h => h) (Or.inl ⟨by kernel_rfl, by (intro wz hSz; go_simp; try with_reducible rfl)⟩) hS9q38 ?_
  go_simp
  refine wpAnyH_take (i := 46) (v := ?_) rfl (by kernel_rfl) (by kernel_rfl) (by kernel_rfl) (fun _ _ _ h => h) (Or.inl ⟨by kernel_rfl, by (intro wz hSz; go_simp; try with_reducible rfl)⟩) hS9q38 ?_
  go_simp
  refine wpAnyH_take (i := 47) (v := ?_) rfl (by kernel_rfl) (by kernel_rfl) (by kernel_rfl) (fun _ _ _ h => h) (Or.inl ⟨by kernel_rfl, by (intro wz hSz; have c0_0 := cell_of_row _ _ 0 _ _ _ hSz.1; have c0_1 := cell_of_row _ _ 1 _ _ _ hSz.1; have c0_2 := cell_of_row _ _ 2 _ _ _ hSz.1; have c0_3 := cell_of_row _ _ 3 _ _ _ hSz.1; have c0_4 := cell_of_row _ _ 4 _ _ _ hSz.1; have c0_5 := cell_of_row _ _ 5 _ _ _ hSz.1; have c0_6 := cell_of_row _ _ 6 _ _ _ hSz.1; have c0_7 := cell_of_row _ _ 7 _ _ _ hSz.1; have c1_0 := cell_of_row _ _ 0 _ _ _ hSz.2; have c1_1 := cell_of_row _ _ 1 _ _ _ hSz.2; have c1_2 := cell_of_row _ _ 2 _ _ _ hSz.2; have c1_3 := cell_of_row _ _ 3 _ _ _ hSz.2; have c1_4 := cell_of_row _ _ 4 _ _ _ hSz.2; have c1_5 := cell_of_row _ _ 5 _ _ _ hSz.2; have c1_6 := cell_of_row _ _ 6 _ _ _ hSz.2; have c1_7 := cell_of_row _ _ 7 _ _ _ hSz.2; simp at c0_0 c0_1 c0_2 c0_3 c0_4 c0_5 c0_6 c0_7 c1_0 c1_1 c1_2 c1_3 c1_4 c1_5 c1_6 c1_7; go_simp; try with_reducible rfl)⟩) hS9q38 ?_
  go_simp
  refine wpAnyH_take (i := 48) (v := ?_) rfl (by kernel_rfl) (by kernel_rfl) (by kernel_rfl) (fun _ _ _ h => h) (Or.inl ⟨by kernel_rfl, by (intro wz hSz; go_simp; try with_reducible rfl)⟩) hS9q38 ?_
  go_simp
  refine wpAnyH_take (i := 49) (v := ?_) rfl (by kernel_rfl) (by kernel_rfl) (by kernel_rfl) (fun _ _ _ h => h) (Or.inl ⟨by kernel_rfl, by (intro wz hSz; go_simp; try with_reducible rfl)⟩) hS9q38 ?_
  go_simp
  refine wpAnyH_take (i := 50) (v := ?_) rfl (by kernel_rfl) (by kernel_rfl) (by kernel_rfl) (fun _ _ _ h => h) (Or.inl ⟨by kernel_rfl, by (intro wz hSz; have c0_0 := cell_of_row _ _ 0 _ _ _ hSz.1; have c0_1 := cell_of_row _ _ 1 _ _ _ hSz.1; have c0_2 := cell_of_row _ _ 2 _ _ _ hSz.1; have c0_3 := cell_of_row _ _ 3 _ _ _ hSz.1; have c0_4 := cell_of_row _ _ 4 _ _ _ hSz.1; have c0_5 := cell_of_row _ _ 5 _ _ _ hSz.1; have c0_6 := cell_of_row _ _ 6 _ _ _ hSz.1; have c0_7 := cell_of_row _ _ 7 _ _ _ hSz.1; have c1_0 := cell_of_row _ _ 0 _ _ _ hSz.2; have c1_1 := cell_of_row _ _ 1 _ _ _ hSz.2; have c1_2 := cell_of_row _ _ 2 _ _ _ hSz.2; have c1_3 := cell_of_row _ _ 3 _ _ _ hSz.2; have c1_4 := cell_of_row _ _ 4 _ _ _ hSz.2; have c1_5 := cell_of_row _ _ 5 _ _ _ hSz.2; have c1_6 := cell_of_row _ _ 6 _ _ _ hSz.2; have c1_7 := cell_of_row _ _ 7 _ _ _ hSz.2; simp at c0_0 c0_1 c0_2 c0_3 c0_4 c0_5 c0_6 c0_7 c1_0 c1_1 c1_2 c1_3 c1_4 c1_5 c1_6 c1_7; go_simp; try with_reducible rfl)⟩) hS9q38 ?_
  go_simp
  refine wpAnyH_take (i := 51) (v := ?_) rfl (by kernel_rfl) (by kernel_rfl) (by kernel_rfl) (fun _ _ _ h => h) (Or.inl ⟨by kernel_rfl, by (intro wz hSz; go_simp; try with_reducible rfl)⟩) hS9q38 ?_
  go_simp
  refine wpAnyH_ready (rs := [44]) (by kernel_rfl) (by simp) ?_
  refine AllReadyH.cons rfl (fun K hK => ?_) AllReadyH.nil
  go_simp
  go_wp2_with (go_at_call 15; refine ((show Calls _ _ _ _ (fun e w' => e = .returned (.int .i64 m) ∧ Below _ _ w') from by rw [HM.out]; exact pix_ok W H HOK.out _)).mono ?_; rintro e y10 ⟨rfl, hb10⟩; have HAT10 := Lib.hid (HAT9.out.on hb10))
  have hr10_0 := (hb10.block _ (lt_heap hr9_0)).trans hr9_0
  have hr10_1 := (hb10.block _ (lt_heap hr9_1)).trans hr9_1
  have HU10 := Lib.hid (HU9.out.trans (hb10.mono HU9.out.size))
  refine hK.out _ _ (⟨(hb10.block _ (lt_heap hS9q38.1)).trans hS9q38.1, (hb10.block _ (lt_heap hS9q38.2)).trans hS9q38.2⟩) (fun hS10c => ?_)
  clear hK K
  refine wpAnyH_take (i := 52) (v := ?_) rfl (by kernel_rfl) (by kernel_rfl) (by kernel_rfl) (fun _ _ _ h => h) (Or.inl ⟨by kernel_rfl, by (intro wz hSz; go_simp; try with_reducible rfl)⟩) hS10c ?_
  go_simp
  refine wpAnyH_take (i := 53) (v := ?_) rfl (by kernel_rfl) (by kernel_rfl) (by kernel_rfl) (fun _ _ _ h => h) (Or.inl ⟨by kernel_rfl, by (intro wz hSz; go_simp; try with_reducible rfl)⟩) hS10c ?_
  go_simp
  refine wpAnyH_take (i := 54) (v := ?_) rfl (by kernel_rfl) (by kernel_rfl) (by kernel_rfl) (fun _ _ _ h => h) (Or.inl ⟨by kernel_rfl, by (intro wz hSz; go_simp; try with_reducible rfl)⟩) hS10c ?_
  go_simp
  refine wpAnyH_take (i := 55) (v := ?_) rfl (by kernel_rfl) (by kernel_rfl) (by kernel_rfl) (fun _ _ _ h => h) (Or.inl ⟨by kernel_rfl, by (intro wz hSz; go_simp; try with_reducible rfl)⟩) hS10c ?_
  go_simp
  refine wpAnyH_done (by kernel_rfl) ?_ _
  go_wp2
  go_ret
  exact ⟨rfl, HU10.out⟩

theorem walk (f : Flm) (p : Pl) (w : World) (hc : Came w f p) : Calls Try.prog 3 #[.agg (FC f p)] w fun e' w' => e' = .returned (.bool true) ∧ Below w.heap.size w w' := by
  obtain ⟨W, H, nl, nd, nn, nb, ns, nf, L, D, N, B, S, F⟩ := f
  obtain ⟨al, cl, ad, cd, an, cn, ab, cb, ax, cx, af, cf⟩ := p
  by_cases k1 : 5000 < nl
  · exact big_l W H al ad an ab ax af cl cd cn cb cx cf nl nd nn nb ns nf L D N B S F w hc k1
  by_cases k2 : 5000 < ns
  · exact big_s W H al ad an ab ax af cl cd cn cb cx cf nl nd nn nb ns nf L D N B S F w hc k1 k2
  by_cases e1 : okSz W H
  · exact case_1 W H al ad an ab ax af cl cd cn cb cx cf nl nd nn nb ns nf L D N B S F w hc k1 k2 _ _ (decide_eq_true e1) rfl rfl
  · exact case_0 W H al ad an ab ax af cl cd cn cb cx cf nl nd nn nb ns nf L D N B S F w hc k1 k2 _ _ (decide_eq_false e1) rfl rfl

end Go.Proofs.Ytgkfoiekminfmaa.filmRightsW
