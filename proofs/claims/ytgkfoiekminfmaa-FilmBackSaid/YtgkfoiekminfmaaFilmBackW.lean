/- FilmBack: the walk. -/
import Derived.Test.YtgkfoiekminfmaaFf
import Derived.Test.YtgkfoiekminfmaaFh
import Derived.Test.YtgkfoiekminfmaaFn
import Derived.Test.YtgkfoiekminfmaaFl
import Derived.Test.YtgkfoiekminfmaaFv
import Derived.Test.YtgkfoiekminfmaaFq
import Derived.Test.YtgkfoiekminfmaaFz
namespace Go.Proofs.Ytgkfoiekminfmaa.filmBackW
open Go Go.RowKit Go.Proofs.Ytgkfoiekminfmaa Go.Proofs.Ytgkfoiekminfmaa.Rp Go.Proofs.Ytgkfoiekminfmaa.Re Go.Proofs.Ytgkfoiekminfmaa.Au Go.Proofs.Ytgkfoiekminfmaa.Jw Go.Proofs.Ytgkfoiekminfmaa.Fm
set_option linter.unusedVariables false
set_option linter.unusedSimpArgs false

theorem own_bs_n {base : Nat} {w : World} {v : Value} {l : List UInt8} (h : w.ownsRow base 5 1 v l.length (vals l)) : Bs w v l := own_bs h

theorem encfilm_bs (f : Flm) (p : Pl) (w : World) (hr : FAt w f p) (h0 : okF f) :
    Calls Try.prog 17 #[.agg (FC f p)] w fun e' w' => (∃ b n c, e' = .returned (.tuple #[.slice b n c, .int .i64 0]) ∧ Bs w' (.slice b n c) (filmB f)) ∧ Below w.heap.size w w' := by
  refine (encfilm_any f p w hr).mono ?_
  rintro e w' ⟨⟨hn, -⟩ | ⟨-, b, n, c, rfl, how⟩, hb⟩
  · exact absurd h0 hn
  · exact ⟨⟨b, n, c, rfl, own_bs how⟩, hb⟩

theorem encfilm_nb (f : Flm) (p : Pl) (w : World) (hr : FAt w f p) (h0 : ¬ okF f) :
    Calls Try.prog 17 #[.agg (FC f p)] w fun e' w' => e' = .returned (.tuple #[.slice none 0 0, .int .i64 1]) ∧ Below w.heap.size w w' := by
  refine (encfilm_any f p w hr).mono ?_
  rintro e w' ⟨⟨-, he⟩ | ⟨ho, -⟩, hb⟩
  · exact ⟨he, hb⟩
  · exact absurd ho h0

theorem okF_small {f : Flm} (h : okF f) : f.nl ≤ 4096 ∧ f.nd ≤ 4096 ∧ f.nn ≤ 4096 ∧ f.nb ≤ 4096 ∧ f.ns ≤ 4096 ∧ f.nf ≤ 4096 := by
  obtain ⟨⟨hsz, hl⟩, hd, hn, hb, ⟨hns, ls⟩, ⟨hnf, lf⟩⟩ := h
  have hm := okSz_mul hsz
  omega

theorem okF_same {f g : Flm} (s : SameF f g) (h : okF g) : okF f := by
  obtain ⟨sW, sH, snl, snd, snn, snb, sns, snf, sL, sD, sN, sB, sS, sF⟩ := s
  obtain ⟨⟨hsz, hl⟩, hd, hn, hb, ⟨hns, ls⟩, ⟨hnf, lf⟩⟩ := h
  unfold okF okSh
  rw [sW, sH, snl, snd, snn, snb, sns, snf]
  exact ⟨⟨hsz, hl⟩, hd, hn, hb, ⟨hns, fun j hj => by rw [sS j (by omega)]; exact ls j hj⟩, ⟨hnf, fun j hj => by rw [sF j (by omega)]; exact lf j hj⟩⟩

theorem decback (f : Flm) (ho : okF f) (X : World) (ba : Option Addr) (bn bc : Nat) (hv : Bs X (.slice ba bn bc) (filmB f)) (hs : SpanF f) :
    Calls Try.prog 22 #[.slice ba bn bc] X fun e' w' => (∃ p : Pl, e' = .returned (.tuple #[.agg (FC f p), .int .i64 0]) ∧ FAt w' f p) ∧ Below X.heap.size X w' := by
  obtain ⟨h0, hsm⟩ := film_back f ho hs
  have hk := okF_small ho
  refine (decfilm_any (filmB f) ba bn bc X hv (by rw [filmB_length]; omega)).mono ?_
  rintro e w' ⟨⟨-, -, -, p, he, hat⟩ | ⟨hn, -⟩, hb⟩
  · exact ⟨⟨p, by rw [← FC_same hsm p]; exact he, hat.fat.same hsm⟩, hb⟩
  · exfalso
    apply hn
    unfold flR
    rw [if_pos h0, if_pos (okF_same hsm ho)]

set_option maxHeartbeats 16000000 in
set_option maxRecDepth 100000 in
theorem big_l (W H : Int) (al ad an ab ax af : Option Addr) (cl cd cn cb cx cf nl nd nn nb ns nf : Nat) (L D N B S F : Nat → Int) (ta : Option Addr) (tn tc : Nat) (l : List UInt8) (w : World) (hc : Came w (⟨W, H, nl, nd, nn, nb, ns, nf, L, D, N, B, S, F⟩ : Flm) (⟨al, cl, ad, cd, an, cn, ab, cb, ax, cx, af, cf⟩ : Pl)) (k1 : 5000 < nl) : Calls Try.prog 6 #[.agg #[.int .i64 W, .int .i64 H, .slice al nl cl, .slice ad nd cd, .slice an nn cn, .slice ab nb cb, .slice ax ns cx, .slice af nf cf], .slice ta tn tc] w fun e' w' => e' = .returned (.bool true) ∧ Below w.heap.size w w' := by
  have HC := Lib.hid hc
  clear hc
  have d1 := decide_eq_true (show (5000 : Int) < (nl : Int) by omega)
  go_enter Try.func6, Try.ntmps6
  go_upto_region 1 with fail
  have hR := Au.rows1 w (.cells #[.int .i64 W, .int .i64 H, .slice al nl cl, .slice ad nd cd, .slice an nn cn, .slice ab nb cb, .slice ax ns cx, .slice af nf cf] 29)
  have HUx := Ve.below_n1 w (.cells #[.int .i64 W, .int .i64 H, .slice al nl cl, .slice ad nd cd, .slice an nn cn, .slice ab nb cb, .slice ax ns cx, .slice af nf cf] 29)
  obtain ⟨y0, hy0⟩ : ∃ y0, w.alloc (.cells #[.int .i64 W, .int .i64 H, .slice al nl cl, .slice ad nd cd, .slice an nn cn, .slice ab nb cb, .slice ax ns cx, .slice af nf cf] 29) = y0 := ⟨_, rfl⟩
  rw [hy0] at hR HUx ⊢
  clear hy0
  have HU0 := Lib.hid HUx
  clear HUx
  have hr0_0 := hR
  clear hR
  have c0_0 := cell_of_row _ _ 0 _ _ _ hr0_0
  have c0_1 := cell_of_row _ _ 1 _ _ _ hr0_0
  have c0_2 := cell_of_row _ _ 2 _ _ _ hr0_0
  have c0_3 := cell_of_row _ _ 3 _ _ _ hr0_0
  have c0_4 := cell_of_row _ _ 4 _ _ _ hr0_0
  have c0_5 := cell_of_row _ _ 5 _ _ _ hr0_0
  have c0_6 := cell_of_row _ _ 6 _ _ _ hr0_0
  have c0_7 := cell_of_row _ _ 7 _ _ _ hr0_0
  simp at c0_0 c0_1 c0_2 c0_3 c0_4 c0_5 c0_6 c0_7
  go_wp2_with fail
  refine (awake_any _).mono ?_
  rintro e y1 ⟨rfl, hb1⟩
  clear c0_0 c0_1 c0_2 c0_3 c0_4 c0_5 c0_6 c0_7
  have hr1_0 := (hb1.block _ (lt_heap hr0_0)).trans hr0_0
  have HU1 := Lib.hid (HU0.out.trans (hb1.mono HU0.out.size))
  clear hr0_0 HU0
  go_wp2
  go_ret
  exact ⟨rfl, HU1.out⟩

set_option maxHeartbeats 16000000 in
set_option maxRecDepth 100000 in
theorem big_s (W H : Int) (al ad an ab ax af : Option Addr) (cl cd cn cb cx cf nl nd nn nb ns nf : Nat) (L D N B S F : Nat → Int) (ta : Option Addr) (tn tc : Nat) (l : List UInt8) (w : World) (hc : Came w (⟨W, H, nl, nd, nn, nb, ns, nf, L, D, N, B, S, F⟩ : Flm) (⟨al, cl, ad, cd, an, cn, ab, cb, ax, cx, af, cf⟩ : Pl)) (k1 : ¬ 5000 < nl) (k2 : 5000 < ns) : Calls Try.prog 6 #[.agg #[.int .i64 W, .int .i64 H, .slice al nl cl, .slice ad nd cd, .slice an nn cn, .slice ab nb cb, .slice ax ns cx, .slice af nf cf], .slice ta tn tc] w fun e' w' => e' = .returned (.bool true) ∧ Below w.heap.size w w' := by
  have HC := Lib.hid hc
  clear hc
  have d1 := decide_eq_false (show ¬ (5000 : Int) < (nl : Int) by omega)
  have d2 := decide_eq_true (show (5000 : Int) < (ns : Int) by omega)
  go_enter Try.func6, Try.ntmps6
  go_upto_region 1 with fail
  have hR := Au.rows1 w (.cells #[.int .i64 W, .int .i64 H, .slice al nl cl, .slice ad nd cd, .slice an nn cn, .slice ab nb cb, .slice ax ns cx, .slice af nf cf] 29)
  have HUx := Ve.below_n1 w (.cells #[.int .i64 W, .int .i64 H, .slice al nl cl, .slice ad nd cd, .slice an nn cn, .slice ab nb cb, .slice ax ns cx, .slice af nf cf] 29)
  obtain ⟨y0, hy0⟩ : ∃ y0, w.alloc (.cells #[.int .i64 W, .int .i64 H, .slice al nl cl, .slice ad nd cd, .slice an nn cn, .slice ab nb cb, .slice ax ns cx, .slice af nf cf] 29) = y0 := ⟨_, rfl⟩
  rw [hy0] at hR HUx ⊢
  clear hy0
  have HU0 := Lib.hid HUx
  clear HUx
  have hr0_0 := hR
  clear hR
  have c0_0 := cell_of_row _ _ 0 _ _ _ hr0_0
  have c0_1 := cell_of_row _ _ 1 _ _ _ hr0_0
  have c0_2 := cell_of_row _ _ 2 _ _ _ hr0_0
  have c0_3 := cell_of_row _ _ 3 _ _ _ hr0_0
  have c0_4 := cell_of_row _ _ 4 _ _ _ hr0_0
  have c0_5 := cell_of_row _ _ 5 _ _ _ hr0_0
  have c0_6 := cell_of_row _ _ 6 _ _ _ hr0_0
  have c0_7 := cell_of_row _ _ 7 _ _ _ hr0_0
  simp at c0_0 c0_1 c0_2 c0_3 c0_4 c0_5 c0_6 c0_7
  go_wp2_with fail
  refine (awake_any _).mono ?_
  rintro e y1 ⟨rfl, hb1⟩
  clear c0_0 c0_1 c0_2 c0_3 c0_4 c0_5 c0_6 c0_7
  have hr1_0 := (hb1.block _ (lt_heap hr0_0)).trans hr0_0
  have HU1 := Lib.hid (HU0.out.trans (hb1.mono HU0.out.size))
  clear hr0_0 HU0
  go_wp2
  go_ret
  exact ⟨rfl, HU1.out⟩

set_option maxHeartbeats 16000000 in
set_option maxRecDepth 100000 in
theorem case_0 (W H : Int) (al ad an ab ax af : Option Addr) (cl cd cn cb cx cf nl nd nn nb ns nf : Nat) (L D N B S F : Nat → Int) (ta : Option Addr) (tn tc : Nat) (l : List UInt8) (w : World) (hc : Came w (⟨W, H, nl, nd, nn, nb, ns, nf, L, D, N, B, S, F⟩ : Flm) (⟨al, cl, ad, cd, an, cn, ab, cb, ax, cx, af, cf⟩ : Pl)) (k1 : ¬ 5000 < nl) (k2 : ¬ 5000 < ns) (hv : Bs w (.slice ta tn tc) l) (e1 : ¬ okF (⟨W, H, nl, nd, nn, nb, ns, nf, L, D, N, B, S, F⟩ : Flm)) (er5 : Int) (h5 : ¬ er5 = 0) (C5 : ∀ X : World, Bs X (.slice ta tn tc) l → Calls Try.prog 22 #[.slice ta tn tc] X fun e' w' => e' = .returned (.tuple #[.agg #[.int .i64 0, .int .i64 0, .slice none 0 0, .slice none 0 0, .slice none 0 0, .slice none 0 0, .slice none 0 0, .slice none 0 0], .int .i64 er5]) ∧ Below X.heap.size X w') (er6 : Int) (h6 : ¬ er6 = 0) (C6 : ∀ X : World, Bs X (.slice ta tn tc) l → Calls Try.prog 20 #[.slice ta tn tc] X fun e' w' => e' = .returned (.tuple #[.agg #[.int .i64 0, .int .i64 0, .slice none 0 0], .int .i64 er6]) ∧ Below X.heap.size X w') : Calls Try.prog 6 #[.agg #[.int .i64 W, .int .i64 H, .slice al nl cl, .slice ad nd cd, .slice an nn cn, .slice ab nb cb, .slice ax ns cx, .slice af nf cf], .slice ta tn tc] w fun e' w' => e' = .returned (.bool true) ∧ Below w.heap.size w w' := by
  have HC := Lib.hid hc
  clear hc
  have d1 := decide_eq_false (show ¬ (5000 : Int) < (nl : Int) by omega)
  have d2 := decide_eq_false (show ¬ (5000 : Int) < (ns : Int) by omega)
  have HV := Lib.hid hv
  have E1 := Lib.hid e1
  clear hv e1
  have HC5 := Lib.hid C5
  have HC6 := Lib.hid C6
  clear C5 C6
  have q51 : (er5 != 0) = true := by simpa using h5
  have q52 : (er5 == 0) = false := by simpa using h5
  have q53 : ¬ er5 = 0 := h5
  clear h5
  have q61 : (er6 != 0) = true := by simpa using h6
  have q62 : (er6 == 0) = false := by simpa using h6
  have q63 : ¬ er6 = 0 := h6
  clear h6
  go_enter Try.func6, Try.ntmps6
  go_upto_region 1 with fail
  have hR := Au.rows1 w (.cells #[.int .i64 W, .int .i64 H, .slice al nl cl, .slice ad nd cd, .slice an nn cn, .slice ab nb cb, .slice ax ns cx, .slice af nf cf] 29)
  have HUx := Ve.below_n1 w (.cells #[.int .i64 W, .int .i64 H, .slice al nl cl, .slice ad nd cd, .slice an nn cn, .slice ab nb cb, .slice ax ns cx, .slice af nf cf] 29)
  obtain ⟨y0, hy0⟩ : ∃ y0, w.alloc (.cells #[.int .i64 W, .int .i64 H, .slice al nl cl, .slice ad nd cd, .slice an nn cn, .slice ab nb cb, .slice ax ns cx, .slice af nf cf] 29) = y0 := ⟨_, rfl⟩
  rw [hy0] at hR HUx ⊢
  clear hy0
  have HU0 := Lib.hid HUx
  clear HUx
  have hr0_0 := hR
  clear hR
  have c0_0 := cell_of_row _ _ 0 _ _ _ hr0_0
  have c0_1 := cell_of_row _ _ 1 _ _ _ hr0_0
  have c0_2 := cell_of_row _ _ 2 _ _ _ hr0_0
  have c0_3 := cell_of_row _ _ 3 _ _ _ hr0_0
  have c0_4 := cell_of_row _ _ 4 _ _ _ hr0_0
  have c0_5 := cell_of_row _ _ 5 _ _ _ hr0_0
  have c0_6 := cell_of_row _ _ 6 _ _ _ hr0_0
  have c0_7 := cell_of_row _ _ 7 _ _ _ hr0_0
  simp at c0_0 c0_1 c0_2 c0_3 c0_4 c0_5 c0_6 c0_7
  go_wp2_with fail
  refine (held_film (⟨W, H, nl, nd, nn, nb, ns, nf, L, D, N, B, S, F⟩ : Flm) (⟨al, cl, ad, cd, an, cn, ab, cb, ax, cx, af, cf⟩ : Pl) _ (HC.out.at_.on HU0.out) HC.out.bl HC.out.bd HC.out.bn HC.out.bb).mono ?_
  rintro e y1 ⟨t, rfl, hsp, hb1⟩
  clear c0_0 c0_1 c0_2 c0_3 c0_4 c0_5 c0_6 c0_7
  have hr1_0 := (hb1.block _ (lt_heap hr0_0)).trans hr0_0
  have HU1 := Lib.hid (HU0.out.trans (hb1.mono HU0.out.size))
  clear hr0_0 HU0
  have HSP := Lib.hid hsp
  clear hsp
  cases t
  case false =>
    have c0_0 := cell_of_row _ _ 0 _ _ _ hr1_0
    have c0_1 := cell_of_row _ _ 1 _ _ _ hr1_0
    have c0_2 := cell_of_row _ _ 2 _ _ _ hr1_0
    have c0_3 := cell_of_row _ _ 3 _ _ _ hr1_0
    have c0_4 := cell_of_row _ _ 4 _ _ _ hr1_0
    have c0_5 := cell_of_row _ _ 5 _ _ _ hr1_0
    have c0_6 := cell_of_row _ _ 6 _ _ _ hr1_0
    have c0_7 := cell_of_row _ _ 7 _ _ _ hr1_0
    simp at c0_0 c0_1 c0_2 c0_3 c0_4 c0_5 c0_6 c0_7
    go_wp2_with fail
    refine (awake_any _).mono ?_
    rintro e y2 ⟨rfl, hb2⟩
    clear c0_0 c0_1 c0_2 c0_3 c0_4 c0_5 c0_6 c0_7
    have hr2_0 := (hb2.block _ (lt_heap hr1_0)).trans hr1_0
    have HU2 := Lib.hid (HU1.out.trans (hb2.mono HU1.out.size))
    clear hr1_0 HU1
    go_wp2
    go_ret
    exact ⟨rfl, HU2.out⟩
  case true =>
    have HS := Lib.hid (HSP.out rfl)
    clear HSP
    have c0_0 := cell_of_row _ _ 0 _ _ _ hr1_0
    have c0_1 := cell_of_row _ _ 1 _ _ _ hr1_0
    have c0_2 := cell_of_row _ _ 2 _ _ _ hr1_0
    have c0_3 := cell_of_row _ _ 3 _ _ _ hr1_0
    have c0_4 := cell_of_row _ _ 4 _ _ _ hr1_0
    have c0_5 := cell_of_row _ _ 5 _ _ _ hr1_0
    have c0_6 := cell_of_row _ _ 6 _ _ _ hr1_0
    have c0_7 := cell_of_row _ _ 7 _ _ _ hr1_0
    simp at c0_0 c0_1 c0_2 c0_3 c0_4 c0_5 c0_6 c0_7
    go_wp2_with fail
    refine (to_film (⟨W, H, nl, nd, nn, nb, ns, nf, L, D, N, B, S, F⟩ : Flm) (⟨al, cl, ad, cd, an, cn, ab, cb, ax, cx, af, cf⟩ : Pl) _ (HC.out.at_.on HU1.out) HC.out.bl HC.out.bd HC.out.bn HC.out.bb HC.out.bs HC.out.bf HC.out.ks HC.out.kf).mono ?_
    rintro e y2 ⟨⟨⟨al2, cl2, ad2, cd2, an2, cn2, ab2, cb2, ax2, cx2, af2, cf2⟩, rfl, hat⟩, hb2⟩
    clear c0_0 c0_1 c0_2 c0_3 c0_4 c0_5 c0_6 c0_7
    have hr2_0 := (hb2.block _ (lt_heap hr1_0)).trans hr1_0
    have HU2 := Lib.hid (HU1.out.trans (hb2.mono HU1.out.size))
    clear hr1_0 HU1
    have HAT2 := Lib.hid (hat)
    clear hat
    go_wp2_with fail
    refine (encfilm_nb (⟨W, H, nl, nd, nn, nb, ns, nf, L, D, N, B, S, F⟩ : Flm) (⟨al2, cl2, ad2, cd2, an2, cn2, ab2, cb2, ax2, cx2, af2, cf2⟩ : Pl) _ HAT2.out E1.out).mono ?_
    rintro e y3 ⟨rfl, hb3⟩
    have hr3_0 := (hb3.block _ (lt_heap hr2_0)).trans hr2_0
    have HU3 := Lib.hid (HU2.out.trans (hb3.mono HU2.out.size))
    clear hr2_0 HU2
    have HAT3 := Lib.hid (HAT2.out.on hb3)
    clear HAT2
    clear HAT3
    have c0_0 := cell_of_row _ _ 0 _ _ _ hr3_0
    have c0_1 := cell_of_row _ _ 1 _ _ _ hr3_0
    have c0_2 := cell_of_row _ _ 2 _ _ _ hr3_0
    have c0_3 := cell_of_row _ _ 3 _ _ _ hr3_0
    have c0_4 := cell_of_row _ _ 4 _ _ _ hr3_0
    have c0_5 := cell_of_row _ _ 5 _ _ _ hr3_0
    have c0_6 := cell_of_row _ _ 6 _ _ _ hr3_0
    have c0_7 := cell_of_row _ _ 7 _ _ _ hr3_0
    simp at c0_0 c0_1 c0_2 c0_3 c0_4 c0_5 c0_6 c0_7
    go_wp2_with fail
    refine (HC5.out _ (HV.out.on HU3.out)).mono ?_
    rintro e y4 ⟨rfl, hb4⟩
    clear c0_0 c0_1 c0_2 c0_3 c0_4 c0_5 c0_6 c0_7
    have hr4_0 := (hb4.block _ (lt_heap hr3_0)).trans hr3_0
    have HU4 := Lib.hid (HU3.out.trans (hb4.mono HU3.out.size))
    clear hr3_0 HU3
    go_upto_region 9 with fail
    have hb5 := Ve.below_n1 y4 (.cells #[.int .i64 0, .int .i64 0, .slice none 0 0, .slice none 0 0, .slice none 0 0, .slice none 0 0, .slice none 0 0, .slice none 0 0] 39)
    have hN := heap_alloc_last y4 (.cells #[.int .i64 0, .int .i64 0, .slice none 0 0, .slice none 0 0, .slice none 0 0, .slice none 0 0, .slice none 0 0, .slice none 0 0] 39)
    obtain ⟨y5, hy5⟩ : ∃ y, y4.alloc (.cells #[.int .i64 0, .int .i64 0, .slice none 0 0, .slice none 0 0, .slice none 0 0, .slice none 0 0, .slice none 0 0, .slice none 0 0] 39) = y := ⟨_, rfl⟩
    have hs5 : y5.heap.size = y4.heap.size + 1 := by rw [← hy5]; simp
    rw [hy5] at hb5 hN ⊢
    clear hy5
    have hl5_0 := lt_heap hr4_0
    have hr5_0 := (hb5.block _ (lt_heap hr4_0)).trans hr4_0
    have HU5 := Lib.hid (HU4.out.trans (hb5.mono HU4.out.size))
    clear hr4_0 HU4
    have hr5_1 := hN
    clear hN
    have c0_0 := cell_of_row _ _ 0 _ _ _ hr5_0
    have c0_1 := cell_of_row _ _ 1 _ _ _ hr5_0
    have c0_2 := cell_of_row _ _ 2 _ _ _ hr5_0
    have c0_3 := cell_of_row _ _ 3 _ _ _ hr5_0
    have c0_4 := cell_of_row _ _ 4 _ _ _ hr5_0
    have c0_5 := cell_of_row _ _ 5 _ _ _ hr5_0
    have c0_6 := cell_of_row _ _ 6 _ _ _ hr5_0
    have c0_7 := cell_of_row _ _ 7 _ _ _ hr5_0
    simp at c0_0 c0_1 c0_2 c0_3 c0_4 c0_5 c0_6 c0_7
    go_wp2_with fail
    refine (HC6.out _ (HV.out.on HU5.out)).mono ?_
    rintro e y6 ⟨rfl, hb6⟩
    clear c0_0 c0_1 c0_2 c0_3 c0_4 c0_5 c0_6 c0_7
    have hr6_0 := (hb6.block _ (lt_heap hr5_0)).trans hr5_0
    have hr6_1 := (hb6.block _ (lt_heap hr5_1)).trans hr5_1
    have HU6 := Lib.hid (HU5.out.trans (hb6.mono HU5.out.size))
    clear hr5_0 hr5_1 HU5
    go_upto_region 14 with fail
    have hb7 := Ve.below_n1 y6 (.cells #[.int .i64 0, .int .i64 0, .slice none 0 0] 35)
    have hN := heap_alloc_last y6 (.cells #[.int .i64 0, .int .i64 0, .slice none 0 0] 35)
    obtain ⟨y7, hy7⟩ : ∃ y, y6.alloc (.cells #[.int .i64 0, .int .i64 0, .slice none 0 0] 35) = y := ⟨_, rfl⟩
    have hs7 : y7.heap.size = y6.heap.size + 1 := by rw [← hy7]; simp
    rw [hy7] at hb7 hN ⊢
    clear hy7
    have hl7_0 := lt_heap hr6_0
    have hl7_1 := lt_heap hr6_1
    have hr7_0 := (hb7.block _ (lt_heap hr6_0)).trans hr6_0
    have hr7_1 := (hb7.block _ (lt_heap hr6_1)).trans hr6_1
    have HU7 := Lib.hid (HU6.out.trans (hb7.mono HU6.out.size))
    clear hr6_0 hr6_1 HU6
    have hr7_2 := hN
    clear hN
    have c0_0 := cell_of_row _ _ 0 _ _ _ hr7_0
    have c0_1 := cell_of_row _ _ 1 _ _ _ hr7_0
    have c0_2 := cell_of_row _ _ 2 _ _ _ hr7_0
    have c0_3 := cell_of_row _ _ 3 _ _ _ hr7_0
    have c0_4 := cell_of_row _ _ 4 _ _ _ hr7_0
    have c0_5 := cell_of_row _ _ 5 _ _ _ hr7_0
    have c0_6 := cell_of_row _ _ 6 _ _ _ hr7_0
    have c0_7 := cell_of_row _ _ 7 _ _ _ hr7_0
    simp at c0_0 c0_1 c0_2 c0_3 c0_4 c0_5 c0_6 c0_7
    go_wp2_with fail
    refine (awake_any _).mono ?_
    rintro e y8 ⟨rfl, hb8⟩
    clear c0_0 c0_1 c0_2 c0_3 c0_4 c0_5 c0_6 c0_7
    have hr8_0 := (hb8.block _ (lt_heap hr7_0)).trans hr7_0
    have hr8_1 := (hb8.block _ (lt_heap hr7_1)).trans hr7_1
    have hr8_2 := (hb8.block _ (lt_heap hr7_2)).trans hr7_2
    have HU8 := Lib.hid (HU7.out.trans (hb8.mono HU7.out.size))
    clear hr7_0 hr7_1 hr7_2 HU7
    go_wp2
    go_ret
    exact ⟨rfl, HU8.out⟩

set_option maxHeartbeats 16000000 in
set_option maxRecDepth 100000 in
theorem case_1 (W H : Int) (al ad an ab ax af : Option Addr) (cl cd cn cb cx cf nl nd nn nb ns nf : Nat) (L D N B S F : Nat → Int) (ta : Option Addr) (tn tc : Nat) (l : List UInt8) (w : World) (hc : Came w (⟨W, H, nl, nd, nn, nb, ns, nf, L, D, N, B, S, F⟩ : Flm) (⟨al, cl, ad, cd, an, cn, ab, cb, ax, cx, af, cf⟩ : Pl)) (k1 : ¬ 5000 < nl) (k2 : ¬ 5000 < ns) (hv : Bs w (.slice ta tn tc) l) (e1 : ¬ okF (⟨W, H, nl, nd, nn, nb, ns, nf, L, D, N, B, S, F⟩ : Flm)) (er5 : Int) (h5 : ¬ er5 = 0) (C5 : ∀ X : World, Bs X (.slice ta tn tc) l → Calls Try.prog 22 #[.slice ta tn tc] X fun e' w' => e' = .returned (.tuple #[.agg #[.int .i64 0, .int .i64 0, .slice none 0 0, .slice none 0 0, .slice none 0 0, .slice none 0 0, .slice none 0 0, .slice none 0 0], .int .i64 er5]) ∧ Below X.heap.size X w') (W6 H6 : Int) (n6 : Nat) (L6 : Nat → Int) (C6 : ∀ X : World, Bs X (.slice ta tn tc) l → Calls Try.prog 20 #[.slice ta tn tc] X fun e' w' => (∃ a c, e' = .returned (.tuple #[.agg #[.int .i64 W6, .int .i64 H6, .slice a n6 c], .int .i64 0]) ∧ Rw 3 w' a n6 L6) ∧ Below X.heap.size X w') (ok6 : okSh W6 H6 n6) (lb6 : sheetB W6 H6 n6 L6 = l) : Calls Try.prog 6 #[.agg #[.int .i64 W, .int .i64 H, .slice al nl cl, .slice ad nd cd, .slice an nn cn, .slice ab nb cb, .slice ax ns cx, .slice af nf cf], .slice ta tn tc] w fun e' w' => e' = .returned (.bool true) ∧ Below w.heap.size w w' := by
  have HC := Lib.hid hc
  clear hc
  have d1 := decide_eq_false (show ¬ (5000 : Int) < (nl : Int) by omega)
  have d2 := decide_eq_false (show ¬ (5000 : Int) < (ns : Int) by omega)
  have HV := Lib.hid hv
  have E1 := Lib.hid e1
  clear hv e1
  have HC5 := Lib.hid C5
  have HC6 := Lib.hid C6
  clear C5 C6
  have q51 : (er5 != 0) = true := by simpa using h5
  have q52 : (er5 == 0) = false := by simpa using h5
  have q53 : ¬ er5 = 0 := h5
  clear h5
  have OK6 := Lib.hid ok6
  have LB6 := Lib.hid lb6
  clear ok6 lb6
  go_enter Try.func6, Try.ntmps6
  go_upto_region 1 with fail
  have hR := Au.rows1 w (.cells #[.int .i64 W, .int .i64 H, .slice al nl cl, .slice ad nd cd, .slice an nn cn, .slice ab nb cb, .slice ax ns cx, .slice af nf cf] 29)
  have HUx := Ve.below_n1 w (.cells #[.int .i64 W, .int .i64 H, .slice al nl cl, .slice ad nd cd, .slice an nn cn, .slice ab nb cb, .slice ax ns cx, .slice af nf cf] 29)
  obtain ⟨y0, hy0⟩ : ∃ y0, w.alloc (.cells #[.int .i64 W, .int .i64 H, .slice al nl cl, .slice ad nd cd, .slice an nn cn, .slice ab nb cb, .slice ax ns cx, .slice af nf cf] 29) = y0 := ⟨_, rfl⟩
  rw [hy0] at hR HUx ⊢
  clear hy0
  have HU0 := Lib.hid HUx
  clear HUx
  have hr0_0 := hR
  clear hR
  have c0_0 := cell_of_row _ _ 0 _ _ _ hr0_0
  have c0_1 := cell_of_row _ _ 1 _ _ _ hr0_0
  have c0_2 := cell_of_row _ _ 2 _ _ _ hr0_0
  have c0_3 := cell_of_row _ _ 3 _ _ _ hr0_0
  have c0_4 := cell_of_row _ _ 4 _ _ _ hr0_0
  have c0_5 := cell_of_row _ _ 5 _ _ _ hr0_0
  have c0_6 := cell_of_row _ _ 6 _ _ _ hr0_0
  have c0_7 := cell_of_row _ _ 7 _ _ _ hr0_0
  simp at c0_0 c0_1 c0_2 c0_3 c0_4 c0_5 c0_6 c0_7
  go_wp2_with fail
  refine (held_film (⟨W, H, nl, nd, nn, nb, ns, nf, L, D, N, B, S, F⟩ : Flm) (⟨al, cl, ad, cd, an, cn, ab, cb, ax, cx, af, cf⟩ : Pl) _ (HC.out.at_.on HU0.out) HC.out.bl HC.out.bd HC.out.bn HC.out.bb).mono ?_
  rintro e y1 ⟨t, rfl, hsp, hb1⟩
  clear c0_0 c0_1 c0_2 c0_3 c0_4 c0_5 c0_6 c0_7
  have hr1_0 := (hb1.block _ (lt_heap hr0_0)).trans hr0_0
  have HU1 := Lib.hid (HU0.out.trans (hb1.mono HU0.out.size))
  clear hr0_0 HU0
  have HSP := Lib.hid hsp
  clear hsp
  cases t
  case false =>
    have c0_0 := cell_of_row _ _ 0 _ _ _ hr1_0
    have c0_1 := cell_of_row _ _ 1 _ _ _ hr1_0
    have c0_2 := cell_of_row _ _ 2 _ _ _ hr1_0
    have c0_3 := cell_of_row _ _ 3 _ _ _ hr1_0
    have c0_4 := cell_of_row _ _ 4 _ _ _ hr1_0
    have c0_5 := cell_of_row _ _ 5 _ _ _ hr1_0
    have c0_6 := cell_of_row _ _ 6 _ _ _ hr1_0
    have c0_7 := cell_of_row _ _ 7 _ _ _ hr1_0
    simp at c0_0 c0_1 c0_2 c0_3 c0_4 c0_5 c0_6 c0_7
    go_wp2_with fail
    refine (awake_any _).mono ?_
    rintro e y2 ⟨rfl, hb2⟩
    clear c0_0 c0_1 c0_2 c0_3 c0_4 c0_5 c0_6 c0_7
    have hr2_0 := (hb2.block _ (lt_heap hr1_0)).trans hr1_0
    have HU2 := Lib.hid (HU1.out.trans (hb2.mono HU1.out.size))
    clear hr1_0 HU1
    go_wp2
    go_ret
    exact ⟨rfl, HU2.out⟩
  case true =>
    have HS := Lib.hid (HSP.out rfl)
    clear HSP
    have c0_0 := cell_of_row _ _ 0 _ _ _ hr1_0
    have c0_1 := cell_of_row _ _ 1 _ _ _ hr1_0
    have c0_2 := cell_of_row _ _ 2 _ _ _ hr1_0
    have c0_3 := cell_of_row _ _ 3 _ _ _ hr1_0
    have c0_4 := cell_of_row _ _ 4 _ _ _ hr1_0
    have c0_5 := cell_of_row _ _ 5 _ _ _ hr1_0
    have c0_6 := cell_of_row _ _ 6 _ _ _ hr1_0
    have c0_7 := cell_of_row _ _ 7 _ _ _ hr1_0
    simp at c0_0 c0_1 c0_2 c0_3 c0_4 c0_5 c0_6 c0_7
    go_wp2_with fail
    refine (to_film (⟨W, H, nl, nd, nn, nb, ns, nf, L, D, N, B, S, F⟩ : Flm) (⟨al, cl, ad, cd, an, cn, ab, cb, ax, cx, af, cf⟩ : Pl) _ (HC.out.at_.on HU1.out) HC.out.bl HC.out.bd HC.out.bn HC.out.bb HC.out.bs HC.out.bf HC.out.ks HC.out.kf).mono ?_
    rintro e y2 ⟨⟨⟨al2, cl2, ad2, cd2, an2, cn2, ab2, cb2, ax2, cx2, af2, cf2⟩, rfl, hat⟩, hb2⟩
    clear c0_0 c0_1 c0_2 c0_3 c0_4 c0_5 c0_6 c0_7
    have hr2_0 := (hb2.block _ (lt_heap hr1_0)).trans hr1_0
    have HU2 := Lib.hid (HU1.out.trans (hb2.mono HU1.out.size))
    clear hr1_0 HU1
    have HAT2 := Lib.hid (hat)
    clear hat
    go_wp2_with fail
    refine (encfilm_nb (⟨W, H, nl, nd, nn, nb, ns, nf, L, D, N, B, S, F⟩ : Flm) (⟨al2, cl2, ad2, cd2, an2, cn2, ab2, cb2, ax2, cx2, af2, cf2⟩ : Pl) _ HAT2.out E1.out).mono ?_
    rintro e y3 ⟨rfl, hb3⟩
    have hr3_0 := (hb3.block _ (lt_heap hr2_0)).trans hr2_0
    have HU3 := Lib.hid (HU2.out.trans (hb3.mono HU2.out.size))
    clear hr2_0 HU2
    have HAT3 := Lib.hid (HAT2.out.on hb3)
    clear HAT2
    clear HAT3
    have c0_0 := cell_of_row _ _ 0 _ _ _ hr3_0
    have c0_1 := cell_of_row _ _ 1 _ _ _ hr3_0
    have c0_2 := cell_of_row _ _ 2 _ _ _ hr3_0
    have c0_3 := cell_of_row _ _ 3 _ _ _ hr3_0
    have c0_4 := cell_of_row _ _ 4 _ _ _ hr3_0
    have c0_5 := cell_of_row _ _ 5 _ _ _ hr3_0
    have c0_6 := cell_of_row _ _ 6 _ _ _ hr3_0
    have c0_7 := cell_of_row _ _ 7 _ _ _ hr3_0
    simp at c0_0 c0_1 c0_2 c0_3 c0_4 c0_5 c0_6 c0_7
    go_wp2_with fail
    refine (HC5.out _ (HV.out.on HU3.out)).mono ?_
    rintro e y4 ⟨rfl, hb4⟩
    clear c0_0 c0_1 c0_2 c0_3 c0_4 c0_5 c0_6 c0_7
    have hr4_0 := (hb4.block _ (lt_heap hr3_0)).trans hr3_0
    have HU4 := Lib.hid (HU3.out.trans (hb4.mono HU3.out.size))
    clear hr3_0 HU3
    go_upto_region 9 with fail
    have hb5 := Ve.below_n1 y4 (.cells #[.int .i64 0, .int .i64 0, .slice none 0 0, .slice none 0 0, .slice none 0 0, .slice none 0 0, .slice none 0 0, .slice none 0 0] 39)
    have hN := heap_alloc_last y4 (.cells #[.int .i64 0, .int .i64 0, .slice none 0 0, .slice none 0 0, .slice none 0 0, .slice none 0 0, .slice none 0 0, .slice none 0 0] 39)
    obtain ⟨y5, hy5⟩ : ∃ y, y4.alloc (.cells #[.int .i64 0, .int .i64 0, .slice none 0 0, .slice none 0 0, .slice none 0 0, .slice none 0 0, .slice none 0 0, .slice none 0 0] 39) = y := ⟨_, rfl⟩
    have hs5 : y5.heap.size = y4.heap.size + 1 := by rw [← hy5]; simp
    rw [hy5] at hb5 hN ⊢
    clear hy5
    have hl5_0 := lt_heap hr4_0
    have hr5_0 := (hb5.block _ (lt_heap hr4_0)).trans hr4_0
    have HU5 := Lib.hid (HU4.out.trans (hb5.mono HU4.out.size))
    clear hr4_0 HU4
    have hr5_1 := hN
    clear hN
    have c0_0 := cell_of_row _ _ 0 _ _ _ hr5_0
    have c0_1 := cell_of_row _ _ 1 _ _ _ hr5_0
    have c0_2 := cell_of_row _ _ 2 _ _ _ hr5_0
    have c0_3 := cell_of_row _ _ 3 _ _ _ hr5_0
    have c0_4 := cell_of_row _ _ 4 _ _ _ hr5_0
    have c0_5 := cell_of_row _ _ 5 _ _ _ hr5_0
    have c0_6 := cell_of_row _ _ 6 _ _ _ hr5_0
    have c0_7 := cell_of_row _ _ 7 _ _ _ hr5_0
    simp at c0_0 c0_1 c0_2 c0_3 c0_4 c0_5 c0_6 c0_7
    go_wp2_with fail
    refine (HC6.out _ (HV.out.on HU5.out)).mono ?_
    rintro e y6 ⟨⟨a6, c6, rfl, hat⟩, hb6⟩
    clear c0_0 c0_1 c0_2 c0_3 c0_4 c0_5 c0_6 c0_7
    have hr6_0 := (hb6.block _ (lt_heap hr5_0)).trans hr5_0
    have hr6_1 := (hb6.block _ (lt_heap hr5_1)).trans hr5_1
    have HU6 := Lib.hid (HU5.out.trans (hb6.mono HU5.out.size))
    clear hr5_0 hr5_1 HU5
    have HH6 := Lib.hid (hat)
    clear hat
    have c0_0 := cell_of_row _ _ 0 _ _ _ hr6_0
    have c0_1 := cell_of_row _ _ 1 _ _ _ hr6_0
    have c0_2 := cell_of_row _ _ 2 _ _ _ hr6_0
    have c0_3 := cell_of_row _ _ 3 _ _ _ hr6_0
    have c0_4 := cell_of_row _ _ 4 _ _ _ hr6_0
    have c0_5 := cell_of_row _ _ 5 _ _ _ hr6_0
    have c0_6 := cell_of_row _ _ 6 _ _ _ hr6_0
    have c0_7 := cell_of_row _ _ 7 _ _ _ hr6_0
    have c1_0 := cell_of_row _ _ 0 _ _ _ hr6_1
    have c1_1 := cell_of_row _ _ 1 _ _ _ hr6_1
    have c1_2 := cell_of_row _ _ 2 _ _ _ hr6_1
    have c1_3 := cell_of_row _ _ 3 _ _ _ hr6_1
    have c1_4 := cell_of_row _ _ 4 _ _ _ hr6_1
    have c1_5 := cell_of_row _ _ 5 _ _ _ hr6_1
    have c1_6 := cell_of_row _ _ 6 _ _ _ hr6_1
    have c1_7 := cell_of_row _ _ 7 _ _ _ hr6_1
    simp at c0_0 c0_1 c0_2 c0_3 c0_4 c0_5 c0_6 c0_7 c1_0 c1_1 c1_2 c1_3 c1_4 c1_5 c1_6 c1_7
    have HA := Lib.hid (heap_alloc_last y6 (.cells #[.int .i64 0, .int .i64 0, .slice none 0 0] 35))
    have hHi := Lib.hid (show (Try.prog.info? 35).map (·.size) = some (#[.int .i64 W6, .int .i64 H6, .slice a6 n6 c6] : Array Value).size by kernel_rfl)
    have hHz := Lib.hid (show (#[.int .i64 0, .int .i64 0, .slice none 0 0] : Array Value).size = (#[.int .i64 W6, .int .i64 H6, .slice a6 n6 c6] : Array Value).size from rfl)
    have hHo := Lib.hid (show (#[.int .i64 W6, .int .i64 H6, .slice a6 n6 c6] : Array Value).all (·.oneCell') = true by simp [Value.oneCell'])
    go_upto_region 14 with (refine Au.wpList_store_row rfl 35 (.tmp 13) (.tmp 80) rfl (y6.alloc (.cells #[.int .i64 0, .int .i64 0, .slice none 0 0] 35)) #[.int .i64 0, .int .i64 0, .slice none 0 0] #[.int .i64 W6, .int .i64 H6, .slice a6 n6 c6] (y6.heap.size) 35 HA.out rfl rfl hHi.out hHz.out hHo.out ?_)
    clear c0_0 c0_1 c0_2 c0_3 c0_4 c0_5 c0_6 c0_7 c1_0 c1_1 c1_2 c1_3 c1_4 c1_5 c1_6 c1_7
    clear hHi hHz hHo
    have hN := setRow_heap _ (y6.heap.size) _ #[.int .i64 W6, .int .i64 H6, .slice a6 n6 c6] _ _ HA.out
    clear HA
    have hsz := HU6.out.size
    have hb := Ve.below_n1 y6 (.cells #[.int .i64 0, .int .i64 0, .slice none 0 0] 35)
    have HUx := below_setRow (g := y6.heap.size) (HU6.out.trans (hb.mono HU6.out.size)) (by omega) #[.int .i64 W6, .int .i64 H6, .slice a6 n6 c6]
    have hO : ∀ kk, kk < y6.heap.size → ((y6.alloc (.cells #[.int .i64 0, .int .i64 0, .slice none 0 0] 35)).setRow (y6.heap.size) #[.int .i64 W6, .int .i64 H6, .slice a6 n6 c6]).heap[kk]? = y6.heap[kk]? := fun kk hk => (setRow_other _ _ _ _ (by omega)).trans (hb.block _ hk)
    obtain ⟨y7, hy7⟩ : ∃ y, (y6.alloc (.cells #[.int .i64 0, .int .i64 0, .slice none 0 0] 35)).setRow (y6.heap.size) #[.int .i64 W6, .int .i64 H6, .slice a6 n6 c6] = y := ⟨_, rfl⟩
    have hs7 : y7.heap.size = y6.heap.size + 1 := by rw [← hy7]; simp [World.setRow]
    rw [hy7] at hN HUx hO ⊢
    clear hy7 hsz hb
    have HU7 := Lib.hid HUx
    clear HUx
    have hl7_0 := lt_heap hr6_0
    have hr7_0 := (hO _ hl7_0).trans hr6_0
    have hl7_1 := lt_heap hr6_1
    have hr7_1 := (hO _ hl7_1).trans hr6_1
    have hr7_2 := hN
    have hKK := hO
    clear hN hO
    clear hr6_0 hr6_1 HU6
    have HH7 := Lib.hid ((HH6.out.low.keep (fun b hb => hKK b hb)).rw (by decide))
    clear HH6
    clear hKK
    have c2_0 := cell_of_row _ _ 0 _ _ _ hr7_2
    have c2_1 := cell_of_row _ _ 1 _ _ _ hr7_2
    have c2_2 := cell_of_row _ _ 2 _ _ _ hr7_2
    simp at c2_0 c2_1 c2_2
    go_wp2_with fail
    refine (encsheet_ok W6 H6 a6 c6 n6 L6 _ HH7.out OK6.out).mono ?_
    rintro e y8 ⟨⟨ja, jn, jc, rfl, how⟩, hb8⟩
    clear c2_0 c2_1 c2_2
    have hr8_0 := (hb8.block _ (lt_heap hr7_0)).trans hr7_0
    have hr8_1 := (hb8.block _ (lt_heap hr7_1)).trans hr7_1
    have hr8_2 := (hb8.block _ (lt_heap hr7_2)).trans hr7_2
    have HU8 := Lib.hid (HU7.out.trans (hb8.mono HU7.out.size))
    clear hr7_0 hr7_1 hr7_2 HU7
    have HH8 := Lib.hid (HH7.out.on hb8)
    clear HH7
    have HQ8 := Lib.hid ((show Bs _ (.slice ja jn jc) l by rw [← LB6.out]; exact own_bs_n how))
    clear how
    clear HH8
    have hcv1 := conv_bs HQ8.out
    have hcv2 := conv_bs (HV.out.on HU8.out)
    have c0_0 := cell_of_row _ _ 0 _ _ _ hr8_0
    have c0_1 := cell_of_row _ _ 1 _ _ _ hr8_0
    have c0_2 := cell_of_row _ _ 2 _ _ _ hr8_0
    have c0_3 := cell_of_row _ _ 3 _ _ _ hr8_0
    have c0_4 := cell_of_row _ _ 4 _ _ _ hr8_0
    have c0_5 := cell_of_row _ _ 5 _ _ _ hr8_0
    have c0_6 := cell_of_row _ _ 6 _ _ _ hr8_0
    have c0_7 := cell_of_row _ _ 7 _ _ _ hr8_0
    simp at c0_0 c0_1 c0_2 c0_3 c0_4 c0_5 c0_6 c0_7
    go_wp2_with fail
    clear hcv1 hcv2
    clear HQ8
    refine (awake_any _).mono ?_
    rintro e y9 ⟨rfl, hb9⟩
    clear c0_0 c0_1 c0_2 c0_3 c0_4 c0_5 c0_6 c0_7
    have hr9_0 := (hb9.block _ (lt_heap hr8_0)).trans hr8_0
    have hr9_1 := (hb9.block _ (lt_heap hr8_1)).trans hr8_1
    have hr9_2 := (hb9.block _ (lt_heap hr8_2)).trans hr8_2
    have HU9 := Lib.hid (HU8.out.trans (hb9.mono HU8.out.size))
    clear hr8_0 hr8_1 hr8_2 HU8
    go_wp2
    go_ret
    exact ⟨rfl, HU9.out⟩

set_option maxHeartbeats 16000000 in
set_option maxRecDepth 100000 in
theorem case_2 (W H : Int) (al ad an ab ax af : Option Addr) (cl cd cn cb cx cf nl nd nn nb ns nf : Nat) (L D N B S F : Nat → Int) (ta : Option Addr) (tn tc : Nat) (l : List UInt8) (w : World) (hc : Came w (⟨W, H, nl, nd, nn, nb, ns, nf, L, D, N, B, S, F⟩ : Flm) (⟨al, cl, ad, cd, an, cn, ab, cb, ax, cx, af, cf⟩ : Pl)) (k1 : ¬ 5000 < nl) (k2 : ¬ 5000 < ns) (hv : Bs w (.slice ta tn tc) l) (e1 : ¬ okF (⟨W, H, nl, nd, nn, nb, ns, nf, L, D, N, B, S, F⟩ : Flm)) (W5 H5 : Int) (nl5 nd5 nn5 nb5 ns5 nf5 : Nat) (L5 D5 N5 B5 S5 F5 : Nat → Int) (C5 : ∀ X : World, Bs X (.slice ta tn tc) l → Calls Try.prog 22 #[.slice ta tn tc] X fun e' w' => (∃ p : Pl, e' = .returned (.tuple #[.agg (FC (⟨W5, H5, nl5, nd5, nn5, nb5, ns5, nf5, L5, D5, N5, B5, S5, F5⟩ : Flm) p), .int .i64 0]) ∧ FAt w' (⟨W5, H5, nl5, nd5, nn5, nb5, ns5, nf5, L5, D5, N5, B5, S5, F5⟩ : Flm) p) ∧ Below X.heap.size X w') (ok5 : okF (⟨W5, H5, nl5, nd5, nn5, nb5, ns5, nf5, L5, D5, N5, B5, S5, F5⟩ : Flm)) (lb5 : filmB (⟨W5, H5, nl5, nd5, nn5, nb5, ns5, nf5, L5, D5, N5, B5, S5, F5⟩ : Flm) = l) (er6 : Int) (h6 : ¬ er6 = 0) (C6 : ∀ X : World, Bs X (.slice ta tn tc) l → Calls Try.prog 20 #[.slice ta tn tc] X fun e' w' => e' = .returned (.tuple #[.agg #[.int .i64 0, .int .i64 0, .slice none 0 0], .int .i64 er6]) ∧ Below X.heap.size X w') : Calls Try.prog 6 #[.agg #[.int .i64 W, .int .i64 H, .slice al nl cl, .slice ad nd cd, .slice an nn cn, .slice ab nb cb, .slice ax ns cx, .slice af nf cf], .slice ta tn tc] w fun e' w' => e' = .returned (.bool true) ∧ Below w.heap.size w w' := by
  have HC := Lib.hid hc
  clear hc
  have d1 := decide_eq_false (show ¬ (5000 : Int) < (nl : Int) by omega)
  have d2 := decide_eq_false (show ¬ (5000 : Int) < (ns : Int) by omega)
  have HV := Lib.hid hv
  have E1 := Lib.hid e1
  clear hv e1
  have HC5 := Lib.hid C5
  have HC6 := Lib.hid C6
  clear C5 C6
  have OK5 := Lib.hid ok5
  have LB5 := Lib.hid lb5
  clear ok5 lb5
  have q61 : (er6 != 0) = true := by simpa using h6
  have q62 : (er6 == 0) = false := by simpa using h6
  have q63 : ¬ er6 = 0 := h6
  clear h6
  go_enter Try.func6, Try.ntmps6
  go_upto_region 1 with fail
  have hR := Au.rows1 w (.cells #[.int .i64 W, .int .i64 H, .slice al nl cl, .slice ad nd cd, .slice an nn cn, .slice ab nb cb, .slice ax ns cx, .slice af nf cf] 29)
  have HUx := Ve.below_n1 w (.cells #[.int .i64 W, .int .i64 H, .slice al nl cl, .slice ad nd cd, .slice an nn cn, .slice ab nb cb, .slice ax ns cx, .slice af nf cf] 29)
  obtain ⟨y0, hy0⟩ : ∃ y0, w.alloc (.cells #[.int .i64 W, .int .i64 H, .slice al nl cl, .slice ad nd cd, .slice an nn cn, .slice ab nb cb, .slice ax ns cx, .slice af nf cf] 29) = y0 := ⟨_, rfl⟩
  rw [hy0] at hR HUx ⊢
  clear hy0
  have HU0 := Lib.hid HUx
  clear HUx
  have hr0_0 := hR
  clear hR
  have c0_0 := cell_of_row _ _ 0 _ _ _ hr0_0
  have c0_1 := cell_of_row _ _ 1 _ _ _ hr0_0
  have c0_2 := cell_of_row _ _ 2 _ _ _ hr0_0
  have c0_3 := cell_of_row _ _ 3 _ _ _ hr0_0
  have c0_4 := cell_of_row _ _ 4 _ _ _ hr0_0
  have c0_5 := cell_of_row _ _ 5 _ _ _ hr0_0
  have c0_6 := cell_of_row _ _ 6 _ _ _ hr0_0
  have c0_7 := cell_of_row _ _ 7 _ _ _ hr0_0
  simp at c0_0 c0_1 c0_2 c0_3 c0_4 c0_5 c0_6 c0_7
  go_wp2_with fail
  refine (held_film (⟨W, H, nl, nd, nn, nb, ns, nf, L, D, N, B, S, F⟩ : Flm) (⟨al, cl, ad, cd, an, cn, ab, cb, ax, cx, af, cf⟩ : Pl) _ (HC.out.at_.on HU0.out) HC.out.bl HC.out.bd HC.out.bn HC.out.bb).mono ?_
  rintro e y1 ⟨t, rfl, hsp, hb1⟩
  clear c0_0 c0_1 c0_2 c0_3 c0_4 c0_5 c0_6 c0_7
  have hr1_0 := (hb1.block _ (lt_heap hr0_0)).trans hr0_0
  have HU1 := Lib.hid (HU0.out.trans (hb1.mono HU0.out.size))
  clear hr0_0 HU0
  have HSP := Lib.hid hsp
  clear hsp
  cases t
  case false =>
    have c0_0 := cell_of_row _ _ 0 _ _ _ hr1_0
    have c0_1 := cell_of_row _ _ 1 _ _ _ hr1_0
    have c0_2 := cell_of_row _ _ 2 _ _ _ hr1_0
    have c0_3 := cell_of_row _ _ 3 _ _ _ hr1_0
    have c0_4 := cell_of_row _ _ 4 _ _ _ hr1_0
    have c0_5 := cell_of_row _ _ 5 _ _ _ hr1_0
    have c0_6 := cell_of_row _ _ 6 _ _ _ hr1_0
    have c0_7 := cell_of_row _ _ 7 _ _ _ hr1_0
    simp at c0_0 c0_1 c0_2 c0_3 c0_4 c0_5 c0_6 c0_7
    go_wp2_with fail
    refine (awake_any _).mono ?_
    rintro e y2 ⟨rfl, hb2⟩
    clear c0_0 c0_1 c0_2 c0_3 c0_4 c0_5 c0_6 c0_7
    have hr2_0 := (hb2.block _ (lt_heap hr1_0)).trans hr1_0
    have HU2 := Lib.hid (HU1.out.trans (hb2.mono HU1.out.size))
    clear hr1_0 HU1
    go_wp2
    go_ret
    exact ⟨rfl, HU2.out⟩
  case true =>
    have HS := Lib.hid (HSP.out rfl)
    clear HSP
    have c0_0 := cell_of_row _ _ 0 _ _ _ hr1_0
    have c0_1 := cell_of_row _ _ 1 _ _ _ hr1_0
    have c0_2 := cell_of_row _ _ 2 _ _ _ hr1_0
    have c0_3 := cell_of_row _ _ 3 _ _ _ hr1_0
    have c0_4 := cell_of_row _ _ 4 _ _ _ hr1_0
    have c0_5 := cell_of_row _ _ 5 _ _ _ hr1_0
    have c0_6 := cell_of_row _ _ 6 _ _ _ hr1_0
    have c0_7 := cell_of_row _ _ 7 _ _ _ hr1_0
    simp at c0_0 c0_1 c0_2 c0_3 c0_4 c0_5 c0_6 c0_7
    go_wp2_with fail
    refine (to_film (⟨W, H, nl, nd, nn, nb, ns, nf, L, D, N, B, S, F⟩ : Flm) (⟨al, cl, ad, cd, an, cn, ab, cb, ax, cx, af, cf⟩ : Pl) _ (HC.out.at_.on HU1.out) HC.out.bl HC.out.bd HC.out.bn HC.out.bb HC.out.bs HC.out.bf HC.out.ks HC.out.kf).mono ?_
    rintro e y2 ⟨⟨⟨al2, cl2, ad2, cd2, an2, cn2, ab2, cb2, ax2, cx2, af2, cf2⟩, rfl, hat⟩, hb2⟩
    clear c0_0 c0_1 c0_2 c0_3 c0_4 c0_5 c0_6 c0_7
    have hr2_0 := (hb2.block _ (lt_heap hr1_0)).trans hr1_0
    have HU2 := Lib.hid (HU1.out.trans (hb2.mono HU1.out.size))
    clear hr1_0 HU1
    have HAT2 := Lib.hid (hat)
    clear hat
    go_wp2_with fail
    refine (encfilm_nb (⟨W, H, nl, nd, nn, nb, ns, nf, L, D, N, B, S, F⟩ : Flm) (⟨al2, cl2, ad2, cd2, an2, cn2, ab2, cb2, ax2, cx2, af2, cf2⟩ : Pl) _ HAT2.out E1.out).mono ?_
    rintro e y3 ⟨rfl, hb3⟩
    have hr3_0 := (hb3.block _ (lt_heap hr2_0)).trans hr2_0
    have HU3 := Lib.hid (HU2.out.trans (hb3.mono HU2.out.size))
    clear hr2_0 HU2
    have HAT3 := Lib.hid (HAT2.out.on hb3)
    clear HAT2
    clear HAT3
    have c0_0 := cell_of_row _ _ 0 _ _ _ hr3_0
    have c0_1 := cell_of_row _ _ 1 _ _ _ hr3_0
    have c0_2 := cell_of_row _ _ 2 _ _ _ hr3_0
    have c0_3 := cell_of_row _ _ 3 _ _ _ hr3_0
    have c0_4 := cell_of_row _ _ 4 _ _ _ hr3_0
    have c0_5 := cell_of_row _ _ 5 _ _ _ hr3_0
    have c0_6 := cell_of_row _ _ 6 _ _ _ hr3_0
    have c0_7 := cell_of_row _ _ 7 _ _ _ hr3_0
    simp at c0_0 c0_1 c0_2 c0_3 c0_4 c0_5 c0_6 c0_7
    go_wp2_with fail
    refine (HC5.out _ (HV.out.on HU3.out)).mono ?_
    rintro e y4 ⟨⟨⟨al5, cl5, ad5, cd5, an5, cn5, ab5, cb5, ax5, cx5, af5, cf5⟩, rfl, hat⟩, hb4⟩
    clear c0_0 c0_1 c0_2 c0_3 c0_4 c0_5 c0_6 c0_7
    have hr4_0 := (hb4.block _ (lt_heap hr3_0)).trans hr3_0
    have HU4 := Lib.hid (HU3.out.trans (hb4.mono HU3.out.size))
    clear hr3_0 HU3
    have HH4 := Lib.hid (hat)
    clear hat
    have c0_0 := cell_of_row _ _ 0 _ _ _ hr4_0
    have c0_1 := cell_of_row _ _ 1 _ _ _ hr4_0
    have c0_2 := cell_of_row _ _ 2 _ _ _ hr4_0
    have c0_3 := cell_of_row _ _ 3 _ _ _ hr4_0
    have c0_4 := cell_of_row _ _ 4 _ _ _ hr4_0
    have c0_5 := cell_of_row _ _ 5 _ _ _ hr4_0
    have c0_6 := cell_of_row _ _ 6 _ _ _ hr4_0
    have c0_7 := cell_of_row _ _ 7 _ _ _ hr4_0
    simp at c0_0 c0_1 c0_2 c0_3 c0_4 c0_5 c0_6 c0_7
    have HA := Lib.hid (heap_alloc_last y4 (.cells #[.int .i64 0, .int .i64 0, .slice none 0 0, .slice none 0 0, .slice none 0 0, .slice none 0 0, .slice none 0 0, .slice none 0 0] 39))
    have hHi := Lib.hid (show (Try.prog.info? 39).map (·.size) = some (#[.int .i64 W5, .int .i64 H5, .slice al5 nl5 cl5, .slice ad5 nd5 cd5, .slice an5 nn5 cn5, .slice ab5 nb5 cb5, .slice ax5 ns5 cx5, .slice af5 nf5 cf5] : Array Value).size by kernel_rfl)
    have hHz := Lib.hid (show (#[.int .i64 0, .int .i64 0, .slice none 0 0, .slice none 0 0, .slice none 0 0, .slice none 0 0, .slice none 0 0, .slice none 0 0] : Array Value).size = (#[.int .i64 W5, .int .i64 H5, .slice al5 nl5 cl5, .slice ad5 nd5 cd5, .slice an5 nn5 cn5, .slice ab5 nb5 cb5, .slice ax5 ns5 cx5, .slice af5 nf5 cf5] : Array Value).size from rfl)
    have hHo := Lib.hid (show (#[.int .i64 W5, .int .i64 H5, .slice al5 nl5 cl5, .slice ad5 nd5 cd5, .slice an5 nn5 cn5, .slice ab5 nb5 cb5, .slice ax5 ns5 cx5, .slice af5 nf5 cf5] : Array Value).all (·.oneCell') = true by simp [Value.oneCell'])
    go_upto_region 9 with (refine Au.wpList_store_row rfl 39 (.tmp 9) (.tmp 59) rfl (y4.alloc (.cells #[.int .i64 0, .int .i64 0, .slice none 0 0, .slice none 0 0, .slice none 0 0, .slice none 0 0, .slice none 0 0, .slice none 0 0] 39)) #[.int .i64 0, .int .i64 0, .slice none 0 0, .slice none 0 0, .slice none 0 0, .slice none 0 0, .slice none 0 0, .slice none 0 0] #[.int .i64 W5, .int .i64 H5, .slice al5 nl5 cl5, .slice ad5 nd5 cd5, .slice an5 nn5 cn5, .slice ab5 nb5 cb5, .slice ax5 ns5 cx5, .slice af5 nf5 cf5] (y4.heap.size) 39 HA.out rfl rfl hHi.out hHz.out hHo.out ?_)
    clear c0_0 c0_1 c0_2 c0_3 c0_4 c0_5 c0_6 c0_7
    clear hHi hHz hHo
    have hN := setRow_heap _ (y4.heap.size) _ #[.int .i64 W5, .int .i64 H5, .slice al5 nl5 cl5, .slice ad5 nd5 cd5, .slice an5 nn5 cn5, .slice ab5 nb5 cb5, .slice ax5 ns5 cx5, .slice af5 nf5 cf5] _ _ HA.out
    clear HA
    have hsz := HU4.out.size
    have hb := Ve.below_n1 y4 (.cells #[.int .i64 0, .int .i64 0, .slice none 0 0, .slice none 0 0, .slice none 0 0, .slice none 0 0, .slice none 0 0, .slice none 0 0] 39)
    have HUx := below_setRow (g := y4.heap.size) (HU4.out.trans (hb.mono HU4.out.size)) (by omega) #[.int .i64 W5, .int .i64 H5, .slice al5 nl5 cl5, .slice ad5 nd5 cd5, .slice an5 nn5 cn5, .slice ab5 nb5 cb5, .slice ax5 ns5 cx5, .slice af5 nf5 cf5]
    have hO : ∀ kk, kk < y4.heap.size → ((y4.alloc (.cells #[.int .i64 0, .int .i64 0, .slice none 0 0, .slice none 0 0, .slice none 0 0, .slice none 0 0, .slice none 0 0, .slice none 0 0] 39)).setRow (y4.heap.size) #[.int .i64 W5, .int .i64 H5, .slice al5 nl5 cl5, .slice ad5 nd5 cd5, .slice an5 nn5 cn5, .slice ab5 nb5 cb5, .slice ax5 ns5 cx5, .slice af5 nf5 cf5]).heap[kk]? = y4.heap[kk]? := fun kk hk => (setRow_other _ _ _ _ (by omega)).trans (hb.block _ hk)
    obtain ⟨y5, hy5⟩ : ∃ y, (y4.alloc (.cells #[.int .i64 0, .int .i64 0, .slice none 0 0, .slice none 0 0, .slice none 0 0, .slice none 0 0, .slice none 0 0, .slice none 0 0] 39)).setRow (y4.heap.size) #[.int .i64 W5, .int .i64 H5, .slice al5 nl5 cl5, .slice ad5 nd5 cd5, .slice an5 nn5 cn5, .slice ab5 nb5 cb5, .slice ax5 ns5 cx5, .slice af5 nf5 cf5] = y := ⟨_, rfl⟩
    have hs5 : y5.heap.size = y4.heap.size + 1 := by rw [← hy5]; simp [World.setRow]
    rw [hy5] at hN HUx hO ⊢
    clear hy5 hsz hb
    have HU5 := Lib.hid HUx
    clear HUx
    have hl5_0 := lt_heap hr4_0
    have hr5_0 := (hO _ hl5_0).trans hr4_0
    have hr5_1 := hN
    have hKK := hO
    clear hN hO
    clear hr4_0 HU4
    have HH5 := Lib.hid (show FAt y5 (⟨W5, H5, nl5, nd5, nn5, nb5, ns5, nf5, L5, D5, N5, B5, S5, F5⟩ : Flm) (⟨al5, cl5, ad5, cd5, an5, cn5, ab5, cb5, ax5, cx5, af5, cf5⟩ : Pl) from ⟨(HH4.out.l.low.keep (fun b hb => hKK b hb)).rw (by decide), (HH4.out.d.low.keep (fun b hb => hKK b hb)).rw (by decide), (HH4.out.n.low.keep (fun b hb => hKK b hb)).rw (by decide), (HH4.out.b.low.keep (fun b hb => hKK b hb)).rw (by decide), (HH4.out.s.low.keep (fun b hb => hKK b hb)).rw (by decide), (HH4.out.f.low.keep (fun b hb => hKK b hb)).rw (by decide)⟩)
    clear HH4
    clear hKK
    have c1_0 := cell_of_row _ _ 0 _ _ _ hr5_1
    have c1_1 := cell_of_row _ _ 1 _ _ _ hr5_1
    have c1_2 := cell_of_row _ _ 2 _ _ _ hr5_1
    have c1_3 := cell_of_row _ _ 3 _ _ _ hr5_1
    have c1_4 := cell_of_row _ _ 4 _ _ _ hr5_1
    have c1_5 := cell_of_row _ _ 5 _ _ _ hr5_1
    have c1_6 := cell_of_row _ _ 6 _ _ _ hr5_1
    have c1_7 := cell_of_row _ _ 7 _ _ _ hr5_1
    simp at c1_0 c1_1 c1_2 c1_3 c1_4 c1_5 c1_6 c1_7
    go_wp2_with fail
    refine (encfilm_bs (⟨W5, H5, nl5, nd5, nn5, nb5, ns5, nf5, L5, D5, N5, B5, S5, F5⟩ : Flm) (⟨al5, cl5, ad5, cd5, an5, cn5, ab5, cb5, ax5, cx5, af5, cf5⟩ : Pl) _ HH5.out OK5.out).mono ?_
    rintro e y6 ⟨⟨ga, gn, gc, rfl, how⟩, hb6⟩
    clear c1_0 c1_1 c1_2 c1_3 c1_4 c1_5 c1_6 c1_7
    have hr6_0 := (hb6.block _ (lt_heap hr5_0)).trans hr5_0
    have hr6_1 := (hb6.block _ (lt_heap hr5_1)).trans hr5_1
    have HU6 := Lib.hid (HU5.out.trans (hb6.mono HU5.out.size))
    clear hr5_0 hr5_1 HU5
    have HH6 := Lib.hid (HH5.out.on hb6)
    clear HH5
    have HQ6 := Lib.hid ((show Bs _ (.slice ga gn gc) l by rw [← LB5.out]; exact how))
    clear how
    clear HH6
    have hcv1 := conv_bs HQ6.out
    have hcv2 := conv_bs (HV.out.on HU6.out)
    have c0_0 := cell_of_row _ _ 0 _ _ _ hr6_0
    have c0_1 := cell_of_row _ _ 1 _ _ _ hr6_0
    have c0_2 := cell_of_row _ _ 2 _ _ _ hr6_0
    have c0_3 := cell_of_row _ _ 3 _ _ _ hr6_0
    have c0_4 := cell_of_row _ _ 4 _ _ _ hr6_0
    have c0_5 := cell_of_row _ _ 5 _ _ _ hr6_0
    have c0_6 := cell_of_row _ _ 6 _ _ _ hr6_0
    have c0_7 := cell_of_row _ _ 7 _ _ _ hr6_0
    simp at c0_0 c0_1 c0_2 c0_3 c0_4 c0_5 c0_6 c0_7
    go_upto_region 13 with fail
    clear hcv1 hcv2
    clear HQ6
    have c0_0 := cell_of_row _ _ 0 _ _ _ hr6_0
    have c0_1 := cell_of_row _ _ 1 _ _ _ hr6_0
    have c0_2 := cell_of_row _ _ 2 _ _ _ hr6_0
    have c0_3 := cell_of_row _ _ 3 _ _ _ hr6_0
    have c0_4 := cell_of_row _ _ 4 _ _ _ hr6_0
    have c0_5 := cell_of_row _ _ 5 _ _ _ hr6_0
    have c0_6 := cell_of_row _ _ 6 _ _ _ hr6_0
    have c0_7 := cell_of_row _ _ 7 _ _ _ hr6_0
    simp at c0_0 c0_1 c0_2 c0_3 c0_4 c0_5 c0_6 c0_7
    go_wp2_with fail
    refine (HC6.out _ (HV.out.on HU6.out)).mono ?_
    rintro e y7 ⟨rfl, hb7⟩
    clear c0_0 c0_1 c0_2 c0_3 c0_4 c0_5 c0_6 c0_7
    have hr7_0 := (hb7.block _ (lt_heap hr6_0)).trans hr6_0
    have hr7_1 := (hb7.block _ (lt_heap hr6_1)).trans hr6_1
    have HU7 := Lib.hid (HU6.out.trans (hb7.mono HU6.out.size))
    clear hr6_0 hr6_1 HU6
    go_upto_region 14 with fail
    have hb8 := Ve.below_n1 y7 (.cells #[.int .i64 0, .int .i64 0, .slice none 0 0] 35)
    have hN := heap_alloc_last y7 (.cells #[.int .i64 0, .int .i64 0, .slice none 0 0] 35)
    obtain ⟨y8, hy8⟩ : ∃ y, y7.alloc (.cells #[.int .i64 0, .int .i64 0, .slice none 0 0] 35) = y := ⟨_, rfl⟩
    have hs8 : y8.heap.size = y7.heap.size + 1 := by rw [← hy8]; simp
    rw [hy8] at hb8 hN ⊢
    clear hy8
    have hl8_0 := lt_heap hr7_0
    have hl8_1 := lt_heap hr7_1
    have hr8_0 := (hb8.block _ (lt_heap hr7_0)).trans hr7_0
    have hr8_1 := (hb8.block _ (lt_heap hr7_1)).trans hr7_1
    have HU8 := Lib.hid (HU7.out.trans (hb8.mono HU7.out.size))
    clear hr7_0 hr7_1 HU7
    have hr8_2 := hN
    clear hN
    have c0_0 := cell_of_row _ _ 0 _ _ _ hr8_0
    have c0_1 := cell_of_row _ _ 1 _ _ _ hr8_0
    have c0_2 := cell_of_row _ _ 2 _ _ _ hr8_0
    have c0_3 := cell_of_row _ _ 3 _ _ _ hr8_0
    have c0_4 := cell_of_row _ _ 4 _ _ _ hr8_0
    have c0_5 := cell_of_row _ _ 5 _ _ _ hr8_0
    have c0_6 := cell_of_row _ _ 6 _ _ _ hr8_0
    have c0_7 := cell_of_row _ _ 7 _ _ _ hr8_0
    simp at c0_0 c0_1 c0_2 c0_3 c0_4 c0_5 c0_6 c0_7
    go_wp2_with fail
    refine (awake_any _).mono ?_
    rintro e y9 ⟨rfl, hb9⟩
    clear c0_0 c0_1 c0_2 c0_3 c0_4 c0_5 c0_6 c0_7
    have hr9_0 := (hb9.block _ (lt_heap hr8_0)).trans hr8_0
    have hr9_1 := (hb9.block _ (lt_heap hr8_1)).trans hr8_1
    have hr9_2 := (hb9.block _ (lt_heap hr8_2)).trans hr8_2
    have HU9 := Lib.hid (HU8.out.trans (hb9.mono HU8.out.size))
    clear hr8_0 hr8_1 hr8_2 HU8
    go_wp2
    go_ret
    exact ⟨rfl, HU9.out⟩

set_option maxHeartbeats 16000000 in
set_option maxRecDepth 100000 in
theorem case_3 (W H : Int) (al ad an ab ax af : Option Addr) (cl cd cn cb cx cf nl nd nn nb ns nf : Nat) (L D N B S F : Nat → Int) (ta : Option Addr) (tn tc : Nat) (l : List UInt8) (w : World) (hc : Came w (⟨W, H, nl, nd, nn, nb, ns, nf, L, D, N, B, S, F⟩ : Flm) (⟨al, cl, ad, cd, an, cn, ab, cb, ax, cx, af, cf⟩ : Pl)) (k1 : ¬ 5000 < nl) (k2 : ¬ 5000 < ns) (hv : Bs w (.slice ta tn tc) l) (e1 : ¬ okF (⟨W, H, nl, nd, nn, nb, ns, nf, L, D, N, B, S, F⟩ : Flm)) (W5 H5 : Int) (nl5 nd5 nn5 nb5 ns5 nf5 : Nat) (L5 D5 N5 B5 S5 F5 : Nat → Int) (C5 : ∀ X : World, Bs X (.slice ta tn tc) l → Calls Try.prog 22 #[.slice ta tn tc] X fun e' w' => (∃ p : Pl, e' = .returned (.tuple #[.agg (FC (⟨W5, H5, nl5, nd5, nn5, nb5, ns5, nf5, L5, D5, N5, B5, S5, F5⟩ : Flm) p), .int .i64 0]) ∧ FAt w' (⟨W5, H5, nl5, nd5, nn5, nb5, ns5, nf5, L5, D5, N5, B5, S5, F5⟩ : Flm) p) ∧ Below X.heap.size X w') (ok5 : okF (⟨W5, H5, nl5, nd5, nn5, nb5, ns5, nf5, L5, D5, N5, B5, S5, F5⟩ : Flm)) (lb5 : filmB (⟨W5, H5, nl5, nd5, nn5, nb5, ns5, nf5, L5, D5, N5, B5, S5, F5⟩ : Flm) = l) (W6 H6 : Int) (n6 : Nat) (L6 : Nat → Int) (C6 : ∀ X : World, Bs X (.slice ta tn tc) l → Calls Try.prog 20 #[.slice ta tn tc] X fun e' w' => (∃ a c, e' = .returned (.tuple #[.agg #[.int .i64 W6, .int .i64 H6, .slice a n6 c], .int .i64 0]) ∧ Rw 3 w' a n6 L6) ∧ Below X.heap.size X w') (ok6 : okSh W6 H6 n6) (lb6 : sheetB W6 H6 n6 L6 = l) : Calls Try.prog 6 #[.agg #[.int .i64 W, .int .i64 H, .slice al nl cl, .slice ad nd cd, .slice an nn cn, .slice ab nb cb, .slice ax ns cx, .slice af nf cf], .slice ta tn tc] w fun e' w' => e' = .returned (.bool true) ∧ Below w.heap.size w w' := by
  have HC := Lib.hid hc
  clear hc
  have d1 := decide_eq_false (show ¬ (5000 : Int) < (nl : Int) by omega)
  have d2 := decide_eq_false (show ¬ (5000 : Int) < (ns : Int) by omega)
  have HV := Lib.hid hv
  have E1 := Lib.hid e1
  clear hv e1
  have HC5 := Lib.hid C5
  have HC6 := Lib.hid C6
  clear C5 C6
  have OK5 := Lib.hid ok5
  have LB5 := Lib.hid lb5
  clear ok5 lb5
  have OK6 := Lib.hid ok6
  have LB6 := Lib.hid lb6
  clear ok6 lb6
  go_enter Try.func6, Try.ntmps6
  go_upto_region 1 with fail
  have hR := Au.rows1 w (.cells #[.int .i64 W, .int .i64 H, .slice al nl cl, .slice ad nd cd, .slice an nn cn, .slice ab nb cb, .slice ax ns cx, .slice af nf cf] 29)
  have HUx := Ve.below_n1 w (.cells #[.int .i64 W, .int .i64 H, .slice al nl cl, .slice ad nd cd, .slice an nn cn, .slice ab nb cb, .slice ax ns cx, .slice af nf cf] 29)
  obtain ⟨y0, hy0⟩ : ∃ y0, w.alloc (.cells #[.int .i64 W, .int .i64 H, .slice al nl cl, .slice ad nd cd, .slice an nn cn, .slice ab nb cb, .slice ax ns cx, .slice af nf cf] 29) = y0 := ⟨_, rfl⟩
  rw [hy0] at hR HUx ⊢
  clear hy0
  have HU0 := Lib.hid HUx
  clear HUx
  have hr0_0 := hR
  clear hR
  have c0_0 := cell_of_row _ _ 0 _ _ _ hr0_0
  have c0_1 := cell_of_row _ _ 1 _ _ _ hr0_0
  have c0_2 := cell_of_row _ _ 2 _ _ _ hr0_0
  have c0_3 := cell_of_row _ _ 3 _ _ _ hr0_0
  have c0_4 := cell_of_row _ _ 4 _ _ _ hr0_0
  have c0_5 := cell_of_row _ _ 5 _ _ _ hr0_0
  have c0_6 := cell_of_row _ _ 6 _ _ _ hr0_0
  have c0_7 := cell_of_row _ _ 7 _ _ _ hr0_0
  simp at c0_0 c0_1 c0_2 c0_3 c0_4 c0_5 c0_6 c0_7
  go_wp2_with fail
  refine (held_film (⟨W, H, nl, nd, nn, nb, ns, nf, L, D, N, B, S, F⟩ : Flm) (⟨al, cl, ad, cd, an, cn, ab, cb, ax, cx, af, cf⟩ : Pl) _ (HC.out.at_.on HU0.out) HC.out.bl HC.out.bd HC.out.bn HC.out.bb).mono ?_
  rintro e y1 ⟨t, rfl, hsp, hb1⟩
  clear c0_0 c0_1 c0_2 c0_3 c0_4 c0_5 c0_6 c0_7
  have hr1_0 := (hb1.block _ (lt_heap hr0_0)).trans hr0_0
  have HU1 := Lib.hid (HU0.out.trans (hb1.mono HU0.out.size))
  clear hr0_0 HU0
  have HSP := Lib.hid hsp
  clear hsp
  cases t
  case false =>
    have c0_0 := cell_of_row _ _ 0 _ _ _ hr1_0
    have c0_1 := cell_of_row _ _ 1 _ _ _ hr1_0
    have c0_2 := cell_of_row _ _ 2 _ _ _ hr1_0
    have c0_3 := cell_of_row _ _ 3 _ _ _ hr1_0
    have c0_4 := cell_of_row _ _ 4 _ _ _ hr1_0
    have c0_5 := cell_of_row _ _ 5 _ _ _ hr1_0
    have c0_6 := cell_of_row _ _ 6 _ _ _ hr1_0
    have c0_7 := cell_of_row _ _ 7 _ _ _ hr1_0
    simp at c0_0 c0_1 c0_2 c0_3 c0_4 c0_5 c0_6 c0_7
    go_wp2_with fail
    refine (awake_any _).mono ?_
    rintro e y2 ⟨rfl, hb2⟩
    clear c0_0 c0_1 c0_2 c0_3 c0_4 c0_5 c0_6 c0_7
    have hr2_0 := (hb2.block _ (lt_heap hr1_0)).trans hr1_0
    have HU2 := Lib.hid (HU1.out.trans (hb2.mono HU1.out.size))
    clear hr1_0 HU1
    go_wp2
    go_ret
    exact ⟨rfl, HU2.out⟩
  case true =>
    have HS := Lib.hid (HSP.out rfl)
    clear HSP
    have c0_0 := cell_of_row _ _ 0 _ _ _ hr1_0
    have c0_1 := cell_of_row _ _ 1 _ _ _ hr1_0
    have c0_2 := cell_of_row _ _ 2 _ _ _ hr1_0
    have c0_3 := cell_of_row _ _ 3 _ _ _ hr1_0
    have c0_4 := cell_of_row _ _ 4 _ _ _ hr1_0
    have c0_5 := cell_of_row _ _ 5 _ _ _ hr1_0
    have c0_6 := cell_of_row _ _ 6 _ _ _ hr1_0
    have c0_7 := cell_of_row _ _ 7 _ _ _ hr1_0
    simp at c0_0 c0_1 c0_2 c0_3 c0_4 c0_5 c0_6 c0_7
    go_wp2_with fail
    refine (to_film (⟨W, H, nl, nd, nn, nb, ns, nf, L, D, N, B, S, F⟩ : Flm) (⟨al, cl, ad, cd, an, cn, ab, cb, ax, cx, af, cf⟩ : Pl) _ (HC.out.at_.on HU1.out) HC.out.bl HC.out.bd HC.out.bn HC.out.bb HC.out.bs HC.out.bf HC.out.ks HC.out.kf).mono ?_
    rintro e y2 ⟨⟨⟨al2, cl2, ad2, cd2, an2, cn2, ab2, cb2, ax2, cx2, af2, cf2⟩, rfl, hat⟩, hb2⟩
    clear c0_0 c0_1 c0_2 c0_3 c0_4 c0_5 c0_6 c0_7
    have hr2_0 := (hb2.block _ (lt_heap hr1_0)).trans hr1_0
    have HU2 := Lib.hid (HU1.out.trans (hb2.mono HU1.out.size))
    clear hr1_0 HU1
    have HAT2 := Lib.hid (hat)
    clear hat
    go_wp2_with fail
    refine (encfilm_nb (⟨W, H, nl, nd, nn, nb, ns, nf, L, D, N, B, S, F⟩ : Flm) (⟨al2, cl2, ad2, cd2, an2, cn2, ab2, cb2, ax2, cx2, af2, cf2⟩ : Pl) _ HAT2.out E1.out).mono ?_
    rintro e y3 ⟨rfl, hb3⟩
    have hr3_0 := (hb3.block _ (lt_heap hr2_0)).trans hr2_0
    have HU3 := Lib.hid (HU2.out.trans (hb3.mono HU2.out.size))
    clear hr2_0 HU2
    have HAT3 := Lib.hid (HAT2.out.on hb3)
    clear HAT2
    clear HAT3
    have c0_0 := cell_of_row _ _ 0 _ _ _ hr3_0
    have c0_1 := cell_of_row _ _ 1 _ _ _ hr3_0
    have c0_2 := cell_of_row _ _ 2 _ _ _ hr3_0
    have c0_3 := cell_of_row _ _ 3 _ _ _ hr3_0
    have c0_4 := cell_of_row _ _ 4 _ _ _ hr3_0
    have c0_5 := cell_of_row _ _ 5 _ _ _ hr3_0
    have c0_6 := cell_of_row _ _ 6 _ _ _ hr3_0
    have c0_7 := cell_of_row _ _ 7 _ _ _ hr3_0
    simp at c0_0 c0_1 c0_2 c0_3 c0_4 c0_5 c0_6 c0_7
    go_wp2_with fail
    refine (HC5.out _ (HV.out.on HU3.out)).mono ?_
    rintro e y4 ⟨⟨⟨al5, cl5, ad5, cd5, an5, cn5, ab5, cb5, ax5, cx5, af5, cf5⟩, rfl, hat⟩, hb4⟩
    clear c0_0 c0_1 c0_2 c0_3 c0_4 c0_5 c0_6 c0_7
    have hr4_0 := (hb4.block _ (lt_heap hr3_0)).trans hr3_0
    have HU4 := Lib.hid (HU3.out.trans (hb4.mono HU3.out.size))
    clear hr3_0 HU3
    have HH4 := Lib.hid (hat)
    clear hat
    have c0_0 := cell_of_row _ _ 0 _ _ _ hr4_0
    have c0_1 := cell_of_row _ _ 1 _ _ _ hr4_0
    have c0_2 := cell_of_row _ _ 2 _ _ _ hr4_0
    have c0_3 := cell_of_row _ _ 3 _ _ _ hr4_0
    have c0_4 := cell_of_row _ _ 4 _ _ _ hr4_0
    have c0_5 := cell_of_row _ _ 5 _ _ _ hr4_0
    have c0_6 := cell_of_row _ _ 6 _ _ _ hr4_0
    have c0_7 := cell_of_row _ _ 7 _ _ _ hr4_0
    simp at c0_0 c0_1 c0_2 c0_3 c0_4 c0_5 c0_6 c0_7
    have HA := Lib.hid (heap_alloc_last y4 (.cells #[.int .i64 0, .int .i64 0, .slice none 0 0, .slice none 0 0, .slice none 0 0, .slice none 0 0, .slice none 0 0, .slice none 0 0] 39))
    have hHi := Lib.hid (show (Try.prog.info? 39).map (·.size) = some (#[.int .i64 W5, .int .i64 H5, .slice al5 nl5 cl5, .slice ad5 nd5 cd5, .slice an5 nn5 cn5, .slice ab5 nb5 cb5, .slice ax5 ns5 cx5, .slice af5 nf5 cf5] : Array Value).size by kernel_rfl)
    have hHz := Lib.hid (show (#[.int .i64 0, .int .i64 0, .slice none 0 0, .slice none 0 0, .slice none 0 0, .slice none 0 0, .slice none 0 0, .slice none 0 0] : Array Value).size = (#[.int .i64 W5, .int .i64 H5, .slice al5 nl5 cl5, .slice ad5 nd5 cd5, .slice an5 nn5 cn5, .slice ab5 nb5 cb5, .slice ax5 ns5 cx5, .slice af5 nf5 cf5] : Array Value).size from rfl)
    have hHo := Lib.hid (show (#[.int .i64 W5, .int .i64 H5, .slice al5 nl5 cl5, .slice ad5 nd5 cd5, .slice an5 nn5 cn5, .slice ab5 nb5 cb5, .slice ax5 ns5 cx5, .slice af5 nf5 cf5] : Array Value).all (·.oneCell') = true by simp [Value.oneCell'])
    go_upto_region 9 with (refine Au.wpList_store_row rfl 39 (.tmp 9) (.tmp 59) rfl (y4.alloc (.cells #[.int .i64 0, .int .i64 0, .slice none 0 0, .slice none 0 0, .slice none 0 0, .slice none 0 0, .slice none 0 0, .slice none 0 0] 39)) #[.int .i64 0, .int .i64 0, .slice none 0 0, .slice none 0 0, .slice none 0 0, .slice none 0 0, .slice none 0 0, .slice none 0 0] #[.int .i64 W5, .int .i64 H5, .slice al5 nl5 cl5, .slice ad5 nd5 cd5, .slice an5 nn5 cn5, .slice ab5 nb5 cb5, .slice ax5 ns5 cx5, .slice af5 nf5 cf5] (y4.heap.size) 39 HA.out rfl rfl hHi.out hHz.out hHo.out ?_)
    clear c0_0 c0_1 c0_2 c0_3 c0_4 c0_5 c0_6 c0_7
    clear hHi hHz hHo
    have hN := setRow_heap _ (y4.heap.size) _ #[.int .i64 W5, .int .i64 H5, .slice al5 nl5 cl5, .slice ad5 nd5 cd5, .slice an5 nn5 cn5, .slice ab5 nb5 cb5, .slice ax5 ns5 cx5, .slice af5 nf5 cf5] _ _ HA.out
    clear HA
    have hsz := HU4.out.size
    have hb := Ve.below_n1 y4 (.cells #[.int .i64 0, .int .i64 0, .slice none 0 0, .slice none 0 0, .slice none 0 0, .slice none 0 0, .slice none 0 0, .slice none 0 0] 39)
    have HUx := below_setRow (g := y4.heap.size) (HU4.out.trans (hb.mono HU4.out.size)) (by omega) #[.int .i64 W5, .int .i64 H5, .slice al5 nl5 cl5, .slice ad5 nd5 cd5, .slice an5 nn5 cn5, .slice ab5 nb5 cb5, .slice ax5 ns5 cx5, .slice af5 nf5 cf5]
    have hO : ∀ kk, kk < y4.heap.size → ((y4.alloc (.cells #[.int .i64 0, .int .i64 0, .slice none 0 0, .slice none 0 0, .slice none 0 0, .slice none 0 0, .slice none 0 0, .slice none 0 0] 39)).setRow (y4.heap.size) #[.int .i64 W5, .int .i64 H5, .slice al5 nl5 cl5, .slice ad5 nd5 cd5, .slice an5 nn5 cn5, .slice ab5 nb5 cb5, .slice ax5 ns5 cx5, .slice af5 nf5 cf5]).heap[kk]? = y4.heap[kk]? := fun kk hk => (setRow_other _ _ _ _ (by omega)).trans (hb.block _ hk)
    obtain ⟨y5, hy5⟩ : ∃ y, (y4.alloc (.cells #[.int .i64 0, .int .i64 0, .slice none 0 0, .slice none 0 0, .slice none 0 0, .slice none 0 0, .slice none 0 0, .slice none 0 0] 39)).setRow (y4.heap.size) #[.int .i64 W5, .int .i64 H5, .slice al5 nl5 cl5, .slice ad5 nd5 cd5, .slice an5 nn5 cn5, .slice ab5 nb5 cb5, .slice ax5 ns5 cx5, .slice af5 nf5 cf5] = y := ⟨_, rfl⟩
    have hs5 : y5.heap.size = y4.heap.size + 1 := by rw [← hy5]; simp [World.setRow]
    rw [hy5] at hN HUx hO ⊢
    clear hy5 hsz hb
    have HU5 := Lib.hid HUx
    clear HUx
    have hl5_0 := lt_heap hr4_0
    have hr5_0 := (hO _ hl5_0).trans hr4_0
    have hr5_1 := hN
    have hKK := hO
    clear hN hO
    clear hr4_0 HU4
    have HH5 := Lib.hid (show FAt y5 (⟨W5, H5, nl5, nd5, nn5, nb5, ns5, nf5, L5, D5, N5, B5, S5, F5⟩ : Flm) (⟨al5, cl5, ad5, cd5, an5, cn5, ab5, cb5, ax5, cx5, af5, cf5⟩ : Pl) from ⟨(HH4.out.l.low.keep (fun b hb => hKK b hb)).rw (by decide), (HH4.out.d.low.keep (fun b hb => hKK b hb)).rw (by decide), (HH4.out.n.low.keep (fun b hb => hKK b hb)).rw (by decide), (HH4.out.b.low.keep (fun b hb => hKK b hb)).rw (by decide), (HH4.out.s.low.keep (fun b hb => hKK b hb)).rw (by decide), (HH4.out.f.low.keep (fun b hb => hKK b hb)).rw (by decide)⟩)
    clear HH4
    clear hKK
    have c1_0 := cell_of_row _ _ 0 _ _ _ hr5_1
    have c1_1 := cell_of_row _ _ 1 _ _ _ hr5_1
    have c1_2 := cell_of_row _ _ 2 _ _ _ hr5_1
    have c1_3 := cell_of_row _ _ 3 _ _ _ hr5_1
    have c1_4 := cell_of_row _ _ 4 _ _ _ hr5_1
    have c1_5 := cell_of_row _ _ 5 _ _ _ hr5_1
    have c1_6 := cell_of_row _ _ 6 _ _ _ hr5_1
    have c1_7 := cell_of_row _ _ 7 _ _ _ hr5_1
    simp at c1_0 c1_1 c1_2 c1_3 c1_4 c1_5 c1_6 c1_7
    go_wp2_with fail
    refine (encfilm_bs (⟨W5, H5, nl5, nd5, nn5, nb5, ns5, nf5, L5, D5, N5, B5, S5, F5⟩ : Flm) (⟨al5, cl5, ad5, cd5, an5, cn5, ab5, cb5, ax5, cx5, af5, cf5⟩ : Pl) _ HH5.out OK5.out).mono ?_
    rintro e y6 ⟨⟨ga, gn, gc, rfl, how⟩, hb6⟩
    clear c1_0 c1_1 c1_2 c1_3 c1_4 c1_5 c1_6 c1_7
    have hr6_0 := (hb6.block _ (lt_heap hr5_0)).trans hr5_0
    have hr6_1 := (hb6.block _ (lt_heap hr5_1)).trans hr5_1
    have HU6 := Lib.hid (HU5.out.trans (hb6.mono HU5.out.size))
    clear hr5_0 hr5_1 HU5
    have HH6 := Lib.hid (HH5.out.on hb6)
    clear HH5
    have HQ6 := Lib.hid ((show Bs _ (.slice ga gn gc) l by rw [← LB5.out]; exact how))
    clear how
    clear HH6
    have hcv1 := conv_bs HQ6.out
    have hcv2 := conv_bs (HV.out.on HU6.out)
    have c0_0 := cell_of_row _ _ 0 _ _ _ hr6_0
    have c0_1 := cell_of_row _ _ 1 _ _ _ hr6_0
    have c0_2 := cell_of_row _ _ 2 _ _ _ hr6_0
    have c0_3 := cell_of_row _ _ 3 _ _ _ hr6_0
    have c0_4 := cell_of_row _ _ 4 _ _ _ hr6_0
    have c0_5 := cell_of_row _ _ 5 _ _ _ hr6_0
    have c0_6 := cell_of_row _ _ 6 _ _ _ hr6_0
    have c0_7 := cell_of_row _ _ 7 _ _ _ hr6_0
    simp at c0_0 c0_1 c0_2 c0_3 c0_4 c0_5 c0_6 c0_7
    go_upto_region 13 with fail
    clear hcv1 hcv2
    clear HQ6
    have c0_0 := cell_of_row _ _ 0 _ _ _ hr6_0
    have c0_1 := cell_of_row _ _ 1 _ _ _ hr6_0
    have c0_2 := cell_of_row _ _ 2 _ _ _ hr6_0
    have c0_3 := cell_of_row _ _ 3 _ _ _ hr6_0
    have c0_4 := cell_of_row _ _ 4 _ _ _ hr6_0
    have c0_5 := cell_of_row _ _ 5 _ _ _ hr6_0
    have c0_6 := cell_of_row _ _ 6 _ _ _ hr6_0
    have c0_7 := cell_of_row _ _ 7 _ _ _ hr6_0
    simp at c0_0 c0_1 c0_2 c0_3 c0_4 c0_5 c0_6 c0_7
    go_wp2_with fail
    refine (HC6.out _ (HV.out.on HU6.out)).mono ?_
    rintro e y7 ⟨⟨a6, c6, rfl, hat⟩, hb7⟩
    clear c0_0 c0_1 c0_2 c0_3 c0_4 c0_5 c0_6 c0_7
    have hr7_0 := (hb7.block _ (lt_heap hr6_0)).trans hr6_0
    have hr7_1 := (hb7.block _ (lt_heap hr6_1)).trans hr6_1
    have HU7 := Lib.hid (HU6.out.trans (hb7.mono HU6.out.size))
    clear hr6_0 hr6_1 HU6
    have HH7 := Lib.hid (hat)
    clear hat
    have c0_0 := cell_of_row _ _ 0 _ _ _ hr7_0
    have c0_1 := cell_of_row _ _ 1 _ _ _ hr7_0
    have c0_2 := cell_of_row _ _ 2 _ _ _ hr7_0
    have c0_3 := cell_of_row _ _ 3 _ _ _ hr7_0
    have c0_4 := cell_of_row _ _ 4 _ _ _ hr7_0
    have c0_5 := cell_of_row _ _ 5 _ _ _ hr7_0
    have c0_6 := cell_of_row _ _ 6 _ _ _ hr7_0
    have c0_7 := cell_of_row _ _ 7 _ _ _ hr7_0
    have c1_0 := cell_of_row _ _ 0 _ _ _ hr7_1
    have c1_1 := cell_of_row _ _ 1 _ _ _ hr7_1
    have c1_2 := cell_of_row _ _ 2 _ _ _ hr7_1
    have c1_3 := cell_of_row _ _ 3 _ _ _ hr7_1
    have c1_4 := cell_of_row _ _ 4 _ _ _ hr7_1
    have c1_5 := cell_of_row _ _ 5 _ _ _ hr7_1
    have c1_6 := cell_of_row _ _ 6 _ _ _ hr7_1
    have c1_7 := cell_of_row _ _ 7 _ _ _ hr7_1
    simp at c0_0 c0_1 c0_2 c0_3 c0_4 c0_5 c0_6 c0_7 c1_0 c1_1 c1_2 c1_3 c1_4 c1_5 c1_6 c1_7
    have HA := Lib.hid (heap_alloc_last y7 (.cells #[.int .i64 0, .int .i64 0, .slice none 0 0] 35))
    have hHi := Lib.hid (show (Try.prog.info? 35).map (·.size) = some (#[.int .i64 W6, .int .i64 H6, .slice a6 n6 c6] : Array Value).size by kernel_rfl)
    have hHz := Lib.hid (show (#[.int .i64 0, .int .i64 0, .slice none 0 0] : Array Value).size = (#[.int .i64 W6, .int .i64 H6, .slice a6 n6 c6] : Array Value).size from rfl)
    have hHo := Lib.hid (show (#[.int .i64 W6, .int .i64 H6, .slice a6 n6 c6] : Array Value).all (·.oneCell') = true by simp [Value.oneCell'])
    go_upto_region 14 with (refine Au.wpList_store_row rfl 35 (.tmp 13) (.tmp 80) rfl (y7.alloc (.cells #[.int .i64 0, .int .i64 0, .slice none 0 0] 35)) #[.int .i64 0, .int .i64 0, .slice none 0 0] #[.int .i64 W6, .int .i64 H6, .slice a6 n6 c6] (y7.heap.size) 35 HA.out rfl rfl hHi.out hHz.out hHo.out ?_)
    clear c0_0 c0_1 c0_2 c0_3 c0_4 c0_5 c0_6 c0_7 c1_0 c1_1 c1_2 c1_3 c1_4 c1_5 c1_6 c1_7
    clear hHi hHz hHo
    have hN := setRow_heap _ (y7.heap.size) _ #[.int .i64 W6, .int .i64 H6, .slice a6 n6 c6] _ _ HA.out
    clear HA
    have hsz := HU7.out.size
    have hb := Ve.below_n1 y7 (.cells #[.int .i64 0, .int .i64 0, .slice none 0 0] 35)
    have HUx := below_setRow (g := y7.heap.size) (HU7.out.trans (hb.mono HU7.out.size)) (by omega) #[.int .i64 W6, .int .i64 H6, .slice a6 n6 c6]
    have hO : ∀ kk, kk < y7.heap.size → ((y7.alloc (.cells #[.int .i64 0, .int .i64 0, .slice none 0 0] 35)).setRow (y7.heap.size) #[.int .i64 W6, .int .i64 H6, .slice a6 n6 c6]).heap[kk]? = y7.heap[kk]? := fun kk hk => (setRow_other _ _ _ _ (by omega)).trans (hb.block _ hk)
    obtain ⟨y8, hy8⟩ : ∃ y, (y7.alloc (.cells #[.int .i64 0, .int .i64 0, .slice none 0 0] 35)).setRow (y7.heap.size) #[.int .i64 W6, .int .i64 H6, .slice a6 n6 c6] = y := ⟨_, rfl⟩
    have hs8 : y8.heap.size = y7.heap.size + 1 := by rw [← hy8]; simp [World.setRow]
    rw [hy8] at hN HUx hO ⊢
    clear hy8 hsz hb
    have HU8 := Lib.hid HUx
    clear HUx
    have hl8_0 := lt_heap hr7_0
    have hr8_0 := (hO _ hl8_0).trans hr7_0
    have hl8_1 := lt_heap hr7_1
    have hr8_1 := (hO _ hl8_1).trans hr7_1
    have hr8_2 := hN
    have hKK := hO
    clear hN hO
    clear hr7_0 hr7_1 HU7
    have HH8 := Lib.hid ((HH7.out.low.keep (fun b hb => hKK b hb)).rw (by decide))
    clear HH7
    clear hKK
    have c2_0 := cell_of_row _ _ 0 _ _ _ hr8_2
    have c2_1 := cell_of_row _ _ 1 _ _ _ hr8_2
    have c2_2 := cell_of_row _ _ 2 _ _ _ hr8_2
    simp at c2_0 c2_1 c2_2
    go_wp2_with fail
    refine (encsheet_ok W6 H6 a6 c6 n6 L6 _ HH8.out OK6.out).mono ?_
    rintro e y9 ⟨⟨ja, jn, jc, rfl, how⟩, hb9⟩
    clear c2_0 c2_1 c2_2
    have hr9_0 := (hb9.block _ (lt_heap hr8_0)).trans hr8_0
    have hr9_1 := (hb9.block _ (lt_heap hr8_1)).trans hr8_1
    have hr9_2 := (hb9.block _ (lt_heap hr8_2)).trans hr8_2
    have HU9 := Lib.hid (HU8.out.trans (hb9.mono HU8.out.size))
    clear hr8_0 hr8_1 hr8_2 HU8
    have HH9 := Lib.hid (HH8.out.on hb9)
    clear HH8
    have HQ9 := Lib.hid ((show Bs _ (.slice ja jn jc) l by rw [← LB6.out]; exact own_bs_n how))
    clear how
    clear HH9
    have hcv1 := conv_bs HQ9.out
    have hcv2 := conv_bs (HV.out.on HU9.out)
    have c0_0 := cell_of_row _ _ 0 _ _ _ hr9_0
    have c0_1 := cell_of_row _ _ 1 _ _ _ hr9_0
    have c0_2 := cell_of_row _ _ 2 _ _ _ hr9_0
    have c0_3 := cell_of_row _ _ 3 _ _ _ hr9_0
    have c0_4 := cell_of_row _ _ 4 _ _ _ hr9_0
    have c0_5 := cell_of_row _ _ 5 _ _ _ hr9_0
    have c0_6 := cell_of_row _ _ 6 _ _ _ hr9_0
    have c0_7 := cell_of_row _ _ 7 _ _ _ hr9_0
    simp at c0_0 c0_1 c0_2 c0_3 c0_4 c0_5 c0_6 c0_7
    go_wp2_with fail
    clear hcv1 hcv2
    clear HQ9
    refine (awake_any _).mono ?_
    rintro e y10 ⟨rfl, hb10⟩
    clear c0_0 c0_1 c0_2 c0_3 c0_4 c0_5 c0_6 c0_7
    have hr10_0 := (hb10.block _ (lt_heap hr9_0)).trans hr9_0
    have hr10_1 := (hb10.block _ (lt_heap hr9_1)).trans hr9_1
    have hr10_2 := (hb10.block _ (lt_heap hr9_2)).trans hr9_2
    have HU10 := Lib.hid (HU9.out.trans (hb10.mono HU9.out.size))
    clear hr9_0 hr9_1 hr9_2 HU9
    go_wp2
    go_ret
    exact ⟨rfl, HU10.out⟩

set_option maxHeartbeats 16000000 in
set_option maxRecDepth 100000 in
theorem case_4 (W H : Int) (al ad an ab ax af : Option Addr) (cl cd cn cb cx cf nl nd nn nb ns nf : Nat) (L D N B S F : Nat → Int) (ta : Option Addr) (tn tc : Nat) (l : List UInt8) (w : World) (hc : Came w (⟨W, H, nl, nd, nn, nb, ns, nf, L, D, N, B, S, F⟩ : Flm) (⟨al, cl, ad, cd, an, cn, ab, cb, ax, cx, af, cf⟩ : Pl)) (k1 : ¬ 5000 < nl) (k2 : ¬ 5000 < ns) (hv : Bs w (.slice ta tn tc) l) (e1 : okF (⟨W, H, nl, nd, nn, nb, ns, nf, L, D, N, B, S, F⟩ : Flm)) (C4 : ∀ (X : World) (ba : Option Addr) (bn bc : Nat), Bs X (.slice ba bn bc) (filmB (⟨W, H, nl, nd, nn, nb, ns, nf, L, D, N, B, S, F⟩ : Flm)) → SpanF (⟨W, H, nl, nd, nn, nb, ns, nf, L, D, N, B, S, F⟩ : Flm) → Calls Try.prog 22 #[.slice ba bn bc] X fun e' w' => (∃ p : Pl, e' = .returned (.tuple #[.agg (FC (⟨W, H, nl, nd, nn, nb, ns, nf, L, D, N, B, S, F⟩ : Flm) p), .int .i64 0]) ∧ FAt w' (⟨W, H, nl, nd, nn, nb, ns, nf, L, D, N, B, S, F⟩ : Flm) p) ∧ Below X.heap.size X w') (er5 : Int) (h5 : ¬ er5 = 0) (C5 : ∀ X : World, Bs X (.slice ta tn tc) l → Calls Try.prog 22 #[.slice ta tn tc] X fun e' w' => e' = .returned (.tuple #[.agg #[.int .i64 0, .int .i64 0, .slice none 0 0, .slice none 0 0, .slice none 0 0, .slice none 0 0, .slice none 0 0, .slice none 0 0], .int .i64 er5]) ∧ Below X.heap.size X w') (er6 : Int) (h6 : ¬ er6 = 0) (C6 : ∀ X : World, Bs X (.slice ta tn tc) l → Calls Try.prog 20 #[.slice ta tn tc] X fun e' w' => e' = .returned (.tuple #[.agg #[.int .i64 0, .int .i64 0, .slice none 0 0], .int .i64 er6]) ∧ Below X.heap.size X w') : Calls Try.prog 6 #[.agg #[.int .i64 W, .int .i64 H, .slice al nl cl, .slice ad nd cd, .slice an nn cn, .slice ab nb cb, .slice ax ns cx, .slice af nf cf], .slice ta tn tc] w fun e' w' => e' = .returned (.bool true) ∧ Below w.heap.size w w' := by
  have HC := Lib.hid hc
  clear hc
  have d1 := decide_eq_false (show ¬ (5000 : Int) < (nl : Int) by omega)
  have d2 := decide_eq_false (show ¬ (5000 : Int) < (ns : Int) by omega)
  have HV := Lib.hid hv
  have E1 := Lib.hid e1
  clear hv e1
  have HC4 := Lib.hid C4
  clear C4
  obtain ⟨v1, v2, v3, v4, v5, v6⟩ := (show nl ≤ 4096 ∧ nd ≤ 4096 ∧ nn ≤ 4096 ∧ nb ≤ 4096 ∧ ns ≤ 4096 ∧ nf ≤ 4096 from okF_small E1.out)
  have HC5 := Lib.hid C5
  have HC6 := Lib.hid C6
  clear C5 C6
  have q51 : (er5 != 0) = true := by simpa using h5
  have q52 : (er5 == 0) = false := by simpa using h5
  have q53 : ¬ er5 = 0 := h5
  clear h5
  have q61 : (er6 != 0) = true := by simpa using h6
  have q62 : (er6 == 0) = false := by simpa using h6
  have q63 : ¬ er6 = 0 := h6
  clear h6
  go_enter Try.func6, Try.ntmps6
  go_upto_region 1 with fail
  have hR := Au.rows1 w (.cells #[.int .i64 W, .int .i64 H, .slice al nl cl, .slice ad nd cd, .slice an nn cn, .slice ab nb cb, .slice ax ns cx, .slice af nf cf] 29)
  have HUx := Ve.below_n1 w (.cells #[.int .i64 W, .int .i64 H, .slice al nl cl, .slice ad nd cd, .slice an nn cn, .slice ab nb cb, .slice ax ns cx, .slice af nf cf] 29)
  obtain ⟨y0, hy0⟩ : ∃ y0, w.alloc (.cells #[.int .i64 W, .int .i64 H, .slice al nl cl, .slice ad nd cd, .slice an nn cn, .slice ab nb cb, .slice ax ns cx, .slice af nf cf] 29) = y0 := ⟨_, rfl⟩
  rw [hy0] at hR HUx ⊢
  clear hy0
  have HU0 := Lib.hid HUx
  clear HUx
  have hr0_0 := hR
  clear hR
  have c0_0 := cell_of_row _ _ 0 _ _ _ hr0_0
  have c0_1 := cell_of_row _ _ 1 _ _ _ hr0_0
  have c0_2 := cell_of_row _ _ 2 _ _ _ hr0_0
  have c0_3 := cell_of_row _ _ 3 _ _ _ hr0_0
  have c0_4 := cell_of_row _ _ 4 _ _ _ hr0_0
  have c0_5 := cell_of_row _ _ 5 _ _ _ hr0_0
  have c0_6 := cell_of_row _ _ 6 _ _ _ hr0_0
  have c0_7 := cell_of_row _ _ 7 _ _ _ hr0_0
  simp at c0_0 c0_1 c0_2 c0_3 c0_4 c0_5 c0_6 c0_7
  go_wp2_with fail
  refine (held_film (⟨W, H, nl, nd, nn, nb, ns, nf, L, D, N, B, S, F⟩ : Flm) (⟨al, cl, ad, cd, an, cn, ab, cb, ax, cx, af, cf⟩ : Pl) _ (HC.out.at_.on HU0.out) HC.out.bl HC.out.bd HC.out.bn HC.out.bb).mono ?_
  rintro e y1 ⟨t, rfl, hsp, hb1⟩
  clear c0_0 c0_1 c0_2 c0_3 c0_4 c0_5 c0_6 c0_7
  have hr1_0 := (hb1.block _ (lt_heap hr0_0)).trans hr0_0
  have HU1 := Lib.hid (HU0.out.trans (hb1.mono HU0.out.size))
  clear hr0_0 HU0
  have HSP := Lib.hid hsp
  clear hsp
  cases t
  case false =>
    have c0_0 := cell_of_row _ _ 0 _ _ _ hr1_0
    have c0_1 := cell_of_row _ _ 1 _ _ _ hr1_0
    have c0_2 := cell_of_row _ _ 2 _ _ _ hr1_0
    have c0_3 := cell_of_row _ _ 3 _ _ _ hr1_0
    have c0_4 := cell_of_row _ _ 4 _ _ _ hr1_0
    have c0_5 := cell_of_row _ _ 5 _ _ _ hr1_0
    have c0_6 := cell_of_row _ _ 6 _ _ _ hr1_0
    have c0_7 := cell_of_row _ _ 7 _ _ _ hr1_0
    simp at c0_0 c0_1 c0_2 c0_3 c0_4 c0_5 c0_6 c0_7
    go_wp2_with fail
    refine (awake_any _).mono ?_
    rintro e y2 ⟨rfl, hb2⟩
    clear c0_0 c0_1 c0_2 c0_3 c0_4 c0_5 c0_6 c0_7
    have hr2_0 := (hb2.block _ (lt_heap hr1_0)).trans hr1_0
    have HU2 := Lib.hid (HU1.out.trans (hb2.mono HU1.out.size))
    clear hr1_0 HU1
    go_wp2
    go_ret
    exact ⟨rfl, HU2.out⟩
  case true =>
    have HS := Lib.hid (HSP.out rfl)
    clear HSP
    have c0_0 := cell_of_row _ _ 0 _ _ _ hr1_0
    have c0_1 := cell_of_row _ _ 1 _ _ _ hr1_0
    have c0_2 := cell_of_row _ _ 2 _ _ _ hr1_0
    have c0_3 := cell_of_row _ _ 3 _ _ _ hr1_0
    have c0_4 := cell_of_row _ _ 4 _ _ _ hr1_0
    have c0_5 := cell_of_row _ _ 5 _ _ _ hr1_0
    have c0_6 := cell_of_row _ _ 6 _ _ _ hr1_0
    have c0_7 := cell_of_row _ _ 7 _ _ _ hr1_0
    simp at c0_0 c0_1 c0_2 c0_3 c0_4 c0_5 c0_6 c0_7
    go_wp2_with fail
    refine (to_film (⟨W, H, nl, nd, nn, nb, ns, nf, L, D, N, B, S, F⟩ : Flm) (⟨al, cl, ad, cd, an, cn, ab, cb, ax, cx, af, cf⟩ : Pl) _ (HC.out.at_.on HU1.out) HC.out.bl HC.out.bd HC.out.bn HC.out.bb HC.out.bs HC.out.bf HC.out.ks HC.out.kf).mono ?_
    rintro e y2 ⟨⟨⟨al2, cl2, ad2, cd2, an2, cn2, ab2, cb2, ax2, cx2, af2, cf2⟩, rfl, hat⟩, hb2⟩
    clear c0_0 c0_1 c0_2 c0_3 c0_4 c0_5 c0_6 c0_7
    have hr2_0 := (hb2.block _ (lt_heap hr1_0)).trans hr1_0
    have HU2 := Lib.hid (HU1.out.trans (hb2.mono HU1.out.size))
    clear hr1_0 HU1
    have HAT2 := Lib.hid (hat)
    clear hat
    go_wp2_with fail
    refine (encfilm_bs (⟨W, H, nl, nd, nn, nb, ns, nf, L, D, N, B, S, F⟩ : Flm) (⟨al2, cl2, ad2, cd2, an2, cn2, ab2, cb2, ax2, cx2, af2, cf2⟩ : Pl) _ HAT2.out E1.out).mono ?_
    rintro e y3 ⟨⟨fa, fn, fc, rfl, how⟩, hb3⟩
    have hr3_0 := (hb3.block _ (lt_heap hr2_0)).trans hr2_0
    have HU3 := Lib.hid (HU2.out.trans (hb3.mono HU2.out.size))
    clear hr2_0 HU2
    have HAT3 := Lib.hid (HAT2.out.on hb3)
    clear HAT2
    have HB3 := Lib.hid (how)
    clear how
    clear HAT3
    have c0_0 := cell_of_row _ _ 0 _ _ _ hr3_0
    have c0_1 := cell_of_row _ _ 1 _ _ _ hr3_0
    have c0_2 := cell_of_row _ _ 2 _ _ _ hr3_0
    have c0_3 := cell_of_row _ _ 3 _ _ _ hr3_0
    have c0_4 := cell_of_row _ _ 4 _ _ _ hr3_0
    have c0_5 := cell_of_row _ _ 5 _ _ _ hr3_0
    have c0_6 := cell_of_row _ _ 6 _ _ _ hr3_0
    have c0_7 := cell_of_row _ _ 7 _ _ _ hr3_0
    simp at c0_0 c0_1 c0_2 c0_3 c0_4 c0_5 c0_6 c0_7
    go_wp2_with fail
    refine (HC4.out _ _ _ _ HB3.out HS.out).mono ?_
    rintro e y4 ⟨⟨⟨al4, cl4, ad4, cd4, an4, cn4, ab4, cb4, ax4, cx4, af4, cf4⟩, rfl, hat⟩, hb4⟩
    clear c0_0 c0_1 c0_2 c0_3 c0_4 c0_5 c0_6 c0_7
    have hr4_0 := (hb4.block _ (lt_heap hr3_0)).trans hr3_0
    have HU4 := Lib.hid (HU3.out.trans (hb4.mono HU3.out.size))
    clear hr3_0 HU3
    have HG4 := Lib.hid hat
    clear hat HB3
    have c0_0 := cell_of_row _ _ 0 _ _ _ hr4_0
    have c0_1 := cell_of_row _ _ 1 _ _ _ hr4_0
    have c0_2 := cell_of_row _ _ 2 _ _ _ hr4_0
    have c0_3 := cell_of_row _ _ 3 _ _ _ hr4_0
    have c0_4 := cell_of_row _ _ 4 _ _ _ hr4_0
    have c0_5 := cell_of_row _ _ 5 _ _ _ hr4_0
    have c0_6 := cell_of_row _ _ 6 _ _ _ hr4_0
    have c0_7 := cell_of_row _ _ 7 _ _ _ hr4_0
    simp at c0_0 c0_1 c0_2 c0_3 c0_4 c0_5 c0_6 c0_7
    have HA := Lib.hid (heap_alloc_last y4 (.cells #[.int .i64 0, .int .i64 0, .slice none 0 0, .slice none 0 0, .slice none 0 0, .slice none 0 0, .slice none 0 0, .slice none 0 0] 39))
    have hHi := Lib.hid (show (Try.prog.info? 39).map (·.size) = some (#[.int .i64 W, .int .i64 H, .slice al4 nl cl4, .slice ad4 nd cd4, .slice an4 nn cn4, .slice ab4 nb cb4, .slice ax4 ns cx4, .slice af4 nf cf4] : Array Value).size by kernel_rfl)
    have hHz := Lib.hid (show (#[.int .i64 0, .int .i64 0, .slice none 0 0, .slice none 0 0, .slice none 0 0, .slice none 0 0, .slice none 0 0, .slice none 0 0] : Array Value).size = (#[.int .i64 W, .int .i64 H, .slice al4 nl cl4, .slice ad4 nd cd4, .slice an4 nn cn4, .slice ab4 nb cb4, .slice ax4 ns cx4, .slice af4 nf cf4] : Array Value).size from rfl)
    have hHo := Lib.hid (show (#[.int .i64 W, .int .i64 H, .slice al4 nl cl4, .slice ad4 nd cd4, .slice an4 nn cn4, .slice ab4 nb cb4, .slice ax4 ns cx4, .slice af4 nf cf4] : Array Value).all (·.oneCell') = true by simp [Value.oneCell'])
    go_upto_region 6 with (refine Au.wpList_store_row rfl 39 (.tmp 7) (.tmp 45) rfl (y4.alloc (.cells #[.int .i64 0, .int .i64 0, .slice none 0 0, .slice none 0 0, .slice none 0 0, .slice none 0 0, .slice none 0 0, .slice none 0 0] 39)) #[.int .i64 0, .int .i64 0, .slice none 0 0, .slice none 0 0, .slice none 0 0, .slice none 0 0, .slice none 0 0, .slice none 0 0] #[.int .i64 W, .int .i64 H, .slice al4 nl cl4, .slice ad4 nd cd4, .slice an4 nn cn4, .slice ab4 nb cb4, .slice ax4 ns cx4, .slice af4 nf cf4] (y4.heap.size) 39 HA.out rfl rfl hHi.out hHz.out hHo.out ?_)
    clear c0_0 c0_1 c0_2 c0_3 c0_4 c0_5 c0_6 c0_7
    clear hHi hHz hHo
    have hN := setRow_heap _ (y4.heap.size) _ #[.int .i64 W, .int .i64 H, .slice al4 nl cl4, .slice ad4 nd cd4, .slice an4 nn cn4, .slice ab4 nb cb4, .slice ax4 ns cx4, .slice af4 nf cf4] _ _ HA.out
    clear HA
    have hsz := HU4.out.size
    have hb := Ve.below_n1 y4 (.cells #[.int .i64 0, .int .i64 0, .slice none 0 0, .slice none 0 0, .slice none 0 0, .slice none 0 0, .slice none 0 0, .slice none 0 0] 39)
    have HUx := below_setRow (g := y4.heap.size) (HU4.out.trans (hb.mono HU4.out.size)) (by omega) #[.int .i64 W, .int .i64 H, .slice al4 nl cl4, .slice ad4 nd cd4, .slice an4 nn cn4, .slice ab4 nb cb4, .slice ax4 ns cx4, .slice af4 nf cf4]
    have hO : ∀ kk, kk < y4.heap.size → ((y4.alloc (.cells #[.int .i64 0, .int .i64 0, .slice none 0 0, .slice none 0 0, .slice none 0 0, .slice none 0 0, .slice none 0 0, .slice none 0 0] 39)).setRow (y4.heap.size) #[.int .i64 W, .int .i64 H, .slice al4 nl cl4, .slice ad4 nd cd4, .slice an4 nn cn4, .slice ab4 nb cb4, .slice ax4 ns cx4, .slice af4 nf cf4]).heap[kk]? = y4.heap[kk]? := fun kk hk => (setRow_other _ _ _ _ (by omega)).trans (hb.block _ hk)
    obtain ⟨y5, hy5⟩ : ∃ y, (y4.alloc (.cells #[.int .i64 0, .int .i64 0, .slice none 0 0, .slice none 0 0, .slice none 0 0, .slice none 0 0, .slice none 0 0, .slice none 0 0] 39)).setRow (y4.heap.size) #[.int .i64 W, .int .i64 H, .slice al4 nl cl4, .slice ad4 nd cd4, .slice an4 nn cn4, .slice ab4 nb cb4, .slice ax4 ns cx4, .slice af4 nf cf4] = y := ⟨_, rfl⟩
    have hs5 : y5.heap.size = y4.heap.size + 1 := by rw [← hy5]; simp [World.setRow]
    rw [hy5] at hN HUx hO ⊢
    clear hy5 hsz hb
    have HU5 := Lib.hid HUx
    clear HUx
    have hl5_0 := lt_heap hr4_0
    have hr5_0 := (hO _ hl5_0).trans hr4_0
    have hr5_1 := hN
    have hKK := hO
    clear hN hO
    clear hr4_0 HU4
    have HG5 := Lib.hid (show FAt y5 (⟨W, H, nl, nd, nn, nb, ns, nf, L, D, N, B, S, F⟩ : Flm) (⟨al4, cl4, ad4, cd4, an4, cn4, ab4, cb4, ax4, cx4, af4, cf4⟩ : Pl) from ⟨(HG4.out.l.low.keep (fun b hb => hKK b hb)).rw (by decide), (HG4.out.d.low.keep (fun b hb => hKK b hb)).rw (by decide), (HG4.out.n.low.keep (fun b hb => hKK b hb)).rw (by decide), (HG4.out.b.low.keep (fun b hb => hKK b hb)).rw (by decide), (HG4.out.s.low.keep (fun b hb => hKK b hb)).rw (by decide), (HG4.out.f.low.keep (fun b hb => hKK b hb)).rw (by decide)⟩)
    clear HG4
    clear hKK
    refine wp_region_held_drew (S := fun y => y.heap[w.heap.size]? = some (.cells #[.int .i64 W, .int .i64 H, .slice al nl cl, .slice ad nd cd, .slice an nn cn, .slice ab nb cb, .slice ax ns cx, .slice af nf cf] 29 (0, 0)) ∧ y.heap[y4.heap.size]? = some (.cells #[.int .i64 W, .int .i64 H, .slice al4 nl cl4, .slice ad4 nd cd4, .slice an4 nn cn4, .slice ab4 nb cb4, .slice ax4 ns cx4, .slice af4 nf cf4] 39 (0, 0))) (by kernel_rfl) (⟨hr5_0, hr5_1⟩) (fun hS0 => ?_)
    obtain ⟨z0, hz0_⟩ : ∃ y, y5.drew = y := ⟨_, rfl⟩
    have HV0 := Lib.hid (show Below w.heap.size w z0 by rw [← hz0_]; exact HU5.out.drew)
    have HG0 := Lib.hid (show FAt z0 (⟨W, H, nl, nd, nn, nb, ns, nf, L, D, N, B, S, F⟩ : Flm) (⟨al4, cl4, ad4, cd4, an4, cn4, ab4, cb4, ax4, cx4, af4, cf4⟩ : Pl) by rw [← hz0_]; exact HG5.out.on (Below.refl _ _).drew)
    rw [hz0_] at hS0 ⊢
    clear hz0_ HU5 HG5
    clear hr5_0 hr5_1
    refine wpAnyH_take (i := 0) (v := ?_) rfl (by kernel_rfl) (by kernel_rfl) (by kernel_rfl) (fun _ _ _ h => h) (Or.inl ⟨by kernel_rfl, by (intro wz hSz; go_simp; try with_reducible rfl)⟩) hS0 ?_
    go_simp
    refine wpAnyH_take (i := 1) (v := ?_) rfl (by kernel_rfl) (by kernel_rfl) (by kernel_rfl) (fun _ _ _ h => h) (Or.inl ⟨by kernel_rfl, by (intro wz hSz; go_simp; try with_reducible rfl)⟩) hS0 ?_
    go_simp
    refine wpAnyH_take (i := 2) (v := ?_) rfl (by kernel_rfl) (by kernel_rfl) (by kernel_rfl) (fun _ _ _ h => h) (Or.inl ⟨by kernel_rfl, by (intro wz hSz; go_simp; try with_reducible rfl)⟩) hS0 ?_
    go_simp
    refine wpAnyH_take (i := 3) (v := ?_) rfl (by kernel_rfl) (by kernel_rfl) (by kernel_rfl) (fun _ _ _ h => h) (Or.inl ⟨by kernel_rfl, by (intro wz hSz; have c0 := cell_of_row _ _ 0 _ _ _ (hSz.2); have c1 := cell_of_row _ _ 1 _ _ _ (hSz.2); have c2 := cell_of_row _ _ 2 _ _ _ (hSz.2); have c3 := cell_of_row _ _ 3 _ _ _ (hSz.2); have c4 := cell_of_row _ _ 4 _ _ _ (hSz.2); have c5 := cell_of_row _ _ 5 _ _ _ (hSz.2); have c6 := cell_of_row _ _ 6 _ _ _ (hSz.2); have c7 := cell_of_row _ _ 7 _ _ _ (hSz.2); simp at c0 c1 c2 c3 c4 c5 c6 c7; go_simp; try with_reducible rfl)⟩) hS0 ?_
    go_simp
    refine wpAnyH_take (i := 5) (v := ?_) rfl (by kernel_rfl) (by kernel_rfl) (by kernel_rfl) (fun _ _ _ h => h) (Or.inl ⟨by kernel_rfl, by (intro wz hSz; have c0 := cell_of_row _ _ 0 _ _ _ (hSz.1); have c1 := cell_of_row _ _ 1 _ _ _ (hSz.1); have c2 := cell_of_row _ _ 2 _ _ _ (hSz.1); have c3 := cell_of_row _ _ 3 _ _ _ (hSz.1); have c4 := cell_of_row _ _ 4 _ _ _ (hSz.1); have c5 := cell_of_row _ _ 5 _ _ _ (hSz.1); have c6 := cell_of_row _ _ 6 _ _ _ (hSz.1); have c7 := cell_of_row _ _ 7 _ _ _ (hSz.1); simp at c0 c1 c2 c3 c4 c5 c6 c7; go_simp; try with_reducible rfl)⟩) hS0 ?_
    go_simp
    refine wpAnyH_ready (rs := [4]) (by kernel_rfl) (by simp) ?_
    refine AllReadyH.cons rfl (fun K hK => ?_) AllReadyH.nil
    go_simp
    go_wp2_with (go_at_call 27; refine (from_film (⟨W, H, nl, nd, nn, nb, ns, nf, L, D, N, B, S, F⟩ : Flm) (⟨al4, cl4, ad4, cd4, an4, cn4, ab4, cb4, ax4, cx4, af4, cf4⟩ : Pl) _ HG0.out (by show nl * 24 ≤ 140737488351232; omega) (by show nd * 8 ≤ 140737488351232; omega) (by show nn * 24 ≤ 140737488351232; omega) (by show nb * 24 ≤ 140737488351232; omega) (by show ns * 8 ≤ 140737488351232; omega) (by show nf * 8 ≤ 140737488351232; omega)).mono ?_; rintro e z1 ⟨⟨⟨al7, cl7, ad7, cd7, an7, cn7, ab7, cb7, ax7, cx7, af7, cf7⟩, rfl, h5_⟩, hb1⟩)
    have HV1 := Lib.hid (HV0.out.trans (hb1.mono HV0.out.size))
    have HX1 := Lib.hid h5_
    clear h5_
    refine hK.out _ _ (⟨(hb1.block _ (lt_heap hS0.1)).trans hS0.1, (hb1.block _ (lt_heap hS0.2)).trans hS0.2⟩) (fun hS1 => ?_)
    clear hK K
    refine wpAnyH_ready (rs := [6]) (by kernel_rfl) (by simp) ?_
    refine AllReadyH.cons rfl (fun K hK => ?_) AllReadyH.nil
    go_simp
    go_wp2_with (go_at_call 26; refine (same_film (⟨W, H, nl, nd, nn, nb, ns, nf, L, D, N, B, S, F⟩ : Flm) (⟨al7, cl7, ad7, cd7, an7, cn7, ab7, cb7, ax7, cx7, af7, cf7⟩ : Pl) (⟨al, cl, ad, cd, an, cn, ab, cb, ax, cx, af, cf⟩ : Pl) _ HX1.out (HC.out.at_.on HV1.out) (by show nl ≤ 140737488351232; omega) (by show nd ≤ 140737488351232; omega) (by show nn ≤ 140737488351232; omega) (by show nb ≤ 140737488351232; omega) (by show ns ≤ 140737488351232; omega) (by show nf ≤ 140737488351232; omega)).mono ?_; rintro e z2 ⟨rfl, hb2⟩)
    have HV2 := Lib.hid (HV1.out.trans (hb2.mono HV1.out.size))
    refine hK.out _ _ (⟨(hb2.block _ (lt_heap hS1.1)).trans hS1.1, (hb2.block _ (lt_heap hS1.2)).trans hS1.2⟩) (fun hS2 => ?_)
    clear hK K
    refine wpAnyH_take (i := 7) (v := ?_) rfl (by kernel_rfl) (by kernel_rfl) (by kernel_rfl) (fun _ _ _ h => h) (Or.inl ⟨by kernel_rfl, by (intro wz hSz; go_simp; try with_reducible rfl)⟩) hS2 ?_
    go_simp
    refine wpAnyH_take (i := 8) (v := ?_) rfl (by kernel_rfl) (by kernel_rfl) (by kernel_rfl) (fun _ _ _ h => h) (Or.inl ⟨by kernel_rfl, by (intro wz hSz; go_simp; try with_reducible rfl)⟩) hS2 ?_
    go_simp
    refine wpAnyH_done (by kernel_rfl) ?_ _
    obtain ⟨y20, hy20⟩ : ∃ y : World, y = z2 := ⟨_, rfl⟩
    rw [← hy20] at hS2 HV2 ⊢
    clear hy20
    have HU20 := HV2
    obtain ⟨hr20_0, hr20_1⟩ := hS2
    have c0_0 := cell_of_row _ _ 0 _ _ _ hr20_0
    have c0_1 := cell_of_row _ _ 1 _ _ _ hr20_0
    have c0_2 := cell_of_row _ _ 2 _ _ _ hr20_0
    have c0_3 := cell_of_row _ _ 3 _ _ _ hr20_0
    have c0_4 := cell_of_row _ _ 4 _ _ _ hr20_0
    have c0_5 := cell_of_row _ _ 5 _ _ _ hr20_0
    have c0_6 := cell_of_row _ _ 6 _ _ _ hr20_0
    have c0_7 := cell_of_row _ _ 7 _ _ _ hr20_0
    simp at c0_0 c0_1 c0_2 c0_3 c0_4 c0_5 c0_6 c0_7
    go_wp2_with fail
    refine (HC5.out _ (HV.out.on HU20.out)).mono ?_
    rintro e y21 ⟨rfl, hb21⟩
    clear c0_0 c0_1 c0_2 c0_3 c0_4 c0_5 c0_6 c0_7
    have hr21_0 := (hb21.block _ (lt_heap hr20_0)).trans hr20_0
    have hr21_1 := (hb21.block _ (lt_heap hr20_1)).trans hr20_1
    have HU21 := Lib.hid (HU20.out.trans (hb21.mono HU20.out.size))
    clear hr20_0 hr20_1 HU20
    go_upto_region 9 with fail
    have hb22 := Ve.below_n1 y21 (.cells #[.int .i64 0, .int .i64 0, .slice none 0 0, .slice none 0 0, .slice none 0 0, .slice none 0 0, .slice none 0 0, .slice none 0 0] 39)
    have hN := heap_alloc_last y21 (.cells #[.int .i64 0, .int .i64 0, .slice none 0 0, .slice none 0 0, .slice none 0 0, .slice none 0 0, .slice none 0 0, .slice none 0 0] 39)
    obtain ⟨y22, hy22⟩ : ∃ y, y21.alloc (.cells #[.int .i64 0, .int .i64 0, .slice none 0 0, .slice none 0 0, .slice none 0 0, .slice none 0 0, .slice none 0 0, .slice none 0 0] 39) = y := ⟨_, rfl⟩
    have hs22 : y22.heap.size = y21.heap.size + 1 := by rw [← hy22]; simp
    rw [hy22] at hb22 hN ⊢
    clear hy22
    have hl22_0 := lt_heap hr21_0
    have hl22_1 := lt_heap hr21_1
    have hr22_0 := (hb22.block _ (lt_heap hr21_0)).trans hr21_0
    have hr22_1 := (hb22.block _ (lt_heap hr21_1)).trans hr21_1
    have HU22 := Lib.hid (HU21.out.trans (hb22.mono HU21.out.size))
    clear hr21_0 hr21_1 HU21
    have hr22_2 := hN
    clear hN
    have c0_0 := cell_of_row _ _ 0 _ _ _ hr22_0
    have c0_1 := cell_of_row _ _ 1 _ _ _ hr22_0
    have c0_2 := cell_of_row _ _ 2 _ _ _ hr22_0
    have c0_3 := cell_of_row _ _ 3 _ _ _ hr22_0
    have c0_4 := cell_of_row _ _ 4 _ _ _ hr22_0
    have c0_5 := cell_of_row _ _ 5 _ _ _ hr22_0
    have c0_6 := cell_of_row _ _ 6 _ _ _ hr22_0
    have c0_7 := cell_of_row _ _ 7 _ _ _ hr22_0
    simp at c0_0 c0_1 c0_2 c0_3 c0_4 c0_5 c0_6 c0_7
    go_wp2_with fail
    refine (HC6.out _ (HV.out.on HU22.out)).mono ?_
    rintro e y23 ⟨rfl, hb23⟩
    clear c0_0 c0_1 c0_2 c0_3 c0_4 c0_5 c0_6 c0_7
    have hr23_0 := (hb23.block _ (lt_heap hr22_0)).trans hr22_0
    have hr23_1 := (hb23.block _ (lt_heap hr22_1)).trans hr22_1
    have hr23_2 := (hb23.block _ (lt_heap hr22_2)).trans hr22_2
    have HU23 := Lib.hid (HU22.out.trans (hb23.mono HU22.out.size))
    clear hr22_0 hr22_1 hr22_2 HU22
    go_upto_region 14 with fail
    have hb24 := Ve.below_n1 y23 (.cells #[.int .i64 0, .int .i64 0, .slice none 0 0] 35)
    have hN := heap_alloc_last y23 (.cells #[.int .i64 0, .int .i64 0, .slice none 0 0] 35)
    obtain ⟨y24, hy24⟩ : ∃ y, y23.alloc (.cells #[.int .i64 0, .int .i64 0, .slice none 0 0] 35) = y := ⟨_, rfl⟩
    have hs24 : y24.heap.size = y23.heap.size + 1 := by rw [← hy24]; simp
    rw [hy24] at hb24 hN ⊢
    clear hy24
    have hl24_0 := lt_heap hr23_0
    have hl24_1 := lt_heap hr23_1
    have hl24_2 := lt_heap hr23_2
    have hr24_0 := (hb24.block _ (lt_heap hr23_0)).trans hr23_0
    have hr24_1 := (hb24.block _ (lt_heap hr23_1)).trans hr23_1
    have hr24_2 := (hb24.block _ (lt_heap hr23_2)).trans hr23_2
    have HU24 := Lib.hid (HU23.out.trans (hb24.mono HU23.out.size))
    clear hr23_0 hr23_1 hr23_2 HU23
    have hr24_3 := hN
    clear hN
    have c0_0 := cell_of_row _ _ 0 _ _ _ hr24_0
    have c0_1 := cell_of_row _ _ 1 _ _ _ hr24_0
    have c0_2 := cell_of_row _ _ 2 _ _ _ hr24_0
    have c0_3 := cell_of_row _ _ 3 _ _ _ hr24_0
    have c0_4 := cell_of_row _ _ 4 _ _ _ hr24_0
    have c0_5 := cell_of_row _ _ 5 _ _ _ hr24_0
    have c0_6 := cell_of_row _ _ 6 _ _ _ hr24_0
    have c0_7 := cell_of_row _ _ 7 _ _ _ hr24_0
    simp at c0_0 c0_1 c0_2 c0_3 c0_4 c0_5 c0_6 c0_7
    go_wp2_with fail
    refine (awake_any _).mono ?_
    rintro e y25 ⟨rfl, hb25⟩
    clear c0_0 c0_1 c0_2 c0_3 c0_4 c0_5 c0_6 c0_7
    have hr25_0 := (hb25.block _ (lt_heap hr24_0)).trans hr24_0
    have hr25_1 := (hb25.block _ (lt_heap hr24_1)).trans hr24_1
    have hr25_2 := (hb25.block _ (lt_heap hr24_2)).trans hr24_2
    have hr25_3 := (hb25.block _ (lt_heap hr24_3)).trans hr24_3
    have HU25 := Lib.hid (HU24.out.trans (hb25.mono HU24.out.size))
    clear hr24_0 hr24_1 hr24_2 hr24_3 HU24
    go_wp2
    go_ret
    exact ⟨rfl, HU25.out⟩

set_option maxHeartbeats 16000000 in
set_option maxRecDepth 100000 in
theorem case_5 (W H : Int) (al ad an ab ax af : Option Addr) (cl cd cn cb cx cf nl nd nn nb ns nf : Nat) (L D N B S F : Nat → Int) (ta : Option Addr) (tn tc : Nat) (l : List UInt8) (w : World) (hc : Came w (⟨W, H, nl, nd, nn, nb, ns, nf, L, D, N, B, S, F⟩ : Flm) (⟨al, cl, ad, cd, an, cn, ab, cb, ax, cx, af, cf⟩ : Pl)) (k1 : ¬ 5000 < nl) (k2 : ¬ 5000 < ns) (hv : Bs w (.slice ta tn tc) l) (e1 : okF (⟨W, H, nl, nd, nn, nb, ns, nf, L, D, N, B, S, F⟩ : Flm)) (C4 : ∀ (X : World) (ba : Option Addr) (bn bc : Nat), Bs X (.slice ba bn bc) (filmB (⟨W, H, nl, nd, nn, nb, ns, nf, L, D, N, B, S, F⟩ : Flm)) → SpanF (⟨W, H, nl, nd, nn, nb, ns, nf, L, D, N, B, S, F⟩ : Flm) → Calls Try.prog 22 #[.slice ba bn bc] X fun e' w' => (∃ p : Pl, e' = .returned (.tuple #[.agg (FC (⟨W, H, nl, nd, nn, nb, ns, nf, L, D, N, B, S, F⟩ : Flm) p), .int .i64 0]) ∧ FAt w' (⟨W, H, nl, nd, nn, nb, ns, nf, L, D, N, B, S, F⟩ : Flm) p) ∧ Below X.heap.size X w') (er5 : Int) (h5 : ¬ er5 = 0) (C5 : ∀ X : World, Bs X (.slice ta tn tc) l → Calls Try.prog 22 #[.slice ta tn tc] X fun e' w' => e' = .returned (.tuple #[.agg #[.int .i64 0, .int .i64 0, .slice none 0 0, .slice none 0 0, .slice none 0 0, .slice none 0 0, .slice none 0 0, .slice none 0 0], .int .i64 er5]) ∧ Below X.heap.size X w') (W6 H6 : Int) (n6 : Nat) (L6 : Nat → Int) (C6 : ∀ X : World, Bs X (.slice ta tn tc) l → Calls Try.prog 20 #[.slice ta tn tc] X fun e' w' => (∃ a c, e' = .returned (.tuple #[.agg #[.int .i64 W6, .int .i64 H6, .slice a n6 c], .int .i64 0]) ∧ Rw 3 w' a n6 L6) ∧ Below X.heap.size X w') (ok6 : okSh W6 H6 n6) (lb6 : sheetB W6 H6 n6 L6 = l) : Calls Try.prog 6 #[.agg #[.int .i64 W, .int .i64 H, .slice al nl cl, .slice ad nd cd, .slice an nn cn, .slice ab nb cb, .slice ax ns cx, .slice af nf cf], .slice ta tn tc] w fun e' w' => e' = .returned (.bool true) ∧ Below w.heap.size w w' := by
  have HC := Lib.hid hc
  clear hc
  have d1 := decide_eq_false (show ¬ (5000 : Int) < (nl : Int) by omega)
  have d2 := decide_eq_false (show ¬ (5000 : Int) < (ns : Int) by omega)
  have HV := Lib.hid hv
  have E1 := Lib.hid e1
  clear hv e1
  have HC4 := Lib.hid C4
  clear C4
  obtain ⟨v1, v2, v3, v4, v5, v6⟩ := (show nl ≤ 4096 ∧ nd ≤ 4096 ∧ nn ≤ 4096 ∧ nb ≤ 4096 ∧ ns ≤ 4096 ∧ nf ≤ 4096 from okF_small E1.out)
  have HC5 := Lib.hid C5
  have HC6 := Lib.hid C6
  clear C5 C6
  have q51 : (er5 != 0) = true := by simpa using h5
  have q52 : (er5 == 0) = false := by simpa using h5
  have q53 : ¬ er5 = 0 := h5
  clear h5
  have OK6 := Lib.hid ok6
  have LB6 := Lib.hid lb6
  clear ok6 lb6
  go_enter Try.func6, Try.ntmps6
  go_upto_region 1 with fail
  have hR := Au.rows1 w (.cells #[.int .i64 W, .int .i64 H, .slice al nl cl, .slice ad nd cd, .slice an nn cn, .slice ab nb cb, .slice ax ns cx, .slice af nf cf] 29)
  have HUx := Ve.below_n1 w (.cells #[.int .i64 W, .int .i64 H, .slice al nl cl, .slice ad nd cd, .slice an nn cn, .slice ab nb cb, .slice ax ns cx, .slice af nf cf] 29)
  obtain ⟨y0, hy0⟩ : ∃ y0, w.alloc (.cells #[.int .i64 W, .int .i64 H, .slice al nl cl, .slice ad nd cd, .slice an nn cn, .slice ab nb cb, .slice ax ns cx, .slice af nf cf] 29) = y0 := ⟨_, rfl⟩
  rw [hy0] at hR HUx ⊢
  clear hy0
  have HU0 := Lib.hid HUx
  clear HUx
  have hr0_0 := hR
  clear hR
  have c0_0 := cell_of_row _ _ 0 _ _ _ hr0_0
  have c0_1 := cell_of_row _ _ 1 _ _ _ hr0_0
  have c0_2 := cell_of_row _ _ 2 _ _ _ hr0_0
  have c0_3 := cell_of_row _ _ 3 _ _ _ hr0_0
  have c0_4 := cell_of_row _ _ 4 _ _ _ hr0_0
  have c0_5 := cell_of_row _ _ 5 _ _ _ hr0_0
  have c0_6 := cell_of_row _ _ 6 _ _ _ hr0_0
  have c0_7 := cell_of_row _ _ 7 _ _ _ hr0_0
  simp at c0_0 c0_1 c0_2 c0_3 c0_4 c0_5 c0_6 c0_7
  go_wp2_with fail
  refine (held_film (⟨W, H, nl, nd, nn, nb, ns, nf, L, D, N, B, S, F⟩ : Flm) (⟨al, cl, ad, cd, an, cn, ab, cb, ax, cx, af, cf⟩ : Pl) _ (HC.out.at_.on HU0.out) HC.out.bl HC.out.bd HC.out.bn HC.out.bb).mono ?_
  rintro e y1 ⟨t, rfl, hsp, hb1⟩
  clear c0_0 c0_1 c0_2 c0_3 c0_4 c0_5 c0_6 c0_7
  have hr1_0 := (hb1.block _ (lt_heap hr0_0)).trans hr0_0
  have HU1 := Lib.hid (HU0.out.trans (hb1.mono HU0.out.size))
  clear hr0_0 HU0
  have HSP := Lib.hid hsp
  clear hsp
  cases t
  case false =>
    have c0_0 := cell_of_row _ _ 0 _ _ _ hr1_0
    have c0_1 := cell_of_row _ _ 1 _ _ _ hr1_0
    have c0_2 := cell_of_row _ _ 2 _ _ _ hr1_0
    have c0_3 := cell_of_row _ _ 3 _ _ _ hr1_0
    have c0_4 := cell_of_row _ _ 4 _ _ _ hr1_0
    have c0_5 := cell_of_row _ _ 5 _ _ _ hr1_0
    have c0_6 := cell_of_row _ _ 6 _ _ _ hr1_0
    have c0_7 := cell_of_row _ _ 7 _ _ _ hr1_0
    simp at c0_0 c0_1 c0_2 c0_3 c0_4 c0_5 c0_6 c0_7
    go_wp2_with fail
    refine (awake_any _).mono ?_
    rintro e y2 ⟨rfl, hb2⟩
    clear c0_0 c0_1 c0_2 c0_3 c0_4 c0_5 c0_6 c0_7
    have hr2_0 := (hb2.block _ (lt_heap hr1_0)).trans hr1_0
    have HU2 := Lib.hid (HU1.out.trans (hb2.mono HU1.out.size))
    clear hr1_0 HU1
    go_wp2
    go_ret
    exact ⟨rfl, HU2.out⟩
  case true =>
    have HS := Lib.hid (HSP.out rfl)
    clear HSP
    have c0_0 := cell_of_row _ _ 0 _ _ _ hr1_0
    have c0_1 := cell_of_row _ _ 1 _ _ _ hr1_0
    have c0_2 := cell_of_row _ _ 2 _ _ _ hr1_0
    have c0_3 := cell_of_row _ _ 3 _ _ _ hr1_0
    have c0_4 := cell_of_row _ _ 4 _ _ _ hr1_0
    have c0_5 := cell_of_row _ _ 5 _ _ _ hr1_0
    have c0_6 := cell_of_row _ _ 6 _ _ _ hr1_0
    have c0_7 := cell_of_row _ _ 7 _ _ _ hr1_0
    simp at c0_0 c0_1 c0_2 c0_3 c0_4 c0_5 c0_6 c0_7
    go_wp2_with fail
    refine (to_film (⟨W, H, nl, nd, nn, nb, ns, nf, L, D, N, B, S, F⟩ : Flm) (⟨al, cl, ad, cd, an, cn, ab, cb, ax, cx, af, cf⟩ : Pl) _ (HC.out.at_.on HU1.out) HC.out.bl HC.out.bd HC.out.bn HC.out.bb HC.out.bs HC.out.bf HC.out.ks HC.out.kf).mono ?_
    rintro e y2 ⟨⟨⟨al2, cl2, ad2, cd2, an2, cn2, ab2, cb2, ax2, cx2, af2, cf2⟩, rfl, hat⟩, hb2⟩
    clear c0_0 c0_1 c0_2 c0_3 c0_4 c0_5 c0_6 c0_7
    have hr2_0 := (hb2.block _ (lt_heap hr1_0)).trans hr1_0
    have HU2 := Lib.hid (HU1.out.trans (hb2.mono HU1.out.size))
    clear hr1_0 HU1
    have HAT2 := Lib.hid (hat)
    clear hat
    go_wp2_with fail
    refine (encfilm_bs (⟨W, H, nl, nd, nn, nb, ns, nf, L, D, N, B, S, F⟩ : Flm) (⟨al2, cl2, ad2, cd2, an2, cn2, ab2, cb2, ax2, cx2, af2, cf2⟩ : Pl) _ HAT2.out E1.out).mono ?_
    rintro e y3 ⟨⟨fa, fn, fc, rfl, how⟩, hb3⟩
    have hr3_0 := (hb3.block _ (lt_heap hr2_0)).trans hr2_0
    have HU3 := Lib.hid (HU2.out.trans (hb3.mono HU2.out.size))
    clear hr2_0 HU2
    have HAT3 := Lib.hid (HAT2.out.on hb3)
    clear HAT2
    have HB3 := Lib.hid (how)
    clear how
    clear HAT3
    have c0_0 := cell_of_row _ _ 0 _ _ _ hr3_0
    have c0_1 := cell_of_row _ _ 1 _ _ _ hr3_0
    have c0_2 := cell_of_row _ _ 2 _ _ _ hr3_0
    have c0_3 := cell_of_row _ _ 3 _ _ _ hr3_0
    have c0_4 := cell_of_row _ _ 4 _ _ _ hr3_0
    have c0_5 := cell_of_row _ _ 5 _ _ _ hr3_0
    have c0_6 := cell_of_row _ _ 6 _ _ _ hr3_0
    have c0_7 := cell_of_row _ _ 7 _ _ _ hr3_0
    simp at c0_0 c0_1 c0_2 c0_3 c0_4 c0_5 c0_6 c0_7
    go_wp2_with fail
    refine (HC4.out _ _ _ _ HB3.out HS.out).mono ?_
    rintro e y4 ⟨⟨⟨al4, cl4, ad4, cd4, an4, cn4, ab4, cb4, ax4, cx4, af4, cf4⟩, rfl, hat⟩, hb4⟩
    clear c0_0 c0_1 c0_2 c0_3 c0_4 c0_5 c0_6 c0_7
    have hr4_0 := (hb4.block _ (lt_heap hr3_0)).trans hr3_0
    have HU4 := Lib.hid (HU3.out.trans (hb4.mono HU3.out.size))
    clear hr3_0 HU3
    have HG4 := Lib.hid hat
    clear hat HB3
    have c0_0 := cell_of_row _ _ 0 _ _ _ hr4_0
    have c0_1 := cell_of_row _ _ 1 _ _ _ hr4_0
    have c0_2 := cell_of_row _ _ 2 _ _ _ hr4_0
    have c0_3 := cell_of_row _ _ 3 _ _ _ hr4_0
    have c0_4 := cell_of_row _ _ 4 _ _ _ hr4_0
    have c0_5 := cell_of_row _ _ 5 _ _ _ hr4_0
    have c0_6 := cell_of_row _ _ 6 _ _ _ hr4_0
    have c0_7 := cell_of_row _ _ 7 _ _ _ hr4_0
    simp at c0_0 c0_1 c0_2 c0_3 c0_4 c0_5 c0_6 c0_7
    have HA := Lib.hid (heap_alloc_last y4 (.cells #[.int .i64 0, .int .i64 0, .slice none 0 0, .slice none 0 0, .slice none 0 0, .slice none 0 0, .slice none 0 0, .slice none 0 0] 39))
    have hHi := Lib.hid (show (Try.prog.info? 39).map (·.size) = some (#[.int .i64 W, .int .i64 H, .slice al4 nl cl4, .slice ad4 nd cd4, .slice an4 nn cn4, .slice ab4 nb cb4, .slice ax4 ns cx4, .slice af4 nf cf4] : Array Value).size by kernel_rfl)
    have hHz := Lib.hid (show (#[.int .i64 0, .int .i64 0, .slice none 0 0, .slice none 0 0, .slice none 0 0, .slice none 0 0, .slice none 0 0, .slice none 0 0] : Array Value).size = (#[.int .i64 W, .int .i64 H, .slice al4 nl cl4, .slice ad4 nd cd4, .slice an4 nn cn4, .slice ab4 nb cb4, .slice ax4 ns cx4, .slice af4 nf cf4] : Array Value).size from rfl)
    have hHo := Lib.hid (show (#[.int .i64 W, .int .i64 H, .slice al4 nl cl4, .slice ad4 nd cd4, .slice an4 nn cn4, .slice ab4 nb cb4, .slice ax4 ns cx4, .slice af4 nf cf4] : Array Value).all (·.oneCell') = true by simp [Value.oneCell'])
    go_upto_region 6 with (refine Au.wpList_store_row rfl 39 (.tmp 7) (.tmp 45) rfl (y4.alloc (.cells #[.int .i64 0, .int .i64 0, .slice none 0 0, .slice none 0 0, .slice none 0 0, .slice none 0 0, .slice none 0 0, .slice none 0 0] 39)) #[.int .i64 0, .int .i64 0, .slice none 0 0, .slice none 0 0, .slice none 0 0, .slice none 0 0, .slice none 0 0, .slice none 0 0] #[.int .i64 W, .int .i64 H, .slice al4 nl cl4, .slice ad4 nd cd4, .slice an4 nn cn4, .slice ab4 nb cb4, .slice ax4 ns cx4, .slice af4 nf cf4] (y4.heap.size) 39 HA.out rfl rfl hHi.out hHz.out hHo.out ?_)
    clear c0_0 c0_1 c0_2 c0_3 c0_4 c0_5 c0_6 c0_7
    clear hHi hHz hHo
    have hN := setRow_heap _ (y4.heap.size) _ #[.int .i64 W, .int .i64 H, .slice al4 nl cl4, .slice ad4 nd cd4, .slice an4 nn cn4, .slice ab4 nb cb4, .slice ax4 ns cx4, .slice af4 nf cf4] _ _ HA.out
    clear HA
    have hsz := HU4.out.size
    have hb := Ve.below_n1 y4 (.cells #[.int .i64 0, .int .i64 0, .slice none 0 0, .slice none 0 0, .slice none 0 0, .slice none 0 0, .slice none 0 0, .slice none 0 0] 39)
    have HUx := below_setRow (g := y4.heap.size) (HU4.out.trans (hb.mono HU4.out.size)) (by omega) #[.int .i64 W, .int .i64 H, .slice al4 nl cl4, .slice ad4 nd cd4, .slice an4 nn cn4, .slice ab4 nb cb4, .slice ax4 ns cx4, .slice af4 nf cf4]
    have hO : ∀ kk, kk < y4.heap.size → ((y4.alloc (.cells #[.int .i64 0, .int .i64 0, .slice none 0 0, .slice none 0 0, .slice none 0 0, .slice none 0 0, .slice none 0 0, .slice none 0 0] 39)).setRow (y4.heap.size) #[.int .i64 W, .int .i64 H, .slice al4 nl cl4, .slice ad4 nd cd4, .slice an4 nn cn4, .slice ab4 nb cb4, .slice ax4 ns cx4, .slice af4 nf cf4]).heap[kk]? = y4.heap[kk]? := fun kk hk => (setRow_other _ _ _ _ (by omega)).trans (hb.block _ hk)
    obtain ⟨y5, hy5⟩ : ∃ y, (y4.alloc (.cells #[.int .i64 0, .int .i64 0, .slice none 0 0, .slice none 0 0, .slice none 0 0, .slice none 0 0, .slice none 0 0, .slice none 0 0] 39)).setRow (y4.heap.size) #[.int .i64 W, .int .i64 H, .slice al4 nl cl4, .slice ad4 nd cd4, .slice an4 nn cn4, .slice ab4 nb cb4, .slice ax4 ns cx4, .slice af4 nf cf4] = y := ⟨_, rfl⟩
    have hs5 : y5.heap.size = y4.heap.size + 1 := by rw [← hy5]; simp [World.setRow]
    rw [hy5] at hN HUx hO ⊢
    clear hy5 hsz hb
    have HU5 := Lib.hid HUx
    clear HUx
    have hl5_0 := lt_heap hr4_0
    have hr5_0 := (hO _ hl5_0).trans hr4_0
    have hr5_1 := hN
    have hKK := hO
    clear hN hO
    clear hr4_0 HU4
    have HG5 := Lib.hid (show FAt y5 (⟨W, H, nl, nd, nn, nb, ns, nf, L, D, N, B, S, F⟩ : Flm) (⟨al4, cl4, ad4, cd4, an4, cn4, ab4, cb4, ax4, cx4, af4, cf4⟩ : Pl) from ⟨(HG4.out.l.low.keep (fun b hb => hKK b hb)).rw (by decide), (HG4.out.d.low.keep (fun b hb => hKK b hb)).rw (by decide), (HG4.out.n.low.keep (fun b hb => hKK b hb)).rw (by decide), (HG4.out.b.low.keep (fun b hb => hKK b hb)).rw (by decide), (HG4.out.s.low.keep (fun b hb => hKK b hb)).rw (by decide), (HG4.out.f.low.keep (fun b hb => hKK b hb)).rw (by decide)⟩)
    clear HG4
    clear hKK
    refine wp_region_held_drew (S := fun y => y.heap[w.heap.size]? = some (.cells #[.int .i64 W, .int .i64 H, .slice al nl cl, .slice ad nd cd, .slice an nn cn, .slice ab nb cb, .slice ax ns cx, .slice af nf cf] 29 (0, 0)) ∧ y.heap[y4.heap.size]? = some (.cells #[.int .i64 W, .int .i64 H, .slice al4 nl cl4, .slice ad4 nd cd4, .slice an4 nn cn4, .slice ab4 nb cb4, .slice ax4 ns cx4, .slice af4 nf cf4] 39 (0, 0))) (by kernel_rfl) (⟨hr5_0, hr5_1⟩) (fun hS0 => ?_)
    obtain ⟨z0, hz0_⟩ : ∃ y, y5.drew = y := ⟨_, rfl⟩
    have HV0 := Lib.hid (show Below w.heap.size w z0 by rw [← hz0_]; exact HU5.out.drew)
    have HG0 := Lib.hid (show FAt z0 (⟨W, H, nl, nd, nn, nb, ns, nf, L, D, N, B, S, F⟩ : Flm) (⟨al4, cl4, ad4, cd4, an4, cn4, ab4, cb4, ax4, cx4, af4, cf4⟩ : Pl) by rw [← hz0_]; exact HG5.out.on (Below.refl _ _).drew)
    rw [hz0_] at hS0 ⊢
    clear hz0_ HU5 HG5
    clear hr5_0 hr5_1
    refine wpAnyH_take (i := 0) (v := ?_) rfl (by kernel_rfl) (by kernel_rfl) (by kernel_rfl) (fun _ _ _ h => h) (Or.inl ⟨by kernel_rfl, by (intro wz hSz; go_simp; try with_reducible rfl)⟩) hS0 ?_
    go_simp
    refine wpAnyH_take (i := 1) (v := ?_) rfl (by kernel_rfl) (by kernel_rfl) (by kernel_rfl) (fun _ _ _ h => h) (Or.inl ⟨by kernel_rfl, by (intro wz hSz; go_simp; try with_reducible rfl)⟩) hS0 ?_
    go_simp
    refine wpAnyH_take (i := 2) (v := ?_) rfl (by kernel_rfl) (by kernel_rfl) (by kernel_rfl) (fun _ _ _ h => h) (Or.inl ⟨by kernel_rfl, by (intro wz hSz; go_simp; try with_reducible rfl)⟩) hS0 ?_
    go_simp
    refine wpAnyH_take (i := 3) (v := ?_) rfl (by kernel_rfl) (by kernel_rfl) (by kernel_rfl) (fun _ _ _ h => h) (Or.inl ⟨by kernel_rfl, by (intro wz hSz; have c0 := cell_of_row _ _ 0 _ _ _ (hSz.2); have c1 := cell_of_row _ _ 1 _ _ _ (hSz.2); have c2 := cell_of_row _ _ 2 _ _ _ (hSz.2); have c3 := cell_of_row _ _ 3 _ _ _ (hSz.2); have c4 := cell_of_row _ _ 4 _ _ _ (hSz.2); have c5 := cell_of_row _ _ 5 _ _ _ (hSz.2); have c6 := cell_of_row _ _ 6 _ _ _ (hSz.2); have c7 := cell_of_row _ _ 7 _ _ _ (hSz.2); simp at c0 c1 c2 c3 c4 c5 c6 c7; go_simp; try with_reducible rfl)⟩) hS0 ?_
    go_simp
    refine wpAnyH_take (i := 5) (v := ?_) rfl (by kernel_rfl) (by kernel_rfl) (by kernel_rfl) (fun _ _ _ h => h) (Or.inl ⟨by kernel_rfl, by (intro wz hSz; have c0 := cell_of_row _ _ 0 _ _ _ (hSz.1); have c1 := cell_of_row _ _ 1 _ _ _ (hSz.1); have c2 := cell_of_row _ _ 2 _ _ _ (hSz.1); have c3 := cell_of_row _ _ 3 _ _ _ (hSz.1); have c4 := cell_of_row _ _ 4 _ _ _ (hSz.1); have c5 := cell_of_row _ _ 5 _ _ _ (hSz.1); have c6 := cell_of_row _ _ 6 _ _ _ (hSz.1); have c7 := cell_of_row _ _ 7 _ _ _ (hSz.1); simp at c0 c1 c2 c3 c4 c5 c6 c7; go_simp; try with_reducible rfl)⟩) hS0 ?_
    go_simp
    refine wpAnyH_ready (rs := [4]) (by kernel_rfl) (by simp) ?_
    refine AllReadyH.cons rfl (fun K hK => ?_) AllReadyH.nil
    go_simp
    go_wp2_with (go_at_call 27; refine (from_film (⟨W, H, nl, nd, nn, nb, ns, nf, L, D, N, B, S, F⟩ : Flm) (⟨al4, cl4, ad4, cd4, an4, cn4, ab4, cb4, ax4, cx4, af4, cf4⟩ : Pl) _ HG0.out (by show nl * 24 ≤ 140737488351232; omega) (by show nd * 8 ≤ 140737488351232; omega) (by show nn * 24 ≤ 140737488351232; omega) (by show nb * 24 ≤ 140737488351232; omega) (by show ns * 8 ≤ 140737488351232; omega) (by show nf * 8 ≤ 140737488351232; omega)).mono ?_; rintro e z1 ⟨⟨⟨al7, cl7, ad7, cd7, an7, cn7, ab7, cb7, ax7, cx7, af7, cf7⟩, rfl, h5_⟩, hb1⟩)
    have HV1 := Lib.hid (HV0.out.trans (hb1.mono HV0.out.size))
    have HX1 := Lib.hid h5_
    clear h5_
    refine hK.out _ _ (⟨(hb1.block _ (lt_heap hS0.1)).trans hS0.1, (hb1.block _ (lt_heap hS0.2)).trans hS0.2⟩) (fun hS1 => ?_)
    clear hK K
    refine wpAnyH_ready (rs := [6]) (by kernel_rfl) (by simp) ?_
    refine AllReadyH.cons rfl (fun K hK => ?_) AllReadyH.nil
    go_simp
    go_wp2_with (go_at_call 26; refine (same_film (⟨W, H, nl, nd, nn, nb, ns, nf, L, D, N, B, S, F⟩ : Flm) (⟨al7, cl7, ad7, cd7, an7, cn7, ab7, cb7, ax7, cx7, af7, cf7⟩ : Pl) (⟨al, cl, ad, cd, an, cn, ab, cb, ax, cx, af, cf⟩ : Pl) _ HX1.out (HC.out.at_.on HV1.out) (by show nl ≤ 140737488351232; omega) (by show nd ≤ 140737488351232; omega) (by show nn ≤ 140737488351232; omega) (by show nb ≤ 140737488351232; omega) (by show ns ≤ 140737488351232; omega) (by show nf ≤ 140737488351232; omega)).mono ?_; rintro e z2 ⟨rfl, hb2⟩)
    have HV2 := Lib.hid (HV1.out.trans (hb2.mono HV1.out.size))
    refine hK.out _ _ (⟨(hb2.block _ (lt_heap hS1.1)).trans hS1.1, (hb2.block _ (lt_heap hS1.2)).trans hS1.2⟩) (fun hS2 => ?_)
    clear hK K
    refine wpAnyH_take (i := 7) (v := ?_) rfl (by kernel_rfl) (by kernel_rfl) (by kernel_rfl) (fun _ _ _ h => h) (Or.inl ⟨by kernel_rfl, by (intro wz hSz; go_simp; try with_reducible rfl)⟩) hS2 ?_
    go_simp
    refine wpAnyH_take (i := 8) (v := ?_) rfl (by kernel_rfl) (by kernel_rfl) (by kernel_rfl) (fun _ _ _ h => h) (Or.inl ⟨by kernel_rfl, by (intro wz hSz; go_simp; try with_reducible rfl)⟩) hS2 ?_
    go_simp
    refine wpAnyH_done (by kernel_rfl) ?_ _
    obtain ⟨y20, hy20⟩ : ∃ y : World, y = z2 := ⟨_, rfl⟩
    rw [← hy20] at hS2 HV2 ⊢
    clear hy20
    have HU20 := HV2
    obtain ⟨hr20_0, hr20_1⟩ := hS2
    have c0_0 := cell_of_row _ _ 0 _ _ _ hr20_0
    have c0_1 := cell_of_row _ _ 1 _ _ _ hr20_0
    have c0_2 := cell_of_row _ _ 2 _ _ _ hr20_0
    have c0_3 := cell_of_row _ _ 3 _ _ _ hr20_0
    have c0_4 := cell_of_row _ _ 4 _ _ _ hr20_0
    have c0_5 := cell_of_row _ _ 5 _ _ _ hr20_0
    have c0_6 := cell_of_row _ _ 6 _ _ _ hr20_0
    have c0_7 := cell_of_row _ _ 7 _ _ _ hr20_0
    simp at c0_0 c0_1 c0_2 c0_3 c0_4 c0_5 c0_6 c0_7
    go_wp2_with fail
    refine (HC5.out _ (HV.out.on HU20.out)).mono ?_
    rintro e y21 ⟨rfl, hb21⟩
    clear c0_0 c0_1 c0_2 c0_3 c0_4 c0_5 c0_6 c0_7
    have hr21_0 := (hb21.block _ (lt_heap hr20_0)).trans hr20_0
    have hr21_1 := (hb21.block _ (lt_heap hr20_1)).trans hr20_1
    have HU21 := Lib.hid (HU20.out.trans (hb21.mono HU20.out.size))
    clear hr20_0 hr20_1 HU20
    go_upto_region 9 with fail
    have hb22 := Ve.below_n1 y21 (.cells #[.int .i64 0, .int .i64 0, .slice none 0 0, .slice none 0 0, .slice none 0 0, .slice none 0 0, .slice none 0 0, .slice none 0 0] 39)
    have hN := heap_alloc_last y21 (.cells #[.int .i64 0, .int .i64 0, .slice none 0 0, .slice none 0 0, .slice none 0 0, .slice none 0 0, .slice none 0 0, .slice none 0 0] 39)
    obtain ⟨y22, hy22⟩ : ∃ y, y21.alloc (.cells #[.int .i64 0, .int .i64 0, .slice none 0 0, .slice none 0 0, .slice none 0 0, .slice none 0 0, .slice none 0 0, .slice none 0 0] 39) = y := ⟨_, rfl⟩
    have hs22 : y22.heap.size = y21.heap.size + 1 := by rw [← hy22]; simp
    rw [hy22] at hb22 hN ⊢
    clear hy22
    have hl22_0 := lt_heap hr21_0
    have hl22_1 := lt_heap hr21_1
    have hr22_0 := (hb22.block _ (lt_heap hr21_0)).trans hr21_0
    have hr22_1 := (hb22.block _ (lt_heap hr21_1)).trans hr21_1
    have HU22 := Lib.hid (HU21.out.trans (hb22.mono HU21.out.size))
    clear hr21_0 hr21_1 HU21
    have hr22_2 := hN
    clear hN
    have c0_0 := cell_of_row _ _ 0 _ _ _ hr22_0
    have c0_1 := cell_of_row _ _ 1 _ _ _ hr22_0
    have c0_2 := cell_of_row _ _ 2 _ _ _ hr22_0
    have c0_3 := cell_of_row _ _ 3 _ _ _ hr22_0
    have c0_4 := cell_of_row _ _ 4 _ _ _ hr22_0
    have c0_5 := cell_of_row _ _ 5 _ _ _ hr22_0
    have c0_6 := cell_of_row _ _ 6 _ _ _ hr22_0
    have c0_7 := cell_of_row _ _ 7 _ _ _ hr22_0
    simp at c0_0 c0_1 c0_2 c0_3 c0_4 c0_5 c0_6 c0_7
    go_wp2_with fail
    refine (HC6.out _ (HV.out.on HU22.out)).mono ?_
    rintro e y23 ⟨⟨a6, c6, rfl, hat⟩, hb23⟩
    clear c0_0 c0_1 c0_2 c0_3 c0_4 c0_5 c0_6 c0_7
    have hr23_0 := (hb23.block _ (lt_heap hr22_0)).trans hr22_0
    have hr23_1 := (hb23.block _ (lt_heap hr22_1)).trans hr22_1
    have hr23_2 := (hb23.block _ (lt_heap hr22_2)).trans hr22_2
    have HU23 := Lib.hid (HU22.out.trans (hb23.mono HU22.out.size))
    clear hr22_0 hr22_1 hr22_2 HU22
    have HH23 := Lib.hid (hat)
    clear hat
    have c0_0 := cell_of_row _ _ 0 _ _ _ hr23_0
    have c0_1 := cell_of_row _ _ 1 _ _ _ hr23_0
    have c0_2 := cell_of_row _ _ 2 _ _ _ hr23_0
    have c0_3 := cell_of_row _ _ 3 _ _ _ hr23_0
    have c0_4 := cell_of_row _ _ 4 _ _ _ hr23_0
    have c0_5 := cell_of_row _ _ 5 _ _ _ hr23_0
    have c0_6 := cell_of_row _ _ 6 _ _ _ hr23_0
    have c0_7 := cell_of_row _ _ 7 _ _ _ hr23_0
    have c1_0 := cell_of_row _ _ 0 _ _ _ hr23_1
    have c1_1 := cell_of_row _ _ 1 _ _ _ hr23_1
    have c1_2 := cell_of_row _ _ 2 _ _ _ hr23_1
    have c1_3 := cell_of_row _ _ 3 _ _ _ hr23_1
    have c1_4 := cell_of_row _ _ 4 _ _ _ hr23_1
    have c1_5 := cell_of_row _ _ 5 _ _ _ hr23_1
    have c1_6 := cell_of_row _ _ 6 _ _ _ hr23_1
    have c1_7 := cell_of_row _ _ 7 _ _ _ hr23_1
    have c2_0 := cell_of_row _ _ 0 _ _ _ hr23_2
    have c2_1 := cell_of_row _ _ 1 _ _ _ hr23_2
    have c2_2 := cell_of_row _ _ 2 _ _ _ hr23_2
    have c2_3 := cell_of_row _ _ 3 _ _ _ hr23_2
    have c2_4 := cell_of_row _ _ 4 _ _ _ hr23_2
    have c2_5 := cell_of_row _ _ 5 _ _ _ hr23_2
    have c2_6 := cell_of_row _ _ 6 _ _ _ hr23_2
    have c2_7 := cell_of_row _ _ 7 _ _ _ hr23_2
    simp at c0_0 c0_1 c0_2 c0_3 c0_4 c0_5 c0_6 c0_7 c1_0 c1_1 c1_2 c1_3 c1_4 c1_5 c1_6 c1_7 c2_0 c2_1 c2_2 c2_3 c2_4 c2_5 c2_6 c2_7
    have HA := Lib.hid (heap_alloc_last y23 (.cells #[.int .i64 0, .int .i64 0, .slice none 0 0] 35))
    have hHi := Lib.hid (show (Try.prog.info? 35).map (·.size) = some (#[.int .i64 W6, .int .i64 H6, .slice a6 n6 c6] : Array Value).size by kernel_rfl)
    have hHz := Lib.hid (show (#[.int .i64 0, .int .i64 0, .slice none 0 0] : Array Value).size = (#[.int .i64 W6, .int .i64 H6, .slice a6 n6 c6] : Array Value).size from rfl)
    have hHo := Lib.hid (show (#[.int .i64 W6, .int .i64 H6, .slice a6 n6 c6] : Array Value).all (·.oneCell') = true by simp [Value.oneCell'])
    go_upto_region 14 with (refine Au.wpList_store_row rfl 35 (.tmp 13) (.tmp 80) rfl (y23.alloc (.cells #[.int .i64 0, .int .i64 0, .slice none 0 0] 35)) #[.int .i64 0, .int .i64 0, .slice none 0 0] #[.int .i64 W6, .int .i64 H6, .slice a6 n6 c6] (y23.heap.size) 35 HA.out rfl rfl hHi.out hHz.out hHo.out ?_)
    clear c0_0 c0_1 c0_2 c0_3 c0_4 c0_5 c0_6 c0_7 c1_0 c1_1 c1_2 c1_3 c1_4 c1_5 c1_6 c1_7 c2_0 c2_1 c2_2 c2_3 c2_4 c2_5 c2_6 c2_7
    clear hHi hHz hHo
    have hN := setRow_heap _ (y23.heap.size) _ #[.int .i64 W6, .int .i64 H6, .slice a6 n6 c6] _ _ HA.out
    clear HA
    have hsz := HU23.out.size
    have hb := Ve.below_n1 y23 (.cells #[.int .i64 0, .int .i64 0, .slice none 0 0] 35)
    have HUx := below_setRow (g := y23.heap.size) (HU23.out.trans (hb.mono HU23.out.size)) (by omega) #[.int .i64 W6, .int .i64 H6, .slice a6 n6 c6]
    have hO : ∀ kk, kk < y23.heap.size → ((y23.alloc (.cells #[.int .i64 0, .int .i64 0, .slice none 0 0] 35)).setRow (y23.heap.size) #[.int .i64 W6, .int .i64 H6, .slice a6 n6 c6]).heap[kk]? = y23.heap[kk]? := fun kk hk => (setRow_other _ _ _ _ (by omega)).trans (hb.block _ hk)
    obtain ⟨y24, hy24⟩ : ∃ y, (y23.alloc (.cells #[.int .i64 0, .int .i64 0, .slice none 0 0] 35)).setRow (y23.heap.size) #[.int .i64 W6, .int .i64 H6, .slice a6 n6 c6] = y := ⟨_, rfl⟩
    have hs24 : y24.heap.size = y23.heap.size + 1 := by rw [← hy24]; simp [World.setRow]
    rw [hy24] at hN HUx hO ⊢
    clear hy24 hsz hb
    have HU24 := Lib.hid HUx
    clear HUx
    have hl24_0 := lt_heap hr23_0
    have hr24_0 := (hO _ hl24_0).trans hr23_0
    have hl24_1 := lt_heap hr23_1
    have hr24_1 := (hO _ hl24_1).trans hr23_1
    have hl24_2 := lt_heap hr23_2
    have hr24_2 := (hO _ hl24_2).trans hr23_2
    have hr24_3 := hN
    have hKK := hO
    clear hN hO
    clear hr23_0 hr23_1 hr23_2 HU23
    have HH24 := Lib.hid ((HH23.out.low.keep (fun b hb => hKK b hb)).rw (by decide))
    clear HH23
    clear hKK
    have c3_0 := cell_of_row _ _ 0 _ _ _ hr24_3
    have c3_1 := cell_of_row _ _ 1 _ _ _ hr24_3
    have c3_2 := cell_of_row _ _ 2 _ _ _ hr24_3
    simp at c3_0 c3_1 c3_2
    go_wp2_with fail
    refine (encsheet_ok W6 H6 a6 c6 n6 L6 _ HH24.out OK6.out).mono ?_
    rintro e y25 ⟨⟨ja, jn, jc, rfl, how⟩, hb25⟩
    clear c3_0 c3_1 c3_2
    have hr25_0 := (hb25.block _ (lt_heap hr24_0)).trans hr24_0
    have hr25_1 := (hb25.block _ (lt_heap hr24_1)).trans hr24_1
    have hr25_2 := (hb25.block _ (lt_heap hr24_2)).trans hr24_2
    have hr25_3 := (hb25.block _ (lt_heap hr24_3)).trans hr24_3
    have HU25 := Lib.hid (HU24.out.trans (hb25.mono HU24.out.size))
    clear hr24_0 hr24_1 hr24_2 hr24_3 HU24
    have HH25 := Lib.hid (HH24.out.on hb25)
    clear HH24
    have HQ25 := Lib.hid ((show Bs _ (.slice ja jn jc) l by rw [← LB6.out]; exact own_bs_n how))
    clear how
    clear HH25
    have hcv1 := conv_bs HQ25.out
    have hcv2 := conv_bs (HV.out.on HU25.out)
    have c0_0 := cell_of_row _ _ 0 _ _ _ hr25_0
    have c0_1 := cell_of_row _ _ 1 _ _ _ hr25_0
    have c0_2 := cell_of_row _ _ 2 _ _ _ hr25_0
    have c0_3 := cell_of_row _ _ 3 _ _ _ hr25_0
    have c0_4 := cell_of_row _ _ 4 _ _ _ hr25_0
    have c0_5 := cell_of_row _ _ 5 _ _ _ hr25_0
    have c0_6 := cell_of_row _ _ 6 _ _ _ hr25_0
    have c0_7 := cell_of_row _ _ 7 _ _ _ hr25_0
    simp at c0_0 c0_1 c0_2 c0_3 c0_4 c0_5 c0_6 c0_7
    go_wp2_with fail
    clear hcv1 hcv2
    clear HQ25
    refine (awake_any _).mono ?_
    rintro e y26 ⟨rfl, hb26⟩
    clear c0_0 c0_1 c0_2 c0_3 c0_4 c0_5 c0_6 c0_7
    have hr26_0 := (hb26.block _ (lt_heap hr25_0)).trans hr25_0
    have hr26_1 := (hb26.block _ (lt_heap hr25_1)).trans hr25_1
    have hr26_2 := (hb26.block _ (lt_heap hr25_2)).trans hr25_2
    have hr26_3 := (hb26.block _ (lt_heap hr25_3)).trans hr25_3
    have HU26 := Lib.hid (HU25.out.trans (hb26.mono HU25.out.size))
    clear hr25_0 hr25_1 hr25_2 hr25_3 HU25
    go_wp2
    go_ret
    exact ⟨rfl, HU26.out⟩

set_option maxHeartbeats 16000000 in
set_option maxRecDepth 100000 in
theorem case_6 (W H : Int) (al ad an ab ax af : Option Addr) (cl cd cn cb cx cf nl nd nn nb ns nf : Nat) (L D N B S F : Nat → Int) (ta : Option Addr) (tn tc : Nat) (l : List UInt8) (w : World) (hc : Came w (⟨W, H, nl, nd, nn, nb, ns, nf, L, D, N, B, S, F⟩ : Flm) (⟨al, cl, ad, cd, an, cn, ab, cb, ax, cx, af, cf⟩ : Pl)) (k1 : ¬ 5000 < nl) (k2 : ¬ 5000 < ns) (hv : Bs w (.slice ta tn tc) l) (e1 : okF (⟨W, H, nl, nd, nn, nb, ns, nf, L, D, N, B, S, F⟩ : Flm)) (C4 : ∀ (X : World) (ba : Option Addr) (bn bc : Nat), Bs X (.slice ba bn bc) (filmB (⟨W, H, nl, nd, nn, nb, ns, nf, L, D, N, B, S, F⟩ : Flm)) → SpanF (⟨W, H, nl, nd, nn, nb, ns, nf, L, D, N, B, S, F⟩ : Flm) → Calls Try.prog 22 #[.slice ba bn bc] X fun e' w' => (∃ p : Pl, e' = .returned (.tuple #[.agg (FC (⟨W, H, nl, nd, nn, nb, ns, nf, L, D, N, B, S, F⟩ : Flm) p), .int .i64 0]) ∧ FAt w' (⟨W, H, nl, nd, nn, nb, ns, nf, L, D, N, B, S, F⟩ : Flm) p) ∧ Below X.heap.size X w') (W5 H5 : Int) (nl5 nd5 nn5 nb5 ns5 nf5 : Nat) (L5 D5 N5 B5 S5 F5 : Nat → Int) (C5 : ∀ X : World, Bs X (.slice ta tn tc) l → Calls Try.prog 22 #[.slice ta tn tc] X fun e' w' => (∃ p : Pl, e' = .returned (.tuple #[.agg (FC (⟨W5, H5, nl5, nd5, nn5, nb5, ns5, nf5, L5, D5, N5, B5, S5, F5⟩ : Flm) p), .int .i64 0]) ∧ FAt w' (⟨W5, H5, nl5, nd5, nn5, nb5, ns5, nf5, L5, D5, N5, B5, S5, F5⟩ : Flm) p) ∧ Below X.heap.size X w') (ok5 : okF (⟨W5, H5, nl5, nd5, nn5, nb5, ns5, nf5, L5, D5, N5, B5, S5, F5⟩ : Flm)) (lb5 : filmB (⟨W5, H5, nl5, nd5, nn5, nb5, ns5, nf5, L5, D5, N5, B5, S5, F5⟩ : Flm) = l) (er6 : Int) (h6 : ¬ er6 = 0) (C6 : ∀ X : World, Bs X (.slice ta tn tc) l → Calls Try.prog 20 #[.slice ta tn tc] X fun e' w' => e' = .returned (.tuple #[.agg #[.int .i64 0, .int .i64 0, .slice none 0 0], .int .i64 er6]) ∧ Below X.heap.size X w') : Calls Try.prog 6 #[.agg #[.int .i64 W, .int .i64 H, .slice al nl cl, .slice ad nd cd, .slice an nn cn, .slice ab nb cb, .slice ax ns cx, .slice af nf cf], .slice ta tn tc] w fun e' w' => e' = .returned (.bool true) ∧ Below w.heap.size w w' := by
  have HC := Lib.hid hc
  clear hc
  have d1 := decide_eq_false (show ¬ (5000 : Int) < (nl : Int) by omega)
  have d2 := decide_eq_false (show ¬ (5000 : Int) < (ns : Int) by omega)
  have HV := Lib.hid hv
  have E1 := Lib.hid e1
  clear hv e1
  have HC4 := Lib.hid C4
  clear C4
  obtain ⟨v1, v2, v3, v4, v5, v6⟩ := (show nl ≤ 4096 ∧ nd ≤ 4096 ∧ nn ≤ 4096 ∧ nb ≤ 4096 ∧ ns ≤ 4096 ∧ nf ≤ 4096 from okF_small E1.out)
  have HC5 := Lib.hid C5
  have HC6 := Lib.hid C6
  clear C5 C6
  have OK5 := Lib.hid ok5
  have LB5 := Lib.hid lb5
  clear ok5 lb5
  have q61 : (er6 != 0) = true := by simpa using h6
  have q62 : (er6 == 0) = false := by simpa using h6
  have q63 : ¬ er6 = 0 := h6
  clear h6
  go_enter Try.func6, Try.ntmps6
  go_upto_region 1 with fail
  have hR := Au.rows1 w (.cells #[.int .i64 W, .int .i64 H, .slice al nl cl, .slice ad nd cd, .slice an nn cn, .slice ab nb cb, .slice ax ns cx, .slice af nf cf] 29)
  have HUx := Ve.below_n1 w (.cells #[.int .i64 W, .int .i64 H, .slice al nl cl, .slice ad nd cd, .slice an nn cn, .slice ab nb cb, .slice ax ns cx, .slice af nf cf] 29)
  obtain ⟨y0, hy0⟩ : ∃ y0, w.alloc (.cells #[.int .i64 W, .int .i64 H, .slice al nl cl, .slice ad nd cd, .slice an nn cn, .slice ab nb cb, .slice ax ns cx, .slice af nf cf] 29) = y0 := ⟨_, rfl⟩
  rw [hy0] at hR HUx ⊢
  clear hy0
  have HU0 := Lib.hid HUx
  clear HUx
  have hr0_0 := hR
  clear hR
  have c0_0 := cell_of_row _ _ 0 _ _ _ hr0_0
  have c0_1 := cell_of_row _ _ 1 _ _ _ hr0_0
  have c0_2 := cell_of_row _ _ 2 _ _ _ hr0_0
  have c0_3 := cell_of_row _ _ 3 _ _ _ hr0_0
  have c0_4 := cell_of_row _ _ 4 _ _ _ hr0_0
  have c0_5 := cell_of_row _ _ 5 _ _ _ hr0_0
  have c0_6 := cell_of_row _ _ 6 _ _ _ hr0_0
  have c0_7 := cell_of_row _ _ 7 _ _ _ hr0_0
  simp at c0_0 c0_1 c0_2 c0_3 c0_4 c0_5 c0_6 c0_7
  go_wp2_with fail
  refine (held_film (⟨W, H, nl, nd, nn, nb, ns, nf, L, D, N, B, S, F⟩ : Flm) (⟨al, cl, ad, cd, an, cn, ab, cb, ax, cx, af, cf⟩ : Pl) _ (HC.out.at_.on HU0.out) HC.out.bl HC.out.bd HC.out.bn HC.out.bb).mono ?_
  rintro e y1 ⟨t, rfl, hsp, hb1⟩
  clear c0_0 c0_1 c0_2 c0_3 c0_4 c0_5 c0_6 c0_7
  have hr1_0 := (hb1.block _ (lt_heap hr0_0)).trans hr0_0
  have HU1 := Lib.hid (HU0.out.trans (hb1.mono HU0.out.size))
  clear hr0_0 HU0
  have HSP := Lib.hid hsp
  clear hsp
  cases t
  case false =>
    have c0_0 := cell_of_row _ _ 0 _ _ _ hr1_0
    have c0_1 := cell_of_row _ _ 1 _ _ _ hr1_0
    have c0_2 := cell_of_row _ _ 2 _ _ _ hr1_0
    have c0_3 := cell_of_row _ _ 3 _ _ _ hr1_0
    have c0_4 := cell_of_row _ _ 4 _ _ _ hr1_0
    have c0_5 := cell_of_row _ _ 5 _ _ _ hr1_0
    have c0_6 := cell_of_row _ _ 6 _ _ _ hr1_0
    have c0_7 := cell_of_row _ _ 7 _ _ _ hr1_0
    simp at c0_0 c0_1 c0_2 c0_3 c0_4 c0_5 c0_6 c0_7
    go_wp2_with fail
    refine (awake_any _).mono ?_
    rintro e y2 ⟨rfl, hb2⟩
    clear c0_0 c0_1 c0_2 c0_3 c0_4 c0_5 c0_6 c0_7
    have hr2_0 := (hb2.block _ (lt_heap hr1_0)).trans hr1_0
    have HU2 := Lib.hid (HU1.out.trans (hb2.mono HU1.out.size))
    clear hr1_0 HU1
    go_wp2
    go_ret
    exact ⟨rfl, HU2.out⟩
  case true =>
    have HS := Lib.hid (HSP.out rfl)
    clear HSP
    have c0_0 := cell_of_row _ _ 0 _ _ _ hr1_0
    have c0_1 := cell_of_row _ _ 1 _ _ _ hr1_0
    have c0_2 := cell_of_row _ _ 2 _ _ _ hr1_0
    have c0_3 := cell_of_row _ _ 3 _ _ _ hr1_0
    have c0_4 := cell_of_row _ _ 4 _ _ _ hr1_0
    have c0_5 := cell_of_row _ _ 5 _ _ _ hr1_0
    have c0_6 := cell_of_row _ _ 6 _ _ _ hr1_0
    have c0_7 := cell_of_row _ _ 7 _ _ _ hr1_0
    simp at c0_0 c0_1 c0_2 c0_3 c0_4 c0_5 c0_6 c0_7
    go_wp2_with fail
    refine (to_film (⟨W, H, nl, nd, nn, nb, ns, nf, L, D, N, B, S, F⟩ : Flm) (⟨al, cl, ad, cd, an, cn, ab, cb, ax, cx, af, cf⟩ : Pl) _ (HC.out.at_.on HU1.out) HC.out.bl HC.out.bd HC.out.bn HC.out.bb HC.out.bs HC.out.bf HC.out.ks HC.out.kf).mono ?_
    rintro e y2 ⟨⟨⟨al2, cl2, ad2, cd2, an2, cn2, ab2, cb2, ax2, cx2, af2, cf2⟩, rfl, hat⟩, hb2⟩
    clear c0_0 c0_1 c0_2 c0_3 c0_4 c0_5 c0_6 c0_7
    have hr2_0 := (hb2.block _ (lt_heap hr1_0)).trans hr1_0
    have HU2 := Lib.hid (HU1.out.trans (hb2.mono HU1.out.size))
    clear hr1_0 HU1
    have HAT2 := Lib.hid (hat)
    clear hat
    go_wp2_with fail
    refine (encfilm_bs (⟨W, H, nl, nd, nn, nb, ns, nf, L, D, N, B, S, F⟩ : Flm) (⟨al2, cl2, ad2, cd2, an2, cn2, ab2, cb2, ax2, cx2, af2, cf2⟩ : Pl) _ HAT2.out E1.out).mono ?_
    rintro e y3 ⟨⟨fa, fn, fc, rfl, how⟩, hb3⟩
    have hr3_0 := (hb3.block _ (lt_heap hr2_0)).trans hr2_0
    have HU3 := Lib.hid (HU2.out.trans (hb3.mono HU2.out.size))
    clear hr2_0 HU2
    have HAT3 := Lib.hid (HAT2.out.on hb3)
    clear HAT2
    have HB3 := Lib.hid (how)
    clear how
    clear HAT3
    have c0_0 := cell_of_row _ _ 0 _ _ _ hr3_0
    have c0_1 := cell_of_row _ _ 1 _ _ _ hr3_0
    have c0_2 := cell_of_row _ _ 2 _ _ _ hr3_0
    have c0_3 := cell_of_row _ _ 3 _ _ _ hr3_0
    have c0_4 := cell_of_row _ _ 4 _ _ _ hr3_0
    have c0_5 := cell_of_row _ _ 5 _ _ _ hr3_0
    have c0_6 := cell_of_row _ _ 6 _ _ _ hr3_0
    have c0_7 := cell_of_row _ _ 7 _ _ _ hr3_0
    simp at c0_0 c0_1 c0_2 c0_3 c0_4 c0_5 c0_6 c0_7
    go_wp2_with fail
    refine (HC4.out _ _ _ _ HB3.out HS.out).mono ?_
    rintro e y4 ⟨⟨⟨al4, cl4, ad4, cd4, an4, cn4, ab4, cb4, ax4, cx4, af4, cf4⟩, rfl, hat⟩, hb4⟩
    clear c0_0 c0_1 c0_2 c0_3 c0_4 c0_5 c0_6 c0_7
    have hr4_0 := (hb4.block _ (lt_heap hr3_0)).trans hr3_0
    have HU4 := Lib.hid (HU3.out.trans (hb4.mono HU3.out.size))
    clear hr3_0 HU3
    have HG4 := Lib.hid hat
    clear hat HB3
    have c0_0 := cell_of_row _ _ 0 _ _ _ hr4_0
    have c0_1 := cell_of_row _ _ 1 _ _ _ hr4_0
    have c0_2 := cell_of_row _ _ 2 _ _ _ hr4_0
    have c0_3 := cell_of_row _ _ 3 _ _ _ hr4_0
    have c0_4 := cell_of_row _ _ 4 _ _ _ hr4_0
    have c0_5 := cell_of_row _ _ 5 _ _ _ hr4_0
    have c0_6 := cell_of_row _ _ 6 _ _ _ hr4_0
    have c0_7 := cell_of_row _ _ 7 _ _ _ hr4_0
    simp at c0_0 c0_1 c0_2 c0_3 c0_4 c0_5 c0_6 c0_7
    have HA := Lib.hid (heap_alloc_last y4 (.cells #[.int .i64 0, .int .i64 0, .slice none 0 0, .slice none 0 0, .slice none 0 0, .slice none 0 0, .slice none 0 0, .slice none 0 0] 39))
    have hHi := Lib.hid (show (Try.prog.info? 39).map (·.size) = some (#[.int .i64 W, .int .i64 H, .slice al4 nl cl4, .slice ad4 nd cd4, .slice an4 nn cn4, .slice ab4 nb cb4, .slice ax4 ns cx4, .slice af4 nf cf4] : Array Value).size by kernel_rfl)
    have hHz := Lib.hid (show (#[.int .i64 0, .int .i64 0, .slice none 0 0, .slice none 0 0, .slice none 0 0, .slice none 0 0, .slice none 0 0, .slice none 0 0] : Array Value).size = (#[.int .i64 W, .int .i64 H, .slice al4 nl cl4, .slice ad4 nd cd4, .slice an4 nn cn4, .slice ab4 nb cb4, .slice ax4 ns cx4, .slice af4 nf cf4] : Array Value).size from rfl)
    have hHo := Lib.hid (show (#[.int .i64 W, .int .i64 H, .slice al4 nl cl4, .slice ad4 nd cd4, .slice an4 nn cn4, .slice ab4 nb cb4, .slice ax4 ns cx4, .slice af4 nf cf4] : Array Value).all (·.oneCell') = true by simp [Value.oneCell'])
    go_upto_region 6 with (refine Au.wpList_store_row rfl 39 (.tmp 7) (.tmp 45) rfl (y4.alloc (.cells #[.int .i64 0, .int .i64 0, .slice none 0 0, .slice none 0 0, .slice none 0 0, .slice none 0 0, .slice none 0 0, .slice none 0 0] 39)) #[.int .i64 0, .int .i64 0, .slice none 0 0, .slice none 0 0, .slice none 0 0, .slice none 0 0, .slice none 0 0, .slice none 0 0] #[.int .i64 W, .int .i64 H, .slice al4 nl cl4, .slice ad4 nd cd4, .slice an4 nn cn4, .slice ab4 nb cb4, .slice ax4 ns cx4, .slice af4 nf cf4] (y4.heap.size) 39 HA.out rfl rfl hHi.out hHz.out hHo.out ?_)
    clear c0_0 c0_1 c0_2 c0_3 c0_4 c0_5 c0_6 c0_7
    clear hHi hHz hHo
    have hN := setRow_heap _ (y4.heap.size) _ #[.int .i64 W, .int .i64 H, .slice al4 nl cl4, .slice ad4 nd cd4, .slice an4 nn cn4, .slice ab4 nb cb4, .slice ax4 ns cx4, .slice af4 nf cf4] _ _ HA.out
    clear HA
    have hsz := HU4.out.size
    have hb := Ve.below_n1 y4 (.cells #[.int .i64 0, .int .i64 0, .slice none 0 0, .slice none 0 0, .slice none 0 0, .slice none 0 0, .slice none 0 0, .slice none 0 0] 39)
    have HUx := below_setRow (g := y4.heap.size) (HU4.out.trans (hb.mono HU4.out.size)) (by omega) #[.int .i64 W, .int .i64 H, .slice al4 nl cl4, .slice ad4 nd cd4, .slice an4 nn cn4, .slice ab4 nb cb4, .slice ax4 ns cx4, .slice af4 nf cf4]
    have hO : ∀ kk, kk < y4.heap.size → ((y4.alloc (.cells #[.int .i64 0, .int .i64 0, .slice none 0 0, .slice none 0 0, .slice none 0 0, .slice none 0 0, .slice none 0 0, .slice none 0 0] 39)).setRow (y4.heap.size) #[.int .i64 W, .int .i64 H, .slice al4 nl cl4, .slice ad4 nd cd4, .slice an4 nn cn4, .slice ab4 nb cb4, .slice ax4 ns cx4, .slice af4 nf cf4]).heap[kk]? = y4.heap[kk]? := fun kk hk => (setRow_other _ _ _ _ (by omega)).trans (hb.block _ hk)
    obtain ⟨y5, hy5⟩ : ∃ y, (y4.alloc (.cells #[.int .i64 0, .int .i64 0, .slice none 0 0, .slice none 0 0, .slice none 0 0, .slice none 0 0, .slice none 0 0, .slice none 0 0] 39)).setRow (y4.heap.size) #[.int .i64 W, .int .i64 H, .slice al4 nl cl4, .slice ad4 nd cd4, .slice an4 nn cn4, .slice ab4 nb cb4, .slice ax4 ns cx4, .slice af4 nf cf4] = y := ⟨_, rfl⟩
    have hs5 : y5.heap.size = y4.heap.size + 1 := by rw [← hy5]; simp [World.setRow]
    rw [hy5] at hN HUx hO ⊢
    clear hy5 hsz hb
    have HU5 := Lib.hid HUx
    clear HUx
    have hl5_0 := lt_heap hr4_0
    have hr5_0 := (hO _ hl5_0).trans hr4_0
    have hr5_1 := hN
    have hKK := hO
    clear hN hO
    clear hr4_0 HU4
    have HG5 := Lib.hid (show FAt y5 (⟨W, H, nl, nd, nn, nb, ns, nf, L, D, N, B, S, F⟩ : Flm) (⟨al4, cl4, ad4, cd4, an4, cn4, ab4, cb4, ax4, cx4, af4, cf4⟩ : Pl) from ⟨(HG4.out.l.low.keep (fun b hb => hKK b hb)).rw (by decide), (HG4.out.d.low.keep (fun b hb => hKK b hb)).rw (by decide), (HG4.out.n.low.keep (fun b hb => hKK b hb)).rw (by decide), (HG4.out.b.low.keep (fun b hb => hKK b hb)).rw (by decide), (HG4.out.s.low.keep (fun b hb => hKK b hb)).rw (by decide), (HG4.out.f.low.keep (fun b hb => hKK b hb)).rw (by decide)⟩)
    clear HG4
    clear hKK
    refine wp_region_held_drew (S := fun y => y.heap[w.heap.size]? = some (.cells #[.int .i64 W, .int .i64 H, .slice al nl cl, .slice ad nd cd, .slice an nn cn, .slice ab nb cb, .slice ax ns cx, .slice af nf cf] 29 (0, 0)) ∧ y.heap[y4.heap.size]? = some (.cells #[.int .i64 W, .int .i64 H, .slice al4 nl cl4, .slice ad4 nd cd4, .slice an4 nn cn4, .slice ab4 nb cb4, .slice ax4 ns cx4, .slice af4 nf cf4] 39 (0, 0))) (by kernel_rfl) (⟨hr5_0, hr5_1⟩) (fun hS0 => ?_)
    obtain ⟨z0, hz0_⟩ : ∃ y, y5.drew = y := ⟨_, rfl⟩
    have HV0 := Lib.hid (show Below w.heap.size w z0 by rw [← hz0_]; exact HU5.out.drew)
    have HG0 := Lib.hid (show FAt z0 (⟨W, H, nl, nd, nn, nb, ns, nf, L, D, N, B, S, F⟩ : Flm) (⟨al4, cl4, ad4, cd4, an4, cn4, ab4, cb4, ax4, cx4, af4, cf4⟩ : Pl) by rw [← hz0_]; exact HG5.out.on (Below.refl _ _).drew)
    rw [hz0_] at hS0 ⊢
    clear hz0_ HU5 HG5
    clear hr5_0 hr5_1
    refine wpAnyH_take (i := 0) (v := ?_) rfl (by kernel_rfl) (by kernel_rfl) (by kernel_rfl) (fun _ _ _ h => h) (Or.inl ⟨by kernel_rfl, by (intro wz hSz; go_simp; try with_reducible rfl)⟩) hS0 ?_
    go_simp
    refine wpAnyH_take (i := 1) (v := ?_) rfl (by kernel_rfl) (by kernel_rfl) (by kernel_rfl) (fun _ _ _ h => h) (Or.inl ⟨by kernel_rfl, by (intro wz hSz; go_simp; try with_reducible rfl)⟩) hS0 ?_
    go_simp
    refine wpAnyH_take (i := 2) (v := ?_) rfl (by kernel_rfl) (by kernel_rfl) (by kernel_rfl) (fun _ _ _ h => h) (Or.inl ⟨by kernel_rfl, by (intro wz hSz; go_simp; try with_reducible rfl)⟩) hS0 ?_
    go_simp
    refine wpAnyH_take (i := 3) (v := ?_) rfl (by kernel_rfl) (by kernel_rfl) (by kernel_rfl) (fun _ _ _ h => h) (Or.inl ⟨by kernel_rfl, by (intro wz hSz; have c0 := cell_of_row _ _ 0 _ _ _ (hSz.2); have c1 := cell_of_row _ _ 1 _ _ _ (hSz.2); have c2 := cell_of_row _ _ 2 _ _ _ (hSz.2); have c3 := cell_of_row _ _ 3 _ _ _ (hSz.2); have c4 := cell_of_row _ _ 4 _ _ _ (hSz.2); have c5 := cell_of_row _ _ 5 _ _ _ (hSz.2); have c6 := cell_of_row _ _ 6 _ _ _ (hSz.2); have c7 := cell_of_row _ _ 7 _ _ _ (hSz.2); simp at c0 c1 c2 c3 c4 c5 c6 c7; go_simp; try with_reducible rfl)⟩) hS0 ?_
    go_simp
    refine wpAnyH_take (i := 5) (v := ?_) rfl (by kernel_rfl) (by kernel_rfl) (by kernel_rfl) (fun _ _ _ h => h) (Or.inl ⟨by kernel_rfl, by (intro wz hSz; have c0 := cell_of_row _ _ 0 _ _ _ (hSz.1); have c1 := cell_of_row _ _ 1 _ _ _ (hSz.1); have c2 := cell_of_row _ _ 2 _ _ _ (hSz.1); have c3 := cell_of_row _ _ 3 _ _ _ (hSz.1); have c4 := cell_of_row _ _ 4 _ _ _ (hSz.1); have c5 := cell_of_row _ _ 5 _ _ _ (hSz.1); have c6 := cell_of_row _ _ 6 _ _ _ (hSz.1); have c7 := cell_of_row _ _ 7 _ _ _ (hSz.1); simp at c0 c1 c2 c3 c4 c5 c6 c7; go_simp; try with_reducible rfl)⟩) hS0 ?_
    go_simp
    refine wpAnyH_ready (rs := [4]) (by kernel_rfl) (by simp) ?_
    refine AllReadyH.cons rfl (fun K hK => ?_) AllReadyH.nil
    go_simp
    go_wp2_with (go_at_call 27; refine (from_film (⟨W, H, nl, nd, nn, nb, ns, nf, L, D, N, B, S, F⟩ : Flm) (⟨al4, cl4, ad4, cd4, an4, cn4, ab4, cb4, ax4, cx4, af4, cf4⟩ : Pl) _ HG0.out (by show nl * 24 ≤ 140737488351232; omega) (by show nd * 8 ≤ 140737488351232; omega) (by show nn * 24 ≤ 140737488351232; omega) (by show nb * 24 ≤ 140737488351232; omega) (by show ns * 8 ≤ 140737488351232; omega) (by show nf * 8 ≤ 140737488351232; omega)).mono ?_; rintro e z1 ⟨⟨⟨al7, cl7, ad7, cd7, an7, cn7, ab7, cb7, ax7, cx7, af7, cf7⟩, rfl, h5_⟩, hb1⟩)
    have HV1 := Lib.hid (HV0.out.trans (hb1.mono HV0.out.size))
    have HX1 := Lib.hid h5_
    clear h5_
    refine hK.out _ _ (⟨(hb1.block _ (lt_heap hS0.1)).trans hS0.1, (hb1.block _ (lt_heap hS0.2)).trans hS0.2⟩) (fun hS1 => ?_)
    clear hK K
    refine wpAnyH_ready (rs := [6]) (by kernel_rfl) (by simp) ?_
    refine AllReadyH.cons rfl (fun K hK => ?_) AllReadyH.nil
    go_simp
    go_wp2_with (go_at_call 26; refine (same_film (⟨W, H, nl, nd, nn, nb, ns, nf, L, D, N, B, S, F⟩ : Flm) (⟨al7, cl7, ad7, cd7, an7, cn7, ab7, cb7, ax7, cx7, af7, cf7⟩ : Pl) (⟨al, cl, ad, cd, an, cn, ab, cb, ax, cx, af, cf⟩ : Pl) _ HX1.out (HC.out.at_.on HV1.out) (by show nl ≤ 140737488351232; omega) (by show nd ≤ 140737488351232; omega) (by show nn ≤ 140737488351232; omega) (by show nb ≤ 140737488351232; omega) (by show ns ≤ 140737488351232; omega) (by show nf ≤ 140737488351232; omega)).mono ?_; rintro e z2 ⟨rfl, hb2⟩)
    have HV2 := Lib.hid (HV1.out.trans (hb2.mono HV1.out.size))
    refine hK.out _ _ (⟨(hb2.block _ (lt_heap hS1.1)).trans hS1.1, (hb2.block _ (lt_heap hS1.2)).trans hS1.2⟩) (fun hS2 => ?_)
    clear hK K
    refine wpAnyH_take (i := 7) (v := ?_) rfl (by kernel_rfl) (by kernel_rfl) (by kernel_rfl) (fun _ _ _ h => h) (Or.inl ⟨by kernel_rfl, by (intro wz hSz; go_simp; try with_reducible rfl)⟩) hS2 ?_
    go_simp
    refine wpAnyH_take (i := 8) (v := ?_) rfl (by kernel_rfl) (by kernel_rfl) (by kernel_rfl) (fun _ _ _ h => h) (Or.inl ⟨by kernel_rfl, by (intro wz hSz; go_simp; try with_reducible rfl)⟩) hS2 ?_
    go_simp
    refine wpAnyH_done (by kernel_rfl) ?_ _
    obtain ⟨y20, hy20⟩ : ∃ y : World, y = z2 := ⟨_, rfl⟩
    rw [← hy20] at hS2 HV2 ⊢
    clear hy20
    have HU20 := HV2
    obtain ⟨hr20_0, hr20_1⟩ := hS2
    have c0_0 := cell_of_row _ _ 0 _ _ _ hr20_0
    have c0_1 := cell_of_row _ _ 1 _ _ _ hr20_0
    have c0_2 := cell_of_row _ _ 2 _ _ _ hr20_0
    have c0_3 := cell_of_row _ _ 3 _ _ _ hr20_0
    have c0_4 := cell_of_row _ _ 4 _ _ _ hr20_0
    have c0_5 := cell_of_row _ _ 5 _ _ _ hr20_0
    have c0_6 := cell_of_row _ _ 6 _ _ _ hr20_0
    have c0_7 := cell_of_row _ _ 7 _ _ _ hr20_0
    simp at c0_0 c0_1 c0_2 c0_3 c0_4 c0_5 c0_6 c0_7
    go_wp2_with fail
    refine (HC5.out _ (HV.out.on HU20.out)).mono ?_
    rintro e y21 ⟨⟨⟨al5, cl5, ad5, cd5, an5, cn5, ab5, cb5, ax5, cx5, af5, cf5⟩, rfl, hat⟩, hb21⟩
    clear c0_0 c0_1 c0_2 c0_3 c0_4 c0_5 c0_6 c0_7
    have hr21_0 := (hb21.block _ (lt_heap hr20_0)).trans hr20_0
    have hr21_1 := (hb21.block _ (lt_heap hr20_1)).trans hr20_1
    have HU21 := Lib.hid (HU20.out.trans (hb21.mono HU20.out.size))
    clear hr20_0 hr20_1 HU20
    have HH21 := Lib.hid (hat)
    clear hat
    have c0_0 := cell_of_row _ _ 0 _ _ _ hr21_0
    have c0_1 := cell_of_row _ _ 1 _ _ _ hr21_0
    have c0_2 := cell_of_row _ _ 2 _ _ _ hr21_0
    have c0_3 := cell_of_row _ _ 3 _ _ _ hr21_0
    have c0_4 := cell_of_row _ _ 4 _ _ _ hr21_0
    have c0_5 := cell_of_row _ _ 5 _ _ _ hr21_0
    have c0_6 := cell_of_row _ _ 6 _ _ _ hr21_0
    have c0_7 := cell_of_row _ _ 7 _ _ _ hr21_0
    have c1_0 := cell_of_row _ _ 0 _ _ _ hr21_1
    have c1_1 := cell_of_row _ _ 1 _ _ _ hr21_1
    have c1_2 := cell_of_row _ _ 2 _ _ _ hr21_1
    have c1_3 := cell_of_row _ _ 3 _ _ _ hr21_1
    have c1_4 := cell_of_row _ _ 4 _ _ _ hr21_1
    have c1_5 := cell_of_row _ _ 5 _ _ _ hr21_1
    have c1_6 := cell_of_row _ _ 6 _ _ _ hr21_1
    have c1_7 := cell_of_row _ _ 7 _ _ _ hr21_1
    simp at c0_0 c0_1 c0_2 c0_3 c0_4 c0_5 c0_6 c0_7 c1_0 c1_1 c1_2 c1_3 c1_4 c1_5 c1_6 c1_7
    have HA := Lib.hid (heap_alloc_last y21 (.cells #[.int .i64 0, .int .i64 0, .slice none 0 0, .slice none 0 0, .slice none 0 0, .slice none 0 0, .slice none 0 0, .slice none 0 0] 39))
    have hHi := Lib.hid (show (Try.prog.info? 39).map (·.size) = some (#[.int .i64 W5, .int .i64 H5, .slice al5 nl5 cl5, .slice ad5 nd5 cd5, .slice an5 nn5 cn5, .slice ab5 nb5 cb5, .slice ax5 ns5 cx5, .slice af5 nf5 cf5] : Array Value).size by kernel_rfl)
    have hHz := Lib.hid (show (#[.int .i64 0, .int .i64 0, .slice none 0 0, .slice none 0 0, .slice none 0 0, .slice none 0 0, .slice none 0 0, .slice none 0 0] : Array Value).size = (#[.int .i64 W5, .int .i64 H5, .slice al5 nl5 cl5, .slice ad5 nd5 cd5, .slice an5 nn5 cn5, .slice ab5 nb5 cb5, .slice ax5 ns5 cx5, .slice af5 nf5 cf5] : Array Value).size from rfl)
    have hHo := Lib.hid (show (#[.int .i64 W5, .int .i64 H5, .slice al5 nl5 cl5, .slice ad5 nd5 cd5, .slice an5 nn5 cn5, .slice ab5 nb5 cb5, .slice ax5 ns5 cx5, .slice af5 nf5 cf5] : Array Value).all (·.oneCell') = true by simp [Value.oneCell'])
    go_upto_region 9 with (refine Au.wpList_store_row rfl 39 (.tmp 9) (.tmp 59) rfl (y21.alloc (.cells #[.int .i64 0, .int .i64 0, .slice none 0 0, .slice none 0 0, .slice none 0 0, .slice none 0 0, .slice none 0 0, .slice none 0 0] 39)) #[.int .i64 0, .int .i64 0, .slice none 0 0, .slice none 0 0, .slice none 0 0, .slice none 0 0, .slice none 0 0, .slice none 0 0] #[.int .i64 W5, .int .i64 H5, .slice al5 nl5 cl5, .slice ad5 nd5 cd5, .slice an5 nn5 cn5, .slice ab5 nb5 cb5, .slice ax5 ns5 cx5, .slice af5 nf5 cf5] (y21.heap.size) 39 HA.out rfl rfl hHi.out hHz.out hHo.out ?_)
    clear c0_0 c0_1 c0_2 c0_3 c0_4 c0_5 c0_6 c0_7 c1_0 c1_1 c1_2 c1_3 c1_4 c1_5 c1_6 c1_7
    clear hHi hHz hHo
    have hN := setRow_heap _ (y21.heap.size) _ #[.int .i64 W5, .int .i64 H5, .slice al5 nl5 cl5, .slice ad5 nd5 cd5, .slice an5 nn5 cn5, .slice ab5 nb5 cb5, .slice ax5 ns5 cx5, .slice af5 nf5 cf5] _ _ HA.out
    clear HA
    have hsz := HU21.out.size
    have hb := Ve.below_n1 y21 (.cells #[.int .i64 0, .int .i64 0, .slice none 0 0, .slice none 0 0, .slice none 0 0, .slice none 0 0, .slice none 0 0, .slice none 0 0] 39)
    have HUx := below_setRow (g := y21.heap.size) (HU21.out.trans (hb.mono HU21.out.size)) (by omega) #[.int .i64 W5, .int .i64 H5, .slice al5 nl5 cl5, .slice ad5 nd5 cd5, .slice an5 nn5 cn5, .slice ab5 nb5 cb5, .slice ax5 ns5 cx5, .slice af5 nf5 cf5]
    have hO : ∀ kk, kk < y21.heap.size → ((y21.alloc (.cells #[.int .i64 0, .int .i64 0, .slice none 0 0, .slice none 0 0, .slice none 0 0, .slice none 0 0, .slice none 0 0, .slice none 0 0] 39)).setRow (y21.heap.size) #[.int .i64 W5, .int .i64 H5, .slice al5 nl5 cl5, .slice ad5 nd5 cd5, .slice an5 nn5 cn5, .slice ab5 nb5 cb5, .slice ax5 ns5 cx5, .slice af5 nf5 cf5]).heap[kk]? = y21.heap[kk]? := fun kk hk => (setRow_other _ _ _ _ (by omega)).trans (hb.block _ hk)
    obtain ⟨y22, hy22⟩ : ∃ y, (y21.alloc (.cells #[.int .i64 0, .int .i64 0, .slice none 0 0, .slice none 0 0, .slice none 0 0, .slice none 0 0, .slice none 0 0, .slice none 0 0] 39)).setRow (y21.heap.size) #[.int .i64 W5, .int .i64 H5, .slice al5 nl5 cl5, .slice ad5 nd5 cd5, .slice an5 nn5 cn5, .slice ab5 nb5 cb5, .slice ax5 ns5 cx5, .slice af5 nf5 cf5] = y := ⟨_, rfl⟩
    have hs22 : y22.heap.size = y21.heap.size + 1 := by rw [← hy22]; simp [World.setRow]
    rw [hy22] at hN HUx hO ⊢
    clear hy22 hsz hb
    have HU22 := Lib.hid HUx
    clear HUx
    have hl22_0 := lt_heap hr21_0
    have hr22_0 := (hO _ hl22_0).trans hr21_0
    have hl22_1 := lt_heap hr21_1
    have hr22_1 := (hO _ hl22_1).trans hr21_1
    have hr22_2 := hN
    have hKK := hO
    clear hN hO
    clear hr21_0 hr21_1 HU21
    have HH22 := Lib.hid (show FAt y22 (⟨W5, H5, nl5, nd5, nn5, nb5, ns5, nf5, L5, D5, N5, B5, S5, F5⟩ : Flm) (⟨al5, cl5, ad5, cd5, an5, cn5, ab5, cb5, ax5, cx5, af5, cf5⟩ : Pl) from ⟨(HH21.out.l.low.keep (fun b hb => hKK b hb)).rw (by decide), (HH21.out.d.low.keep (fun b hb => hKK b hb)).rw (by decide), (HH21.out.n.low.keep (fun b hb => hKK b hb)).rw (by decide), (HH21.out.b.low.keep (fun b hb => hKK b hb)).rw (by decide), (HH21.out.s.low.keep (fun b hb => hKK b hb)).rw (by decide), (HH21.out.f.low.keep (fun b hb => hKK b hb)).rw (by decide)⟩)
    clear HH21
    clear hKK
    have c2_0 := cell_of_row _ _ 0 _ _ _ hr22_2
    have c2_1 := cell_of_row _ _ 1 _ _ _ hr22_2
    have c2_2 := cell_of_row _ _ 2 _ _ _ hr22_2
    have c2_3 := cell_of_row _ _ 3 _ _ _ hr22_2
    have c2_4 := cell_of_row _ _ 4 _ _ _ hr22_2
    have c2_5 := cell_of_row _ _ 5 _ _ _ hr22_2
    have c2_6 := cell_of_row _ _ 6 _ _ _ hr22_2
    have c2_7 := cell_of_row _ _ 7 _ _ _ hr22_2
    simp at c2_0 c2_1 c2_2 c2_3 c2_4 c2_5 c2_6 c2_7
    go_wp2_with fail
    refine (encfilm_bs (⟨W5, H5, nl5, nd5, nn5, nb5, ns5, nf5, L5, D5, N5, B5, S5, F5⟩ : Flm) (⟨al5, cl5, ad5, cd5, an5, cn5, ab5, cb5, ax5, cx5, af5, cf5⟩ : Pl) _ HH22.out OK5.out).mono ?_
    rintro e y23 ⟨⟨ga, gn, gc, rfl, how⟩, hb23⟩
    clear c2_0 c2_1 c2_2 c2_3 c2_4 c2_5 c2_6 c2_7
    have hr23_0 := (hb23.block _ (lt_heap hr22_0)).trans hr22_0
    have hr23_1 := (hb23.block _ (lt_heap hr22_1)).trans hr22_1
    have hr23_2 := (hb23.block _ (lt_heap hr22_2)).trans hr22_2
    have HU23 := Lib.hid (HU22.out.trans (hb23.mono HU22.out.size))
    clear hr22_0 hr22_1 hr22_2 HU22
    have HH23 := Lib.hid (HH22.out.on hb23)
    clear HH22
    have HQ23 := Lib.hid ((show Bs _ (.slice ga gn gc) l by rw [← LB5.out]; exact how))
    clear how
    clear HH23
    have hcv1 := conv_bs HQ23.out
    have hcv2 := conv_bs (HV.out.on HU23.out)
    have c0_0 := cell_of_row _ _ 0 _ _ _ hr23_0
    have c0_1 := cell_of_row _ _ 1 _ _ _ hr23_0
    have c0_2 := cell_of_row _ _ 2 _ _ _ hr23_0
    have c0_3 := cell_of_row _ _ 3 _ _ _ hr23_0
    have c0_4 := cell_of_row _ _ 4 _ _ _ hr23_0
    have c0_5 := cell_of_row _ _ 5 _ _ _ hr23_0
    have c0_6 := cell_of_row _ _ 6 _ _ _ hr23_0
    have c0_7 := cell_of_row _ _ 7 _ _ _ hr23_0
    simp at c0_0 c0_1 c0_2 c0_3 c0_4 c0_5 c0_6 c0_7
    go_upto_region 13 with fail
    clear hcv1 hcv2
    clear HQ23
    have c0_0 := cell_of_row _ _ 0 _ _ _ hr23_0
    have c0_1 := cell_of_row _ _ 1 _ _ _ hr23_0
    have c0_2 := cell_of_row _ _ 2 _ _ _ hr23_0
    have c0_3 := cell_of_row _ _ 3 _ _ _ hr23_0
    have c0_4 := cell_of_row _ _ 4 _ _ _ hr23_0
    have c0_5 := cell_of_row _ _ 5 _ _ _ hr23_0
    have c0_6 := cell_of_row _ _ 6 _ _ _ hr23_0
    have c0_7 := cell_of_row _ _ 7 _ _ _ hr23_0
    simp at c0_0 c0_1 c0_2 c0_3 c0_4 c0_5 c0_6 c0_7
    go_wp2_with fail
    refine (HC6.out _ (HV.out.on HU23.out)).mono ?_
    rintro e y24 ⟨rfl, hb24⟩
    clear c0_0 c0_1 c0_2 c0_3 c0_4 c0_5 c0_6 c0_7
    have hr24_0 := (hb24.block _ (lt_heap hr23_0)).trans hr23_0
    have hr24_1 := (hb24.block _ (lt_heap hr23_1)).trans hr23_1
    have hr24_2 := (hb24.block _ (lt_heap hr23_2)).trans hr23_2
    have HU24 := Lib.hid (HU23.out.trans (hb24.mono HU23.out.size))
    clear hr23_0 hr23_1 hr23_2 HU23
    go_upto_region 14 with fail
    have hb25 := Ve.below_n1 y24 (.cells #[.int .i64 0, .int .i64 0, .slice none 0 0] 35)
    have hN := heap_alloc_last y24 (.cells #[.int .i64 0, .int .i64 0, .slice none 0 0] 35)
    obtain ⟨y25, hy25⟩ : ∃ y, y24.alloc (.cells #[.int .i64 0, .int .i64 0, .slice none 0 0] 35) = y := ⟨_, rfl⟩
    have hs25 : y25.heap.size = y24.heap.size + 1 := by rw [← hy25]; simp
    rw [hy25] at hb25 hN ⊢
    clear hy25
    have hl25_0 := lt_heap hr24_0
    have hl25_1 := lt_heap hr24_1
    have hl25_2 := lt_heap hr24_2
    have hr25_0 := (hb25.block _ (lt_heap hr24_0)).trans hr24_0
    have hr25_1 := (hb25.block _ (lt_heap hr24_1)).trans hr24_1
    have hr25_2 := (hb25.block _ (lt_heap hr24_2)).trans hr24_2
    have HU25 := Lib.hid (HU24.out.trans (hb25.mono HU24.out.size))
    clear hr24_0 hr24_1 hr24_2 HU24
    have hr25_3 := hN
    clear hN
    have c0_0 := cell_of_row _ _ 0 _ _ _ hr25_0
    have c0_1 := cell_of_row _ _ 1 _ _ _ hr25_0
    have c0_2 := cell_of_row _ _ 2 _ _ _ hr25_0
    have c0_3 := cell_of_row _ _ 3 _ _ _ hr25_0
    have c0_4 := cell_of_row _ _ 4 _ _ _ hr25_0
    have c0_5 := cell_of_row _ _ 5 _ _ _ hr25_0
    have c0_6 := cell_of_row _ _ 6 _ _ _ hr25_0
    have c0_7 := cell_of_row _ _ 7 _ _ _ hr25_0
    simp at c0_0 c0_1 c0_2 c0_3 c0_4 c0_5 c0_6 c0_7
    go_wp2_with fail
    refine (awake_any _).mono ?_
    rintro e y26 ⟨rfl, hb26⟩
    clear c0_0 c0_1 c0_2 c0_3 c0_4 c0_5 c0_6 c0_7
    have hr26_0 := (hb26.block _ (lt_heap hr25_0)).trans hr25_0
    have hr26_1 := (hb26.block _ (lt_heap hr25_1)).trans hr25_1
    have hr26_2 := (hb26.block _ (lt_heap hr25_2)).trans hr25_2
    have hr26_3 := (hb26.block _ (lt_heap hr25_3)).trans hr25_3
    have HU26 := Lib.hid (HU25.out.trans (hb26.mono HU25.out.size))
    clear hr25_0 hr25_1 hr25_2 hr25_3 HU25
    go_wp2
    go_ret
    exact ⟨rfl, HU26.out⟩

set_option maxHeartbeats 16000000 in
set_option maxRecDepth 100000 in
theorem case_7 (W H : Int) (al ad an ab ax af : Option Addr) (cl cd cn cb cx cf nl nd nn nb ns nf : Nat) (L D N B S F : Nat → Int) (ta : Option Addr) (tn tc : Nat) (l : List UInt8) (w : World) (hc : Came w (⟨W, H, nl, nd, nn, nb, ns, nf, L, D, N, B, S, F⟩ : Flm) (⟨al, cl, ad, cd, an, cn, ab, cb, ax, cx, af, cf⟩ : Pl)) (k1 : ¬ 5000 < nl) (k2 : ¬ 5000 < ns) (hv : Bs w (.slice ta tn tc) l) (e1 : okF (⟨W, H, nl, nd, nn, nb, ns, nf, L, D, N, B, S, F⟩ : Flm)) (C4 : ∀ (X : World) (ba : Option Addr) (bn bc : Nat), Bs X (.slice ba bn bc) (filmB (⟨W, H, nl, nd, nn, nb, ns, nf, L, D, N, B, S, F⟩ : Flm)) → SpanF (⟨W, H, nl, nd, nn, nb, ns, nf, L, D, N, B, S, F⟩ : Flm) → Calls Try.prog 22 #[.slice ba bn bc] X fun e' w' => (∃ p : Pl, e' = .returned (.tuple #[.agg (FC (⟨W, H, nl, nd, nn, nb, ns, nf, L, D, N, B, S, F⟩ : Flm) p), .int .i64 0]) ∧ FAt w' (⟨W, H, nl, nd, nn, nb, ns, nf, L, D, N, B, S, F⟩ : Flm) p) ∧ Below X.heap.size X w') (W5 H5 : Int) (nl5 nd5 nn5 nb5 ns5 nf5 : Nat) (L5 D5 N5 B5 S5 F5 : Nat → Int) (C5 : ∀ X : World, Bs X (.slice ta tn tc) l → Calls Try.prog 22 #[.slice ta tn tc] X fun e' w' => (∃ p : Pl, e' = .returned (.tuple #[.agg (FC (⟨W5, H5, nl5, nd5, nn5, nb5, ns5, nf5, L5, D5, N5, B5, S5, F5⟩ : Flm) p), .int .i64 0]) ∧ FAt w' (⟨W5, H5, nl5, nd5, nn5, nb5, ns5, nf5, L5, D5, N5, B5, S5, F5⟩ : Flm) p) ∧ Below X.heap.size X w') (ok5 : okF (⟨W5, H5, nl5, nd5, nn5, nb5, ns5, nf5, L5, D5, N5, B5, S5, F5⟩ : Flm)) (lb5 : filmB (⟨W5, H5, nl5, nd5, nn5, nb5, ns5, nf5, L5, D5, N5, B5, S5, F5⟩ : Flm) = l) (W6 H6 : Int) (n6 : Nat) (L6 : Nat → Int) (C6 : ∀ X : World, Bs X (.slice ta tn tc) l → Calls Try.prog 20 #[.slice ta tn tc] X fun e' w' => (∃ a c, e' = .returned (.tuple #[.agg #[.int .i64 W6, .int .i64 H6, .slice a n6 c], .int .i64 0]) ∧ Rw 3 w' a n6 L6) ∧ Below X.heap.size X w') (ok6 : okSh W6 H6 n6) (lb6 : sheetB W6 H6 n6 L6 = l) : Calls Try.prog 6 #[.agg #[.int .i64 W, .int .i64 H, .slice al nl cl, .slice ad nd cd, .slice an nn cn, .slice ab nb cb, .slice ax ns cx, .slice af nf cf], .slice ta tn tc] w fun e' w' => e' = .returned (.bool true) ∧ Below w.heap.size w w' := by
  have HC := Lib.hid hc
  clear hc
  have d1 := decide_eq_false (show ¬ (5000 : Int) < (nl : Int) by omega)
  have d2 := decide_eq_false (show ¬ (5000 : Int) < (ns : Int) by omega)
  have HV := Lib.hid hv
  have E1 := Lib.hid e1
  clear hv e1
  have HC4 := Lib.hid C4
  clear C4
  obtain ⟨v1, v2, v3, v4, v5, v6⟩ := (show nl ≤ 4096 ∧ nd ≤ 4096 ∧ nn ≤ 4096 ∧ nb ≤ 4096 ∧ ns ≤ 4096 ∧ nf ≤ 4096 from okF_small E1.out)
  have HC5 := Lib.hid C5
  have HC6 := Lib.hid C6
  clear C5 C6
  have OK5 := Lib.hid ok5
  have LB5 := Lib.hid lb5
  clear ok5 lb5
  have OK6 := Lib.hid ok6
  have LB6 := Lib.hid lb6
  clear ok6 lb6
  go_enter Try.func6, Try.ntmps6
  go_upto_region 1 with fail
  have hR := Au.rows1 w (.cells #[.int .i64 W, .int .i64 H, .slice al nl cl, .slice ad nd cd, .slice an nn cn, .slice ab nb cb, .slice ax ns cx, .slice af nf cf] 29)
  have HUx := Ve.below_n1 w (.cells #[.int .i64 W, .int .i64 H, .slice al nl cl, .slice ad nd cd, .slice an nn cn, .slice ab nb cb, .slice ax ns cx, .slice af nf cf] 29)
  obtain ⟨y0, hy0⟩ : ∃ y0, w.alloc (.cells #[.int .i64 W, .int .i64 H, .slice al nl cl, .slice ad nd cd, .slice an nn cn, .slice ab nb cb, .slice ax ns cx, .slice af nf cf] 29) = y0 := ⟨_, rfl⟩
  rw [hy0] at hR HUx ⊢
  clear hy0
  have HU0 := Lib.hid HUx
  clear HUx
  have hr0_0 := hR
  clear hR
  have c0_0 := cell_of_row _ _ 0 _ _ _ hr0_0
  have c0_1 := cell_of_row _ _ 1 _ _ _ hr0_0
  have c0_2 := cell_of_row _ _ 2 _ _ _ hr0_0
  have c0_3 := cell_of_row _ _ 3 _ _ _ hr0_0
  have c0_4 := cell_of_row _ _ 4 _ _ _ hr0_0
  have c0_5 := cell_of_row _ _ 5 _ _ _ hr0_0
  have c0_6 := cell_of_row _ _ 6 _ _ _ hr0_0
  have c0_7 := cell_of_row _ _ 7 _ _ _ hr0_0
  simp at c0_0 c0_1 c0_2 c0_3 c0_4 c0_5 c0_6 c0_7
  go_wp2_with fail
  refine (held_film (⟨W, H, nl, nd, nn, nb, ns, nf, L, D, N, B, S, F⟩ : Flm) (⟨al, cl, ad, cd, an, cn, ab, cb, ax, cx, af, cf⟩ : Pl) _ (HC.out.at_.on HU0.out) HC.out.bl HC.out.bd HC.out.bn HC.out.bb).mono ?_
  rintro e y1 ⟨t, rfl, hsp, hb1⟩
  clear c0_0 c0_1 c0_2 c0_3 c0_4 c0_5 c0_6 c0_7
  have hr1_0 := (hb1.block _ (lt_heap hr0_0)).trans hr0_0
  have HU1 := Lib.hid (HU0.out.trans (hb1.mono HU0.out.size))
  clear hr0_0 HU0
  have HSP := Lib.hid hsp
  clear hsp
  cases t
  case false =>
    have c0_0 := cell_of_row _ _ 0 _ _ _ hr1_0
    have c0_1 := cell_of_row _ _ 1 _ _ _ hr1_0
    have c0_2 := cell_of_row _ _ 2 _ _ _ hr1_0
    have c0_3 := cell_of_row _ _ 3 _ _ _ hr1_0
    have c0_4 := cell_of_row _ _ 4 _ _ _ hr1_0
    have c0_5 := cell_of_row _ _ 5 _ _ _ hr1_0
    have c0_6 := cell_of_row _ _ 6 _ _ _ hr1_0
    have c0_7 := cell_of_row _ _ 7 _ _ _ hr1_0
    simp at c0_0 c0_1 c0_2 c0_3 c0_4 c0_5 c0_6 c0_7
    go_wp2_with fail
    refine (awake_any _).mono ?_
    rintro e y2 ⟨rfl, hb2⟩
    clear c0_0 c0_1 c0_2 c0_3 c0_4 c0_5 c0_6 c0_7
    have hr2_0 := (hb2.block _ (lt_heap hr1_0)).trans hr1_0
    have HU2 := Lib.hid (HU1.out.trans (hb2.mono HU1.out.size))
    clear hr1_0 HU1
    go_wp2
    go_ret
    exact ⟨rfl, HU2.out⟩
  case true =>
    have HS := Lib.hid (HSP.out rfl)
    clear HSP
    have c0_0 := cell_of_row _ _ 0 _ _ _ hr1_0
    have c0_1 := cell_of_row _ _ 1 _ _ _ hr1_0
    have c0_2 := cell_of_row _ _ 2 _ _ _ hr1_0
    have c0_3 := cell_of_row _ _ 3 _ _ _ hr1_0
    have c0_4 := cell_of_row _ _ 4 _ _ _ hr1_0
    have c0_5 := cell_of_row _ _ 5 _ _ _ hr1_0
    have c0_6 := cell_of_row _ _ 6 _ _ _ hr1_0
    have c0_7 := cell_of_row _ _ 7 _ _ _ hr1_0
    simp at c0_0 c0_1 c0_2 c0_3 c0_4 c0_5 c0_6 c0_7
    go_wp2_with fail
    refine (to_film (⟨W, H, nl, nd, nn, nb, ns, nf, L, D, N, B, S, F⟩ : Flm) (⟨al, cl, ad, cd, an, cn, ab, cb, ax, cx, af, cf⟩ : Pl) _ (HC.out.at_.on HU1.out) HC.out.bl HC.out.bd HC.out.bn HC.out.bb HC.out.bs HC.out.bf HC.out.ks HC.out.kf).mono ?_
    rintro e y2 ⟨⟨⟨al2, cl2, ad2, cd2, an2, cn2, ab2, cb2, ax2, cx2, af2, cf2⟩, rfl, hat⟩, hb2⟩
    clear c0_0 c0_1 c0_2 c0_3 c0_4 c0_5 c0_6 c0_7
    have hr2_0 := (hb2.block _ (lt_heap hr1_0)).trans hr1_0
    have HU2 := Lib.hid (HU1.out.trans (hb2.mono HU1.out.size))
    clear hr1_0 HU1
    have HAT2 := Lib.hid (hat)
    clear hat
    go_wp2_with fail
    refine (encfilm_bs (⟨W, H, nl, nd, nn, nb, ns, nf, L, D, N, B, S, F⟩ : Flm) (⟨al2, cl2, ad2, cd2, an2, cn2, ab2, cb2, ax2, cx2, af2, cf2⟩ : Pl) _ HAT2.out E1.out).mono ?_
    rintro e y3 ⟨⟨fa, fn, fc, rfl, how⟩, hb3⟩
    have hr3_0 := (hb3.block _ (lt_heap hr2_0)).trans hr2_0
    have HU3 := Lib.hid (HU2.out.trans (hb3.mono HU2.out.size))
    clear hr2_0 HU2
    have HAT3 := Lib.hid (HAT2.out.on hb3)
    clear HAT2
    have HB3 := Lib.hid (how)
    clear how
    clear HAT3
    have c0_0 := cell_of_row _ _ 0 _ _ _ hr3_0
    have c0_1 := cell_of_row _ _ 1 _ _ _ hr3_0
    have c0_2 := cell_of_row _ _ 2 _ _ _ hr3_0
    have c0_3 := cell_of_row _ _ 3 _ _ _ hr3_0
    have c0_4 := cell_of_row _ _ 4 _ _ _ hr3_0
    have c0_5 := cell_of_row _ _ 5 _ _ _ hr3_0
    have c0_6 := cell_of_row _ _ 6 _ _ _ hr3_0
    have c0_7 := cell_of_row _ _ 7 _ _ _ hr3_0
    simp at c0_0 c0_1 c0_2 c0_3 c0_4 c0_5 c0_6 c0_7
    go_wp2_with fail
    refine (HC4.out _ _ _ _ HB3.out HS.out).mono ?_
    rintro e y4 ⟨⟨⟨al4, cl4, ad4, cd4, an4, cn4, ab4, cb4, ax4, cx4, af4, cf4⟩, rfl, hat⟩, hb4⟩
    clear c0_0 c0_1 c0_2 c0_3 c0_4 c0_5 c0_6 c0_7
    have hr4_0 := (hb4.block _ (lt_heap hr3_0)).trans hr3_0
    have HU4 := Lib.hid (HU3.out.trans (hb4.mono HU3.out.size))
    clear hr3_0 HU3
    have HG4 := Lib.hid hat
    clear hat HB3
    have c0_0 := cell_of_row _ _ 0 _ _ _ hr4_0
    have c0_1 := cell_of_row _ _ 1 _ _ _ hr4_0
    have c0_2 := cell_of_row _ _ 2 _ _ _ hr4_0
    have c0_3 := cell_of_row _ _ 3 _ _ _ hr4_0
    have c0_4 := cell_of_row _ _ 4 _ _ _ hr4_0
    have c0_5 := cell_of_row _ _ 5 _ _ _ hr4_0
    have c0_6 := cell_of_row _ _ 6 _ _ _ hr4_0
    have c0_7 := cell_of_row _ _ 7 _ _ _ hr4_0
    simp at c0_0 c0_1 c0_2 c0_3 c0_4 c0_5 c0_6 c0_7
    have HA := Lib.hid (heap_alloc_last y4 (.cells #[.int .i64 0, .int .i64 0, .slice none 0 0, .slice none 0 0, .slice none 0 0, .slice none 0 0, .slice none 0 0, .slice none 0 0] 39))
    have hHi := Lib.hid (show (Try.prog.info? 39).map (·.size) = some (#[.int .i64 W, .int .i64 H, .slice al4 nl cl4, .slice ad4 nd cd4, .slice an4 nn cn4, .slice ab4 nb cb4, .slice ax4 ns cx4, .slice af4 nf cf4] : Array Value).size by kernel_rfl)
    have hHz := Lib.hid (show (#[.int .i64 0, .int .i64 0, .slice none 0 0, .slice none 0 0, .slice none 0 0, .slice none 0 0, .slice none 0 0, .slice none 0 0] : Array Value).size = (#[.int .i64 W, .int .i64 H, .slice al4 nl cl4, .slice ad4 nd cd4, .slice an4 nn cn4, .slice ab4 nb cb4, .slice ax4 ns cx4, .slice af4 nf cf4] : Array Value).size from rfl)
    have hHo := Lib.hid (show (#[.int .i64 W, .int .i64 H, .slice al4 nl cl4, .slice ad4 nd cd4, .slice an4 nn cn4, .slice ab4 nb cb4, .slice ax4 ns cx4, .slice af4 nf cf4] : Array Value).all (·.oneCell') = true by simp [Value.oneCell'])
    go_upto_region 6 with (refine Au.wpList_store_row rfl 39 (.tmp 7) (.tmp 45) rfl (y4.alloc (.cells #[.int .i64 0, .int .i64 0, .slice none 0 0, .slice none 0 0, .slice none 0 0, .slice none 0 0, .slice none 0 0, .slice none 0 0] 39)) #[.int .i64 0, .int .i64 0, .slice none 0 0, .slice none 0 0, .slice none 0 0, .slice none 0 0, .slice none 0 0, .slice none 0 0] #[.int .i64 W, .int .i64 H, .slice al4 nl cl4, .slice ad4 nd cd4, .slice an4 nn cn4, .slice ab4 nb cb4, .slice ax4 ns cx4, .slice af4 nf cf4] (y4.heap.size) 39 HA.out rfl rfl hHi.out hHz.out hHo.out ?_)
    clear c0_0 c0_1 c0_2 c0_3 c0_4 c0_5 c0_6 c0_7
    clear hHi hHz hHo
    have hN := setRow_heap _ (y4.heap.size) _ #[.int .i64 W, .int .i64 H, .slice al4 nl cl4, .slice ad4 nd cd4, .slice an4 nn cn4, .slice ab4 nb cb4, .slice ax4 ns cx4, .slice af4 nf cf4] _ _ HA.out
    clear HA
    have hsz := HU4.out.size
    have hb := Ve.below_n1 y4 (.cells #[.int .i64 0, .int .i64 0, .slice none 0 0, .slice none 0 0, .slice none 0 0, .slice none 0 0, .slice none 0 0, .slice none 0 0] 39)
    have HUx := below_setRow (g := y4.heap.size) (HU4.out.trans (hb.mono HU4.out.size)) (by omega) #[.int .i64 W, .int .i64 H, .slice al4 nl cl4, .slice ad4 nd cd4, .slice an4 nn cn4, .slice ab4 nb cb4, .slice ax4 ns cx4, .slice af4 nf cf4]
    have hO : ∀ kk, kk < y4.heap.size → ((y4.alloc (.cells #[.int .i64 0, .int .i64 0, .slice none 0 0, .slice none 0 0, .slice none 0 0, .slice none 0 0, .slice none 0 0, .slice none 0 0] 39)).setRow (y4.heap.size) #[.int .i64 W, .int .i64 H, .slice al4 nl cl4, .slice ad4 nd cd4, .slice an4 nn cn4, .slice ab4 nb cb4, .slice ax4 ns cx4, .slice af4 nf cf4]).heap[kk]? = y4.heap[kk]? := fun kk hk => (setRow_other _ _ _ _ (by omega)).trans (hb.block _ hk)
    obtain ⟨y5, hy5⟩ : ∃ y, (y4.alloc (.cells #[.int .i64 0, .int .i64 0, .slice none 0 0, .slice none 0 0, .slice none 0 0, .slice none 0 0, .slice none 0 0, .slice none 0 0] 39)).setRow (y4.heap.size) #[.int .i64 W, .int .i64 H, .slice al4 nl cl4, .slice ad4 nd cd4, .slice an4 nn cn4, .slice ab4 nb cb4, .slice ax4 ns cx4, .slice af4 nf cf4] = y := ⟨_, rfl⟩
    have hs5 : y5.heap.size = y4.heap.size + 1 := by rw [← hy5]; simp [World.setRow]
    rw [hy5] at hN HUx hO ⊢
    clear hy5 hsz hb
    have HU5 := Lib.hid HUx
    clear HUx
    have hl5_0 := lt_heap hr4_0
    have hr5_0 := (hO _ hl5_0).trans hr4_0
    have hr5_1 := hN
    have hKK := hO
    clear hN hO
    clear hr4_0 HU4
    have HG5 := Lib.hid (show FAt y5 (⟨W, H, nl, nd, nn, nb, ns, nf, L, D, N, B, S, F⟩ : Flm) (⟨al4, cl4, ad4, cd4, an4, cn4, ab4, cb4, ax4, cx4, af4, cf4⟩ : Pl) from ⟨(HG4.out.l.low.keep (fun b hb => hKK b hb)).rw (by decide), (HG4.out.d.low.keep (fun b hb => hKK b hb)).rw (by decide), (HG4.out.n.low.keep (fun b hb => hKK b hb)).rw (by decide), (HG4.out.b.low.keep (fun b hb => hKK b hb)).rw (by decide), (HG4.out.s.low.keep (fun b hb => hKK b hb)).rw (by decide), (HG4.out.f.low.keep (fun b hb => hKK b hb)).rw (by decide)⟩)
    clear HG4
    clear hKK
    refine wp_region_held_drew (S := fun y => y.heap[w.heap.size]? = some (.cells #[.int .i64 W, .int .i64 H, .slice al nl cl, .slice ad nd cd, .slice an nn cn, .slice ab nb cb, .slice ax ns cx, .slice af nf cf] 29 (0, 0)) ∧ y.heap[y4.heap.size]? = some (.cells #[.int .i64 W, .int .i64 H, .slice al4 nl cl4, .slice ad4 nd cd4, .slice an4 nn cn4, .slice ab4 nb cb4, .slice ax4 ns cx4, .slice af4 nf cf4] 39 (0, 0))) (by kernel_rfl) (⟨hr5_0, hr5_1⟩) (fun hS0 => ?_)
    obtain ⟨z0, hz0_⟩ : ∃ y, y5.drew = y := ⟨_, rfl⟩
    have HV0 := Lib.hid (show Below w.heap.size w z0 by rw [← hz0_]; exact HU5.out.drew)
    have HG0 := Lib.hid (show FAt z0 (⟨W, H, nl, nd, nn, nb, ns, nf, L, D, N, B, S, F⟩ : Flm) (⟨al4, cl4, ad4, cd4, an4, cn4, ab4, cb4, ax4, cx4, af4, cf4⟩ : Pl) by rw [← hz0_]; exact HG5.out.on (Below.refl _ _).drew)
    rw [hz0_] at hS0 ⊢
    clear hz0_ HU5 HG5
    clear hr5_0 hr5_1
    refine wpAnyH_take (i := 0) (v := ?_) rfl (by kernel_rfl) (by kernel_rfl) (by kernel_rfl) (fun _ _ _ h => h) (Or.inl ⟨by kernel_rfl, by (intro wz hSz; go_simp; try with_reducible rfl)⟩) hS0 ?_
    go_simp
    refine wpAnyH_take (i := 1) (v := ?_) rfl (by kernel_rfl) (by kernel_rfl) (by kernel_rfl) (fun _ _ _ h => h) (Or.inl ⟨by kernel_rfl, by (intro wz hSz; go_simp; try with_reducible rfl)⟩) hS0 ?_
    go_simp
    refine wpAnyH_take (i := 2) (v := ?_) rfl (by kernel_rfl) (by kernel_rfl) (by kernel_rfl) (fun _ _ _ h => h) (Or.inl ⟨by kernel_rfl, by (intro wz hSz; go_simp; try with_reducible rfl)⟩) hS0 ?_
    go_simp
    refine wpAnyH_take (i := 3) (v := ?_) rfl (by kernel_rfl) (by kernel_rfl) (by kernel_rfl) (fun _ _ _ h => h) (Or.inl ⟨by kernel_rfl, by (intro wz hSz; have c0 := cell_of_row _ _ 0 _ _ _ (hSz.2); have c1 := cell_of_row _ _ 1 _ _ _ (hSz.2); have c2 := cell_of_row _ _ 2 _ _ _ (hSz.2); have c3 := cell_of_row _ _ 3 _ _ _ (hSz.2); have c4 := cell_of_row _ _ 4 _ _ _ (hSz.2); have c5 := cell_of_row _ _ 5 _ _ _ (hSz.2); have c6 := cell_of_row _ _ 6 _ _ _ (hSz.2); have c7 := cell_of_row _ _ 7 _ _ _ (hSz.2); simp at c0 c1 c2 c3 c4 c5 c6 c7; go_simp; try with_reducible rfl)⟩) hS0 ?_
    go_simp
    refine wpAnyH_take (i := 5) (v := ?_) rfl (by kernel_rfl) (by kernel_rfl) (by kernel_rfl) (fun _ _ _ h => h) (Or.inl ⟨by kernel_rfl, by (intro wz hSz; have c0 := cell_of_row _ _ 0 _ _ _ (hSz.1); have c1 := cell_of_row _ _ 1 _ _ _ (hSz.1); have c2 := cell_of_row _ _ 2 _ _ _ (hSz.1); have c3 := cell_of_row _ _ 3 _ _ _ (hSz.1); have c4 := cell_of_row _ _ 4 _ _ _ (hSz.1); have c5 := cell_of_row _ _ 5 _ _ _ (hSz.1); have c6 := cell_of_row _ _ 6 _ _ _ (hSz.1); have c7 := cell_of_row _ _ 7 _ _ _ (hSz.1); simp at c0 c1 c2 c3 c4 c5 c6 c7; go_simp; try with_reducible rfl)⟩) hS0 ?_
    go_simp
    refine wpAnyH_ready (rs := [4]) (by kernel_rfl) (by simp) ?_
    refine AllReadyH.cons rfl (fun K hK => ?_) AllReadyH.nil
    go_simp
    go_wp2_with (go_at_call 27; refine (from_film (⟨W, H, nl, nd, nn, nb, ns, nf, L, D, N, B, S, F⟩ : Flm) (⟨al4, cl4, ad4, cd4, an4, cn4, ab4, cb4, ax4, cx4, af4, cf4⟩ : Pl) _ HG0.out (by show nl * 24 ≤ 140737488351232; omega) (by show nd * 8 ≤ 140737488351232; omega) (by show nn * 24 ≤ 140737488351232; omega) (by show nb * 24 ≤ 140737488351232; omega) (by show ns * 8 ≤ 140737488351232; omega) (by show nf * 8 ≤ 140737488351232; omega)).mono ?_; rintro e z1 ⟨⟨⟨al7, cl7, ad7, cd7, an7, cn7, ab7, cb7, ax7, cx7, af7, cf7⟩, rfl, h5_⟩, hb1⟩)
    have HV1 := Lib.hid (HV0.out.trans (hb1.mono HV0.out.size))
    have HX1 := Lib.hid h5_
    clear h5_
    refine hK.out _ _ (⟨(hb1.block _ (lt_heap hS0.1)).trans hS0.1, (hb1.block _ (lt_heap hS0.2)).trans hS0.2⟩) (fun hS1 => ?_)
    clear hK K
    refine wpAnyH_ready (rs := [6]) (by kernel_rfl) (by simp) ?_
    refine AllReadyH.cons rfl (fun K hK => ?_) AllReadyH.nil
    go_simp
    go_wp2_with (go_at_call 26; refine (same_film (⟨W, H, nl, nd, nn, nb, ns, nf, L, D, N, B, S, F⟩ : Flm) (⟨al7, cl7, ad7, cd7, an7, cn7, ab7, cb7, ax7, cx7, af7, cf7⟩ : Pl) (⟨al, cl, ad, cd, an, cn, ab, cb, ax, cx, af, cf⟩ : Pl) _ HX1.out (HC.out.at_.on HV1.out) (by show nl ≤ 140737488351232; omega) (by show nd ≤ 140737488351232; omega) (by show nn ≤ 140737488351232; omega) (by show nb ≤ 140737488351232; omega) (by show ns ≤ 140737488351232; omega) (by show nf ≤ 140737488351232; omega)).mono ?_; rintro e z2 ⟨rfl, hb2⟩)
    have HV2 := Lib.hid (HV1.out.trans (hb2.mono HV1.out.size))
    refine hK.out _ _ (⟨(hb2.block _ (lt_heap hS1.1)).trans hS1.1, (hb2.block _ (lt_heap hS1.2)).trans hS1.2⟩) (fun hS2 => ?_)
    clear hK K
    refine wpAnyH_take (i := 7) (v := ?_) rfl (by kernel_rfl) (by kernel_rfl) (by kernel_rfl) (fun _ _ _ h => h) (Or.inl ⟨by kernel_rfl, by (intro wz hSz; go_simp; try with_reducible rfl)⟩) hS2 ?_
    go_simp
    refine wpAnyH_take (i := 8) (v := ?_) rfl (by kernel_rfl) (by kernel_rfl) (by kernel_rfl) (fun _ _ _ h => h) (Or.inl ⟨by kernel_rfl, by (intro wz hSz; go_simp; try with_reducible rfl)⟩) hS2 ?_
    go_simp
    refine wpAnyH_done (by kernel_rfl) ?_ _
    obtain ⟨y20, hy20⟩ : ∃ y : World, y = z2 := ⟨_, rfl⟩
    rw [← hy20] at hS2 HV2 ⊢
    clear hy20
    have HU20 := HV2
    obtain ⟨hr20_0, hr20_1⟩ := hS2
    have c0_0 := cell_of_row _ _ 0 _ _ _ hr20_0
    have c0_1 := cell_of_row _ _ 1 _ _ _ hr20_0
    have c0_2 := cell_of_row _ _ 2 _ _ _ hr20_0
    have c0_3 := cell_of_row _ _ 3 _ _ _ hr20_0
    have c0_4 := cell_of_row _ _ 4 _ _ _ hr20_0
    have c0_5 := cell_of_row _ _ 5 _ _ _ hr20_0
    have c0_6 := cell_of_row _ _ 6 _ _ _ hr20_0
    have c0_7 := cell_of_row _ _ 7 _ _ _ hr20_0
    simp at c0_0 c0_1 c0_2 c0_3 c0_4 c0_5 c0_6 c0_7
    go_wp2_with fail
    refine (HC5.out _ (HV.out.on HU20.out)).mono ?_
    rintro e y21 ⟨⟨⟨al5, cl5, ad5, cd5, an5, cn5, ab5, cb5, ax5, cx5, af5, cf5⟩, rfl, hat⟩, hb21⟩
    clear c0_0 c0_1 c0_2 c0_3 c0_4 c0_5 c0_6 c0_7
    have hr21_0 := (hb21.block _ (lt_heap hr20_0)).trans hr20_0
    have hr21_1 := (hb21.block _ (lt_heap hr20_1)).trans hr20_1
    have HU21 := Lib.hid (HU20.out.trans (hb21.mono HU20.out.size))
    clear hr20_0 hr20_1 HU20
    have HH21 := Lib.hid (hat)
    clear hat
    have c0_0 := cell_of_row _ _ 0 _ _ _ hr21_0
    have c0_1 := cell_of_row _ _ 1 _ _ _ hr21_0
    have c0_2 := cell_of_row _ _ 2 _ _ _ hr21_0
    have c0_3 := cell_of_row _ _ 3 _ _ _ hr21_0
    have c0_4 := cell_of_row _ _ 4 _ _ _ hr21_0
    have c0_5 := cell_of_row _ _ 5 _ _ _ hr21_0
    have c0_6 := cell_of_row _ _ 6 _ _ _ hr21_0
    have c0_7 := cell_of_row _ _ 7 _ _ _ hr21_0
    have c1_0 := cell_of_row _ _ 0 _ _ _ hr21_1
    have c1_1 := cell_of_row _ _ 1 _ _ _ hr21_1
    have c1_2 := cell_of_row _ _ 2 _ _ _ hr21_1
    have c1_3 := cell_of_row _ _ 3 _ _ _ hr21_1
    have c1_4 := cell_of_row _ _ 4 _ _ _ hr21_1
    have c1_5 := cell_of_row _ _ 5 _ _ _ hr21_1
    have c1_6 := cell_of_row _ _ 6 _ _ _ hr21_1
    have c1_7 := cell_of_row _ _ 7 _ _ _ hr21_1
    simp at c0_0 c0_1 c0_2 c0_3 c0_4 c0_5 c0_6 c0_7 c1_0 c1_1 c1_2 c1_3 c1_4 c1_5 c1_6 c1_7
    have HA := Lib.hid (heap_alloc_last y21 (.cells #[.int .i64 0, .int .i64 0, .slice none 0 0, .slice none 0 0, .slice none 0 0, .slice none 0 0, .slice none 0 0, .slice none 0 0] 39))
    have hHi := Lib.hid (show (Try.prog.info? 39).map (·.size) = some (#[.int .i64 W5, .int .i64 H5, .slice al5 nl5 cl5, .slice ad5 nd5 cd5, .slice an5 nn5 cn5, .slice ab5 nb5 cb5, .slice ax5 ns5 cx5, .slice af5 nf5 cf5] : Array Value).size by kernel_rfl)
    have hHz := Lib.hid (show (#[.int .i64 0, .int .i64 0, .slice none 0 0, .slice none 0 0, .slice none 0 0, .slice none 0 0, .slice none 0 0, .slice none 0 0] : Array Value).size = (#[.int .i64 W5, .int .i64 H5, .slice al5 nl5 cl5, .slice ad5 nd5 cd5, .slice an5 nn5 cn5, .slice ab5 nb5 cb5, .slice ax5 ns5 cx5, .slice af5 nf5 cf5] : Array Value).size from rfl)
    have hHo := Lib.hid (show (#[.int .i64 W5, .int .i64 H5, .slice al5 nl5 cl5, .slice ad5 nd5 cd5, .slice an5 nn5 cn5, .slice ab5 nb5 cb5, .slice ax5 ns5 cx5, .slice af5 nf5 cf5] : Array Value).all (·.oneCell') = true by simp [Value.oneCell'])
    go_upto_region 9 with (refine Au.wpList_store_row rfl 39 (.tmp 9) (.tmp 59) rfl (y21.alloc (.cells #[.int .i64 0, .int .i64 0, .slice none 0 0, .slice none 0 0, .slice none 0 0, .slice none 0 0, .slice none 0 0, .slice none 0 0] 39)) #[.int .i64 0, .int .i64 0, .slice none 0 0, .slice none 0 0, .slice none 0 0, .slice none 0 0, .slice none 0 0, .slice none 0 0] #[.int .i64 W5, .int .i64 H5, .slice al5 nl5 cl5, .slice ad5 nd5 cd5, .slice an5 nn5 cn5, .slice ab5 nb5 cb5, .slice ax5 ns5 cx5, .slice af5 nf5 cf5] (y21.heap.size) 39 HA.out rfl rfl hHi.out hHz.out hHo.out ?_)
    clear c0_0 c0_1 c0_2 c0_3 c0_4 c0_5 c0_6 c0_7 c1_0 c1_1 c1_2 c1_3 c1_4 c1_5 c1_6 c1_7
    clear hHi hHz hHo
    have hN := setRow_heap _ (y21.heap.size) _ #[.int .i64 W5, .int .i64 H5, .slice al5 nl5 cl5, .slice ad5 nd5 cd5, .slice an5 nn5 cn5, .slice ab5 nb5 cb5, .slice ax5 ns5 cx5, .slice af5 nf5 cf5] _ _ HA.out
    clear HA
    have hsz := HU21.out.size
    have hb := Ve.below_n1 y21 (.cells #[.int .i64 0, .int .i64 0, .slice none 0 0, .slice none 0 0, .slice none 0 0, .slice none 0 0, .slice none 0 0, .slice none 0 0] 39)
    have HUx := below_setRow (g := y21.heap.size) (HU21.out.trans (hb.mono HU21.out.size)) (by omega) #[.int .i64 W5, .int .i64 H5, .slice al5 nl5 cl5, .slice ad5 nd5 cd5, .slice an5 nn5 cn5, .slice ab5 nb5 cb5, .slice ax5 ns5 cx5, .slice af5 nf5 cf5]
    have hO : ∀ kk, kk < y21.heap.size → ((y21.alloc (.cells #[.int .i64 0, .int .i64 0, .slice none 0 0, .slice none 0 0, .slice none 0 0, .slice none 0 0, .slice none 0 0, .slice none 0 0] 39)).setRow (y21.heap.size) #[.int .i64 W5, .int .i64 H5, .slice al5 nl5 cl5, .slice ad5 nd5 cd5, .slice an5 nn5 cn5, .slice ab5 nb5 cb5, .slice ax5 ns5 cx5, .slice af5 nf5 cf5]).heap[kk]? = y21.heap[kk]? := fun kk hk => (setRow_other _ _ _ _ (by omega)).trans (hb.block _ hk)
    obtain ⟨y22, hy22⟩ : ∃ y, (y21.alloc (.cells #[.int .i64 0, .int .i64 0, .slice none 0 0, .slice none 0 0, .slice none 0 0, .slice none 0 0, .slice none 0 0, .slice none 0 0] 39)).setRow (y21.heap.size) #[.int .i64 W5, .int .i64 H5, .slice al5 nl5 cl5, .slice ad5 nd5 cd5, .slice an5 nn5 cn5, .slice ab5 nb5 cb5, .slice ax5 ns5 cx5, .slice af5 nf5 cf5] = y := ⟨_, rfl⟩
    have hs22 : y22.heap.size = y21.heap.size + 1 := by rw [← hy22]; simp [World.setRow]
    rw [hy22] at hN HUx hO ⊢
    clear hy22 hsz hb
    have HU22 := Lib.hid HUx
    clear HUx
    have hl22_0 := lt_heap hr21_0
    have hr22_0 := (hO _ hl22_0).trans hr21_0
    have hl22_1 := lt_heap hr21_1
    have hr22_1 := (hO _ hl22_1).trans hr21_1
    have hr22_2 := hN
    have hKK := hO
    clear hN hO
    clear hr21_0 hr21_1 HU21
    have HH22 := Lib.hid (show FAt y22 (⟨W5, H5, nl5, nd5, nn5, nb5, ns5, nf5, L5, D5, N5, B5, S5, F5⟩ : Flm) (⟨al5, cl5, ad5, cd5, an5, cn5, ab5, cb5, ax5, cx5, af5, cf5⟩ : Pl) from ⟨(HH21.out.l.low.keep (fun b hb => hKK b hb)).rw (by decide), (HH21.out.d.low.keep (fun b hb => hKK b hb)).rw (by decide), (HH21.out.n.low.keep (fun b hb => hKK b hb)).rw (by decide), (HH21.out.b.low.keep (fun b hb => hKK b hb)).rw (by decide), (HH21.out.s.low.keep (fun b hb => hKK b hb)).rw (by decide), (HH21.out.f.low.keep (fun b hb => hKK b hb)).rw (by decide)⟩)
    clear HH21
    clear hKK
    have c2_0 := cell_of_row _ _ 0 _ _ _ hr22_2
    have c2_1 := cell_of_row _ _ 1 _ _ _ hr22_2
    have c2_2 := cell_of_row _ _ 2 _ _ _ hr22_2
    have c2_3 := cell_of_row _ _ 3 _ _ _ hr22_2
    have c2_4 := cell_of_row _ _ 4 _ _ _ hr22_2
    have c2_5 := cell_of_row _ _ 5 _ _ _ hr22_2
    have c2_6 := cell_of_row _ _ 6 _ _ _ hr22_2
    have c2_7 := cell_of_row _ _ 7 _ _ _ hr22_2
    simp at c2_0 c2_1 c2_2 c2_3 c2_4 c2_5 c2_6 c2_7
    go_wp2_with fail
    refine (encfilm_bs (⟨W5, H5, nl5, nd5, nn5, nb5, ns5, nf5, L5, D5, N5, B5, S5, F5⟩ : Flm) (⟨al5, cl5, ad5, cd5, an5, cn5, ab5, cb5, ax5, cx5, af5, cf5⟩ : Pl) _ HH22.out OK5.out).mono ?_
    rintro e y23 ⟨⟨ga, gn, gc, rfl, how⟩, hb23⟩
    clear c2_0 c2_1 c2_2 c2_3 c2_4 c2_5 c2_6 c2_7
    have hr23_0 := (hb23.block _ (lt_heap hr22_0)).trans hr22_0
    have hr23_1 := (hb23.block _ (lt_heap hr22_1)).trans hr22_1
    have hr23_2 := (hb23.block _ (lt_heap hr22_2)).trans hr22_2
    have HU23 := Lib.hid (HU22.out.trans (hb23.mono HU22.out.size))
    clear hr22_0 hr22_1 hr22_2 HU22
    have HH23 := Lib.hid (HH22.out.on hb23)
    clear HH22
    have HQ23 := Lib.hid ((show Bs _ (.slice ga gn gc) l by rw [← LB5.out]; exact how))
    clear how
    clear HH23
    have hcv1 := conv_bs HQ23.out
    have hcv2 := conv_bs (HV.out.on HU23.out)
    have c0_0 := cell_of_row _ _ 0 _ _ _ hr23_0
    have c0_1 := cell_of_row _ _ 1 _ _ _ hr23_0
    have c0_2 := cell_of_row _ _ 2 _ _ _ hr23_0
    have c0_3 := cell_of_row _ _ 3 _ _ _ hr23_0
    have c0_4 := cell_of_row _ _ 4 _ _ _ hr23_0
    have c0_5 := cell_of_row _ _ 5 _ _ _ hr23_0
    have c0_6 := cell_of_row _ _ 6 _ _ _ hr23_0
    have c0_7 := cell_of_row _ _ 7 _ _ _ hr23_0
    simp at c0_0 c0_1 c0_2 c0_3 c0_4 c0_5 c0_6 c0_7
    go_upto_region 13 with fail
    clear hcv1 hcv2
    clear HQ23
    have c0_0 := cell_of_row _ _ 0 _ _ _ hr23_0
    have c0_1 := cell_of_row _ _ 1 _ _ _ hr23_0
    have c0_2 := cell_of_row _ _ 2 _ _ _ hr23_0
    have c0_3 := cell_of_row _ _ 3 _ _ _ hr23_0
    have c0_4 := cell_of_row _ _ 4 _ _ _ hr23_0
    have c0_5 := cell_of_row _ _ 5 _ _ _ hr23_0
    have c0_6 := cell_of_row _ _ 6 _ _ _ hr23_0
    have c0_7 := cell_of_row _ _ 7 _ _ _ hr23_0
    simp at c0_0 c0_1 c0_2 c0_3 c0_4 c0_5 c0_6 c0_7
    go_wp2_with fail
    refine (HC6.out _ (HV.out.on HU23.out)).mono ?_
    rintro e y24 ⟨⟨a6, c6, rfl, hat⟩, hb24⟩
    clear c0_0 c0_1 c0_2 c0_3 c0_4 c0_5 c0_6 c0_7
    have hr24_0 := (hb24.block _ (lt_heap hr23_0)).trans hr23_0
    have hr24_1 := (hb24.block _ (lt_heap hr23_1)).trans hr23_1
    have hr24_2 := (hb24.block _ (lt_heap hr23_2)).trans hr23_2
    have HU24 := Lib.hid (HU23.out.trans (hb24.mono HU23.out.size))
    clear hr23_0 hr23_1 hr23_2 HU23
    have HH24 := Lib.hid (hat)
    clear hat
    have c0_0 := cell_of_row _ _ 0 _ _ _ hr24_0
    have c0_1 := cell_of_row _ _ 1 _ _ _ hr24_0
    have c0_2 := cell_of_row _ _ 2 _ _ _ hr24_0
    have c0_3 := cell_of_row _ _ 3 _ _ _ hr24_0
    have c0_4 := cell_of_row _ _ 4 _ _ _ hr24_0
    have c0_5 := cell_of_row _ _ 5 _ _ _ hr24_0
    have c0_6 := cell_of_row _ _ 6 _ _ _ hr24_0
    have c0_7 := cell_of_row _ _ 7 _ _ _ hr24_0
    have c1_0 := cell_of_row _ _ 0 _ _ _ hr24_1
    have c1_1 := cell_of_row _ _ 1 _ _ _ hr24_1
    have c1_2 := cell_of_row _ _ 2 _ _ _ hr24_1
    have c1_3 := cell_of_row _ _ 3 _ _ _ hr24_1
    have c1_4 := cell_of_row _ _ 4 _ _ _ hr24_1
    have c1_5 := cell_of_row _ _ 5 _ _ _ hr24_1
    have c1_6 := cell_of_row _ _ 6 _ _ _ hr24_1
    have c1_7 := cell_of_row _ _ 7 _ _ _ hr24_1
    have c2_0 := cell_of_row _ _ 0 _ _ _ hr24_2
    have c2_1 := cell_of_row _ _ 1 _ _ _ hr24_2
    have c2_2 := cell_of_row _ _ 2 _ _ _ hr24_2
    have c2_3 := cell_of_row _ _ 3 _ _ _ hr24_2
    have c2_4 := cell_of_row _ _ 4 _ _ _ hr24_2
    have c2_5 := cell_of_row _ _ 5 _ _ _ hr24_2
    have c2_6 := cell_of_row _ _ 6 _ _ _ hr24_2
    have c2_7 := cell_of_row _ _ 7 _ _ _ hr24_2
    simp at c0_0 c0_1 c0_2 c0_3 c0_4 c0_5 c0_6 c0_7 c1_0 c1_1 c1_2 c1_3 c1_4 c1_5 c1_6 c1_7 c2_0 c2_1 c2_2 c2_3 c2_4 c2_5 c2_6 c2_7
    have HA := Lib.hid (heap_alloc_last y24 (.cells #[.int .i64 0, .int .i64 0, .slice none 0 0] 35))
    have hHi := Lib.hid (show (Try.prog.info? 35).map (·.size) = some (#[.int .i64 W6, .int .i64 H6, .slice a6 n6 c6] : Array Value).size by kernel_rfl)
    have hHz := Lib.hid (show (#[.int .i64 0, .int .i64 0, .slice none 0 0] : Array Value).size = (#[.int .i64 W6, .int .i64 H6, .slice a6 n6 c6] : Array Value).size from rfl)
    have hHo := Lib.hid (show (#[.int .i64 W6, .int .i64 H6, .slice a6 n6 c6] : Array Value).all (·.oneCell') = true by simp [Value.oneCell'])
    go_upto_region 14 with (refine Au.wpList_store_row rfl 35 (.tmp 13) (.tmp 80) rfl (y24.alloc (.cells #[.int .i64 0, .int .i64 0, .slice none 0 0] 35)) #[.int .i64 0, .int .i64 0, .slice none 0 0] #[.int .i64 W6, .int .i64 H6, .slice a6 n6 c6] (y24.heap.size) 35 HA.out rfl rfl hHi.out hHz.out hHo.out ?_)
    clear c0_0 c0_1 c0_2 c0_3 c0_4 c0_5 c0_6 c0_7 c1_0 c1_1 c1_2 c1_3 c1_4 c1_5 c1_6 c1_7 c2_0 c2_1 c2_2 c2_3 c2_4 c2_5 c2_6 c2_7
    clear hHi hHz hHo
    have hN := setRow_heap _ (y24.heap.size) _ #[.int .i64 W6, .int .i64 H6, .slice a6 n6 c6] _ _ HA.out
    clear HA
    have hsz := HU24.out.size
    have hb := Ve.below_n1 y24 (.cells #[.int .i64 0, .int .i64 0, .slice none 0 0] 35)
    have HUx := below_setRow (g := y24.heap.size) (HU24.out.trans (hb.mono HU24.out.size)) (by omega) #[.int .i64 W6, .int .i64 H6, .slice a6 n6 c6]
    have hO : ∀ kk, kk < y24.heap.size → ((y24.alloc (.cells #[.int .i64 0, .int .i64 0, .slice none 0 0] 35)).setRow (y24.heap.size) #[.int .i64 W6, .int .i64 H6, .slice a6 n6 c6]).heap[kk]? = y24.heap[kk]? := fun kk hk => (setRow_other _ _ _ _ (by omega)).trans (hb.block _ hk)
    obtain ⟨y25, hy25⟩ : ∃ y, (y24.alloc (.cells #[.int .i64 0, .int .i64 0, .slice none 0 0] 35)).setRow (y24.heap.size) #[.int .i64 W6, .int .i64 H6, .slice a6 n6 c6] = y := ⟨_, rfl⟩
    have hs25 : y25.heap.size = y24.heap.size + 1 := by rw [← hy25]; simp [World.setRow]
    rw [hy25] at hN HUx hO ⊢
    clear hy25 hsz hb
    have HU25 := Lib.hid HUx
    clear HUx
    have hl25_0 := lt_heap hr24_0
    have hr25_0 := (hO _ hl25_0).trans hr24_0
    have hl25_1 := lt_heap hr24_1
    have hr25_1 := (hO _ hl25_1).trans hr24_1
    have hl25_2 := lt_heap hr24_2
    have hr25_2 := (hO _ hl25_2).trans hr24_2
    have hr25_3 := hN
    have hKK := hO
    clear hN hO
    clear hr24_0 hr24_1 hr24_2 HU24
    have HH25 := Lib.hid ((HH24.out.low.keep (fun b hb => hKK b hb)).rw (by decide))
    clear HH24
    clear hKK
    have c3_0 := cell_of_row _ _ 0 _ _ _ hr25_3
    have c3_1 := cell_of_row _ _ 1 _ _ _ hr25_3
    have c3_2 := cell_of_row _ _ 2 _ _ _ hr25_3
    simp at c3_0 c3_1 c3_2
    go_wp2_with fail
    refine (encsheet_ok W6 H6 a6 c6 n6 L6 _ HH25.out OK6.out).mono ?_
    rintro e y26 ⟨⟨ja, jn, jc, rfl, how⟩, hb26⟩
    clear c3_0 c3_1 c3_2
    have hr26_0 := (hb26.block _ (lt_heap hr25_0)).trans hr25_0
    have hr26_1 := (hb26.block _ (lt_heap hr25_1)).trans hr25_1
    have hr26_2 := (hb26.block _ (lt_heap hr25_2)).trans hr25_2
    have hr26_3 := (hb26.block _ (lt_heap hr25_3)).trans hr25_3
    have HU26 := Lib.hid (HU25.out.trans (hb26.mono HU25.out.size))
    clear hr25_0 hr25_1 hr25_2 hr25_3 HU25
    have HH26 := Lib.hid (HH25.out.on hb26)
    clear HH25
    have HQ26 := Lib.hid ((show Bs _ (.slice ja jn jc) l by rw [← LB6.out]; exact own_bs_n how))
    clear how
    clear HH26
    have hcv1 := conv_bs HQ26.out
    have hcv2 := conv_bs (HV.out.on HU26.out)
    have c0_0 := cell_of_row _ _ 0 _ _ _ hr26_0
    have c0_1 := cell_of_row _ _ 1 _ _ _ hr26_0
    have c0_2 := cell_of_row _ _ 2 _ _ _ hr26_0
    have c0_3 := cell_of_row _ _ 3 _ _ _ hr26_0
    have c0_4 := cell_of_row _ _ 4 _ _ _ hr26_0
    have c0_5 := cell_of_row _ _ 5 _ _ _ hr26_0
    have c0_6 := cell_of_row _ _ 6 _ _ _ hr26_0
    have c0_7 := cell_of_row _ _ 7 _ _ _ hr26_0
    simp at c0_0 c0_1 c0_2 c0_3 c0_4 c0_5 c0_6 c0_7
    go_wp2_with fail
    clear hcv1 hcv2
    clear HQ26
    refine (awake_any _).mono ?_
    rintro e y27 ⟨rfl, hb27⟩
    clear c0_0 c0_1 c0_2 c0_3 c0_4 c0_5 c0_6 c0_7
    have hr27_0 := (hb27.block _ (lt_heap hr26_0)).trans hr26_0
    have hr27_1 := (hb27.block _ (lt_heap hr26_1)).trans hr26_1
    have hr27_2 := (hb27.block _ (lt_heap hr26_2)).trans hr26_2
    have hr27_3 := (hb27.block _ (lt_heap hr26_3)).trans hr26_3
    have HU27 := Lib.hid (HU26.out.trans (hb27.mono HU26.out.size))
    clear hr26_0 hr26_1 hr26_2 hr26_3 HU26
    go_wp2
    go_ret
    exact ⟨rfl, HU27.out⟩

theorem sheet_ok (l : List UInt8) (h : shE l = 0) : okSh (fW (l, 0)) (fH (l, 0)) (fN (l, 0)) := by
  have h0 : (fT0 (l, 0)).2 = 0 := by
    refine Classical.byContradiction fun hh => ?_
    unfold shE endS at h
    split at h
    · rename_i hl
      unfold leftS at hl
      rw [if_pos hh] at hl; omega
    · exact hh h
  have hok : okSz (szW (l, 0)) (szH (l, 0)) := by
    refine Classical.byContradiction fun hn => ?_
    have hs : (szS (l, 0)).2 ≠ 0 := by
      unfold szS; rw [if_neg hn]; exact fail_ne _ 10 (by decide)
    have hst : ∀ n, itS triE (szS (l, 0)) n = szS (l, 0) ∨ (itS triE (szS (l, 0)) n).2 ≠ 0 := fun n => .inr fun h9 => hs ((vecs_R (szS (l, 0)) n h9).1)
    exact hs ((vecs_R (szS (l, 0)) (fN (l, 0)) h0).1)
  have hf := (fN_is (l, 0)).1
  have e1 : fW (l, 0) = szW (l, 0) := by unfold fW; rw [if_pos hok]
  have e2 : fH (l, 0) = szH (l, 0) := by unfold fH; rw [if_pos hok]
  exact ⟨by rw [e1, e2]; exact hok, hf⟩

theorem walk (f : Flm) (p : Pl) (ta : Option Addr) (tn tc : Nat) (l : List UInt8) (w : World) (hc : Came w f p) (hv : Bs w (.slice ta tn tc) l) (hl : l.length = tn) (hm : tn ≤ 140737488355328) :
    Calls Try.prog 6 #[.agg (FC f p), .slice ta tn tc] w fun e' w' => e' = .returned (.bool true) ∧ Below w.heap.size w w' := by
  have hlm : l.length ≤ 140737488355328 := by omega
  obtain ⟨W, H, nl, nd, nn, nb, ns, nf, L, D, N, B, S, F⟩ := f
  obtain ⟨al, cl, ad, cd, an, cn, ab, cb, ax, cx, af, cf⟩ := p
  by_cases k1 : 5000 < nl
  · exact big_l W H al ad an ab ax af cl cd cn cb cx cf nl nd nn nb ns nf L D N B S F ta tn tc l w hc k1
  by_cases k2 : 5000 < ns
  · exact big_s W H al ad an ab ax af cl cd cn cb cx cf nl nd nn nb ns nf L D N B S F ta tn tc l w hc k1 k2
  by_cases e1 : okF ⟨W, H, nl, nd, nn, nb, ns, nf, L, D, N, B, S, F⟩
  · skip
    by_cases e2 : flR l = 0
    · have e20 : flE l = 0 := Classical.byContradiction fun h => by unfold flR at e2; rw [if_neg h] at e2; exact h e2
      have ok5 : okF (fF (l, 0)) := Classical.byContradiction fun h => by unfold flR at e2; rw [if_pos e20, if_neg h] at e2; exact absurd e2 (by decide)
      have lb5 := film_laid l e20
      have c5 : ∀ X : World, Bs X (.slice ta tn tc) l → Calls Try.prog 22 #[.slice ta tn tc] X fun e' w' => (∃ p : Pl, e' = .returned (.tuple #[.agg (FC (fF (l, 0)) p), .int .i64 0]) ∧ FAt w' (fF (l, 0)) p) ∧ Below X.heap.size X w' := fun X hX => (decfilm_any l ta tn tc X hX hlm).mono (by
        rintro e w' ⟨⟨-, -, -, p, he, hat⟩ | ⟨hn, -⟩, hb⟩
        · exact ⟨⟨p, he, hat.fat⟩, hb⟩
        · exact absurd e2 hn)
      obtain ⟨G, hG⟩ : ∃ G, G = fF (l, 0) := ⟨_, rfl⟩
      have hGL : (fF (l, 0)).L = G.L := by rw [hG]
      rw [← hG] at ok5 lb5 c5
      obtain ⟨W5, H5, nl5, nd5, nn5, nb5, ns5, nf5, L5, D5, N5, B5, S5, F5⟩ := G
      by_cases e3 : shE l = 0
      · have ok6 : okSh (fW (l, 0)) (fH (l, 0)) (fN (l, 0)) := sheet_ok l e3
        have c6 : ∀ X : World, Bs X (.slice ta tn tc) l → Calls Try.prog 20 #[.slice ta tn tc] X fun e' w' => (∃ a c, e' = .returned (.tuple #[.agg #[.int .i64 (fW (l, 0)), .int .i64 (fH (l, 0)), .slice a (fN (l, 0)) c], .int .i64 0]) ∧ Rw 3 w' a (fN (l, 0)) (fF (l, 0)).L) ∧ Below X.heap.size X w' := fun X hX => (decsheet_any l ta tn tc X hX hlm).mono (by
          rintro e w' ⟨⟨-, a, c, he, h1⟩ | ⟨h2, -⟩, hb⟩
          · exact ⟨⟨a, c, he, h1.rw (by decide)⟩, hb⟩
          · exact absurd e3 h2)
        exact case_7 W H al ad an ab ax af cl cd cn cb cx cf nl nd nn nb ns nf L D N B S F ta tn tc l w hc k1 k2 hv e1 (fun X ba bn bc h hs => decback _ e1 X ba bn bc h hs) W5 H5 nl5 nd5 nn5 nb5 ns5 nf5 L5 D5 N5 B5 S5 F5 c5 ok5 lb5 (fW (l, 0)) (fH (l, 0)) (fN (l, 0)) (fF (l, 0)).L c6 ok6 (sheet_laid l e3)
      · have c6 : ∀ X : World, Bs X (.slice ta tn tc) l → Calls Try.prog 20 #[.slice ta tn tc] X fun e' w' => e' = .returned (.tuple #[.agg ZSC, .int .i64 (shE l)]) ∧ Below X.heap.size X w' := fun X hX => (decsheet_any l ta tn tc X hX hlm).mono (by
          rintro e w' ⟨⟨h, -⟩ | ⟨-, he⟩, hb⟩
          · exact absurd h e3
          · exact ⟨he, hb⟩)
        exact case_6 W H al ad an ab ax af cl cd cn cb cx cf nl nd nn nb ns nf L D N B S F ta tn tc l w hc k1 k2 hv e1 (fun X ba bn bc h hs => decback _ e1 X ba bn bc h hs) W5 H5 nl5 nd5 nn5 nb5 ns5 nf5 L5 D5 N5 B5 S5 F5 c5 ok5 lb5 (shE l) e3 c6
    · have c5 : ∀ X : World, Bs X (.slice ta tn tc) l → Calls Try.prog 22 #[.slice ta tn tc] X fun e' w' => e' = .returned (.tuple #[.agg ZFC, .int .i64 (flR l)]) ∧ Below X.heap.size X w' := fun X hX => (decfilm_any l ta tn tc X hX hlm).mono (by
        rintro e w' ⟨⟨h, -⟩ | ⟨-, he⟩, hb⟩
        · exact absurd h e2
        · exact ⟨he, hb⟩)
      by_cases e3 : shE l = 0
      · have ok6 : okSh (fW (l, 0)) (fH (l, 0)) (fN (l, 0)) := sheet_ok l e3
        have c6 : ∀ X : World, Bs X (.slice ta tn tc) l → Calls Try.prog 20 #[.slice ta tn tc] X fun e' w' => (∃ a c, e' = .returned (.tuple #[.agg #[.int .i64 (fW (l, 0)), .int .i64 (fH (l, 0)), .slice a (fN (l, 0)) c], .int .i64 0]) ∧ Rw 3 w' a (fN (l, 0)) (fF (l, 0)).L) ∧ Below X.heap.size X w' := fun X hX => (decsheet_any l ta tn tc X hX hlm).mono (by
          rintro e w' ⟨⟨-, a, c, he, h1⟩ | ⟨h2, -⟩, hb⟩
          · exact ⟨⟨a, c, he, h1.rw (by decide)⟩, hb⟩
          · exact absurd e3 h2)
        exact case_5 W H al ad an ab ax af cl cd cn cb cx cf nl nd nn nb ns nf L D N B S F ta tn tc l w hc k1 k2 hv e1 (fun X ba bn bc h hs => decback _ e1 X ba bn bc h hs) (flR l) e2 c5 (fW (l, 0)) (fH (l, 0)) (fN (l, 0)) (fF (l, 0)).L c6 ok6 (sheet_laid l e3)
      · have c6 : ∀ X : World, Bs X (.slice ta tn tc) l → Calls Try.prog 20 #[.slice ta tn tc] X fun e' w' => e' = .returned (.tuple #[.agg ZSC, .int .i64 (shE l)]) ∧ Below X.heap.size X w' := fun X hX => (decsheet_any l ta tn tc X hX hlm).mono (by
          rintro e w' ⟨⟨h, -⟩ | ⟨-, he⟩, hb⟩
          · exact absurd h e3
          · exact ⟨he, hb⟩)
        exact case_4 W H al ad an ab ax af cl cd cn cb cx cf nl nd nn nb ns nf L D N B S F ta tn tc l w hc k1 k2 hv e1 (fun X ba bn bc h hs => decback _ e1 X ba bn bc h hs) (flR l) e2 c5 (shE l) e3 c6
  · skip
    by_cases e2 : flR l = 0
    · have e20 : flE l = 0 := Classical.byContradiction fun h => by unfold flR at e2; rw [if_neg h] at e2; exact h e2
      have ok5 : okF (fF (l, 0)) := Classical.byContradiction fun h => by unfold flR at e2; rw [if_pos e20, if_neg h] at e2; exact absurd e2 (by decide)
      have lb5 := film_laid l e20
      have c5 : ∀ X : World, Bs X (.slice ta tn tc) l → Calls Try.prog 22 #[.slice ta tn tc] X fun e' w' => (∃ p : Pl, e' = .returned (.tuple #[.agg (FC (fF (l, 0)) p), .int .i64 0]) ∧ FAt w' (fF (l, 0)) p) ∧ Below X.heap.size X w' := fun X hX => (decfilm_any l ta tn tc X hX hlm).mono (by
        rintro e w' ⟨⟨-, -, -, p, he, hat⟩ | ⟨hn, -⟩, hb⟩
        · exact ⟨⟨p, he, hat.fat⟩, hb⟩
        · exact absurd e2 hn)
      obtain ⟨G, hG⟩ : ∃ G, G = fF (l, 0) := ⟨_, rfl⟩
      have hGL : (fF (l, 0)).L = G.L := by rw [hG]
      rw [← hG] at ok5 lb5 c5
      obtain ⟨W5, H5, nl5, nd5, nn5, nb5, ns5, nf5, L5, D5, N5, B5, S5, F5⟩ := G
      by_cases e3 : shE l = 0
      · have ok6 : okSh (fW (l, 0)) (fH (l, 0)) (fN (l, 0)) := sheet_ok l e3
        have c6 : ∀ X : World, Bs X (.slice ta tn tc) l → Calls Try.prog 20 #[.slice ta tn tc] X fun e' w' => (∃ a c, e' = .returned (.tuple #[.agg #[.int .i64 (fW (l, 0)), .int .i64 (fH (l, 0)), .slice a (fN (l, 0)) c], .int .i64 0]) ∧ Rw 3 w' a (fN (l, 0)) (fF (l, 0)).L) ∧ Below X.heap.size X w' := fun X hX => (decsheet_any l ta tn tc X hX hlm).mono (by
          rintro e w' ⟨⟨-, a, c, he, h1⟩ | ⟨h2, -⟩, hb⟩
          · exact ⟨⟨a, c, he, h1.rw (by decide)⟩, hb⟩
          · exact absurd e3 h2)
        exact case_3 W H al ad an ab ax af cl cd cn cb cx cf nl nd nn nb ns nf L D N B S F ta tn tc l w hc k1 k2 hv e1 W5 H5 nl5 nd5 nn5 nb5 ns5 nf5 L5 D5 N5 B5 S5 F5 c5 ok5 lb5 (fW (l, 0)) (fH (l, 0)) (fN (l, 0)) (fF (l, 0)).L c6 ok6 (sheet_laid l e3)
      · have c6 : ∀ X : World, Bs X (.slice ta tn tc) l → Calls Try.prog 20 #[.slice ta tn tc] X fun e' w' => e' = .returned (.tuple #[.agg ZSC, .int .i64 (shE l)]) ∧ Below X.heap.size X w' := fun X hX => (decsheet_any l ta tn tc X hX hlm).mono (by
          rintro e w' ⟨⟨h, -⟩ | ⟨-, he⟩, hb⟩
          · exact absurd h e3
          · exact ⟨he, hb⟩)
        exact case_2 W H al ad an ab ax af cl cd cn cb cx cf nl nd nn nb ns nf L D N B S F ta tn tc l w hc k1 k2 hv e1 W5 H5 nl5 nd5 nn5 nb5 ns5 nf5 L5 D5 N5 B5 S5 F5 c5 ok5 lb5 (shE l) e3 c6
    · have c5 : ∀ X : World, Bs X (.slice ta tn tc) l → Calls Try.prog 22 #[.slice ta tn tc] X fun e' w' => e' = .returned (.tuple #[.agg ZFC, .int .i64 (flR l)]) ∧ Below X.heap.size X w' := fun X hX => (decfilm_any l ta tn tc X hX hlm).mono (by
        rintro e w' ⟨⟨h, -⟩ | ⟨-, he⟩, hb⟩
        · exact absurd h e2
        · exact ⟨he, hb⟩)
      by_cases e3 : shE l = 0
      · have ok6 : okSh (fW (l, 0)) (fH (l, 0)) (fN (l, 0)) := sheet_ok l e3
        have c6 : ∀ X : World, Bs X (.slice ta tn tc) l → Calls Try.prog 20 #[.slice ta tn tc] X fun e' w' => (∃ a c, e' = .returned (.tuple #[.agg #[.int .i64 (fW (l, 0)), .int .i64 (fH (l, 0)), .slice a (fN (l, 0)) c], .int .i64 0]) ∧ Rw 3 w' a (fN (l, 0)) (fF (l, 0)).L) ∧ Below X.heap.size X w' := fun X hX => (decsheet_any l ta tn tc X hX hlm).mono (by
          rintro e w' ⟨⟨-, a, c, he, h1⟩ | ⟨h2, -⟩, hb⟩
          · exact ⟨⟨a, c, he, h1.rw (by decide)⟩, hb⟩
          · exact absurd e3 h2)
        exact case_1 W H al ad an ab ax af cl cd cn cb cx cf nl nd nn nb ns nf L D N B S F ta tn tc l w hc k1 k2 hv e1 (flR l) e2 c5 (fW (l, 0)) (fH (l, 0)) (fN (l, 0)) (fF (l, 0)).L c6 ok6 (sheet_laid l e3)
      · have c6 : ∀ X : World, Bs X (.slice ta tn tc) l → Calls Try.prog 20 #[.slice ta tn tc] X fun e' w' => e' = .returned (.tuple #[.agg ZSC, .int .i64 (shE l)]) ∧ Below X.heap.size X w' := fun X hX => (decsheet_any l ta tn tc X hX hlm).mono (by
          rintro e w' ⟨⟨h, -⟩ | ⟨-, he⟩, hb⟩
          · exact absurd h e3
          · exact ⟨he, hb⟩)
        exact case_0 W H al ad an ab ax af cl cd cn cb cx cf nl nd nn nb ns nf L D N B S F ta tn tc l w hc k1 k2 hv e1 (flR l) e2 c5 (shE l) e3 c6

end Go.Proofs.Ytgkfoiekminfmaa.filmBackW
