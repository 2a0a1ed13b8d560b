/- FilmWrites: the walk. -/
import Derived.Test.YtgkfoiekminfmaaFf
import Derived.Test.YtgkfoiekminfmaaFc
import Derived.Test.YtgkfoiekminfmaaFh
import Derived.Test.YtgkfoiekminfmaaFi
import Derived.Test.YtgkfoiekminfmaaFn
namespace Go.Proofs.Ytgkfoiekminfmaa.filmWritesW
open Go Go.RowKit Go.Proofs.Ytgkfoiekminfmaa Go.Proofs.Ytgkfoiekminfmaa.Rp Go.Proofs.Ytgkfoiekminfmaa.Re Go.Proofs.Ytgkfoiekminfmaa.Au Go.Proofs.Ytgkfoiekminfmaa.Jw Go.Proofs.Ytgkfoiekminfmaa.Fm
set_option linter.unusedVariables false
set_option linter.unusedSimpArgs false

theorem own_bs_n {base : Nat} {w : World} {v : Value} {l : List UInt8} (h : w.ownsRow base 5 1 v l.length (vals l)) : Bs w v l := own_bs h

theorem encfilm_bs (f : Flm) (p : Pl) (w : World) (hr : FAt w f p) (h0 : okF f) :
    Calls Try.prog 17 #[.agg (FC f p)] w fun e' w' => (∃ b n c, e' = .returned (.tuple #[.slice b n c, .int .i64 0]) ∧ Bs w' (.slice b n c) (filmB f)) ∧ Below w.heap.size w w' := by
  refine (encfilm_any f p w hr).mono ?_
  rintro e w' ⟨⟨hn, -⟩ | ⟨-, b, n, c, rfl, how⟩, hb⟩
  · exact absurd h0 hn
  · exact ⟨⟨b, n, c, rfl, own_bs how⟩, hb⟩

theorem encfilm_nb (f : Flm) (p : Pl) (w : World) (hr : FAt w f p) (h0 : ¬ okF f) :
    Calls Try.prog 17 #[.agg (FC f p)] w fun e' w' => e' = .returned (.tuple #[.slice none 0 0, .int .i64 1]) ∧ Below w.heap.size w w' := by
  refine (encfilm_any f p w hr).mono ?_
  rintro e w' ⟨⟨-, he⟩ | ⟨ho, -⟩, hb⟩
  · exact ⟨he, hb⟩
  · exact absurd ho h0

theorem dsheet_bs (W H : Int) (al : Option Addr) (cl nl : Nat) (L : Nat → Int) (w : World) (hr : Rw 3 w al nl L) (hn : nl ≤ 5000) :
    Calls Try.prog 18 #[.agg #[.int .i64 W, .int .i64 H, .slice al nl cl]] w fun e' w' => (∃ a n c, e' = .returned (.slice a n c) ∧ Bs w' (.slice a n c) (sheetB W H nl L)) ∧ Below w.heap.size w w' := by
  refine (dsheet_any W H al cl nl L w hr hn).mono ?_
  rintro e w' ⟨⟨v, rfl, ho⟩, hb⟩
  obtain ⟨a, c, hv⟩ := own_form ho
  subst hv
  exact ⟨⟨a, _, c, rfl, own_bs ho⟩, hb⟩

theorem dfilm_bs (f : Flm) (p : Pl) (w : World) (h : FAt w f p) (ho : okF f) :
    Calls Try.prog 19 #[.agg (FC f p)] w fun e' w' => (∃ a n c, e' = .returned (.slice a n c) ∧ Bs w' (.slice a n c) (filmB f)) ∧ Below w.heap.size w w' := by
  refine (dfilm_any f p w h ho).mono ?_
  rintro e w' ⟨⟨v, rfl, ho⟩, hb⟩
  obtain ⟨a, c, hv⟩ := own_form ho
  subst hv
  exact ⟨⟨a, _, c, rfl, own_bs ho⟩, hb⟩

set_option maxHeartbeats 16000000 in
set_option maxRecDepth 100000 in
theorem big_l (W H : Int) (al ad an ab ax af : Option Addr) (cl cd cn cb cx cf nl nd nn nb ns nf : Nat) (L D N B S F : Nat → Int) (w : World) (hc : Came w (⟨W, H, nl, nd, nn, nb, ns, nf, L, D, N, B, S, F⟩ : Flm) (⟨al, cl, ad, cd, an, cn, ab, cb, ax, cx, af, cf⟩ : Pl)) (k1 : 5000 < nl) : Calls Try.prog 4 #[.agg #[.int .i64 W, .int .i64 H, .slice al nl cl, .slice ad nd cd, .slice an nn cn, .slice ab nb cb, .slice ax ns cx, .slice af nf cf]] w fun e' w' => e' = .returned (.bool true) ∧ Below w.heap.size w w' := by
  have HC := Lib.hid hc
  clear hc
  have d1 := decide_eq_true (show (5000 : Int) < (nl : Int) by omega)
  go_enter Try.func4, Try.ntmps4
  go_upto_region 1 with fail
  have hR := Au.rows1 w (.cells #[.int .i64 W, .int .i64 H, .slice al nl cl, .slice ad nd cd, .slice an nn cn, .slice ab nb cb, .slice ax ns cx, .slice af nf cf] 29)
  have HUx := Ve.below_n1 w (.cells #[.int .i64 W, .int .i64 H, .slice al nl cl, .slice ad nd cd, .slice an nn cn, .slice ab nb cb, .slice ax ns cx, .slice af nf cf] 29)
  obtain ⟨y0, hy0⟩ : ∃ y0, w.alloc (.cells #[.int .i64 W, .int .i64 H, .slice al nl cl, .slice ad nd cd, .slice an nn cn, .slice ab nb cb, .slice ax ns cx, .slice af nf cf] 29) = y0 := ⟨_, rfl⟩
  rw [hy0] at hR HUx ⊢
  clear hy0
  have HU0 := Lib.hid HUx
  clear HUx
  have hr0_0 := hR
  clear hR
  have c0_0 := cell_of_row _ _ 0 _ _ _ hr0_0
  have c0_1 := cell_of_row _ _ 1 _ _ _ hr0_0
  have c0_2 := cell_of_row _ _ 2 _ _ _ hr0_0
  have c0_3 := cell_of_row _ _ 3 _ _ _ hr0_0
  have c0_4 := cell_of_row _ _ 4 _ _ _ hr0_0
  have c0_5 := cell_of_row _ _ 5 _ _ _ hr0_0
  have c0_6 := cell_of_row _ _ 6 _ _ _ hr0_0
  have c0_7 := cell_of_row _ _ 7 _ _ _ hr0_0
  simp at c0_0 c0_1 c0_2 c0_3 c0_4 c0_5 c0_6 c0_7
  go_wp2_with fail
  refine (awake_any _).mono ?_
  rintro e y1 ⟨rfl, hb1⟩
  clear c0_0 c0_1 c0_2 c0_3 c0_4 c0_5 c0_6 c0_7
  have hr1_0 := (hb1.block _ (lt_heap hr0_0)).trans hr0_0
  have HU1 := Lib.hid (HU0.out.trans (hb1.mono HU0.out.size))
  clear hr0_0 HU0
  go_wp2
  go_ret
  exact ⟨rfl, HU1.out⟩

set_option maxHeartbeats 16000000 in
set_option maxRecDepth 100000 in
theorem big_s (W H : Int) (al ad an ab ax af : Option Addr) (cl cd cn cb cx cf nl nd nn nb ns nf : Nat) (L D N B S F : Nat → Int) (w : World) (hc : Came w (⟨W, H, nl, nd, nn, nb, ns, nf, L, D, N, B, S, F⟩ : Flm) (⟨al, cl, ad, cd, an, cn, ab, cb, ax, cx, af, cf⟩ : Pl)) (k1 : ¬ 5000 < nl) (k2 : 5000 < ns) : Calls Try.prog 4 #[.agg #[.int .i64 W, .int .i64 H, .slice al nl cl, .slice ad nd cd, .slice an nn cn, .slice ab nb cb, .slice ax ns cx, .slice af nf cf]] w fun e' w' => e' = .returned (.bool true) ∧ Below w.heap.size w w' := by
  have HC := Lib.hid hc
  clear hc
  have d1 := decide_eq_false (show ¬ (5000 : Int) < (nl : Int) by omega)
  have d2 := decide_eq_true (show (5000 : Int) < (ns : Int) by omega)
  go_enter Try.func4, Try.ntmps4
  go_upto_region 1 with fail
  have hR := Au.rows1 w (.cells #[.int .i64 W, .int .i64 H, .slice al nl cl, .slice ad nd cd, .slice an nn cn, .slice ab nb cb, .slice ax ns cx, .slice af nf cf] 29)
  have HUx := Ve.below_n1 w (.cells #[.int .i64 W, .int .i64 H, .slice al nl cl, .slice ad nd cd, .slice an nn cn, .slice ab nb cb, .slice ax ns cx, .slice af nf cf] 29)
  obtain ⟨y0, hy0⟩ : ∃ y0, w.alloc (.cells #[.int .i64 W, .int .i64 H, .slice al nl cl, .slice ad nd cd, .slice an nn cn, .slice ab nb cb, .slice ax ns cx, .slice af nf cf] 29) = y0 := ⟨_, rfl⟩
  rw [hy0] at hR HUx ⊢
  clear hy0
  have HU0 := Lib.hid HUx
  clear HUx
  have hr0_0 := hR
  clear hR
  have c0_0 := cell_of_row _ _ 0 _ _ _ hr0_0
  have c0_1 := cell_of_row _ _ 1 _ _ _ hr0_0
  have c0_2 := cell_of_row _ _ 2 _ _ _ hr0_0
  have c0_3 := cell_of_row _ _ 3 _ _ _ hr0_0
  have c0_4 := cell_of_row _ _ 4 _ _ _ hr0_0
  have c0_5 := cell_of_row _ _ 5 _ _ _ hr0_0
  have c0_6 := cell_of_row _ _ 6 _ _ _ hr0_0
  have c0_7 := cell_of_row _ _ 7 _ _ _ hr0_0
  simp at c0_0 c0_1 c0_2 c0_3 c0_4 c0_5 c0_6 c0_7
  go_wp2_with fail
  refine (awake_any _).mono ?_
  rintro e y1 ⟨rfl, hb1⟩
  clear c0_0 c0_1 c0_2 c0_3 c0_4 c0_5 c0_6 c0_7
  have hr1_0 := (hb1.block _ (lt_heap hr0_0)).trans hr0_0
  have HU1 := Lib.hid (HU0.out.trans (hb1.mono HU0.out.size))
  clear hr0_0 HU0
  go_wp2
  go_ret
  exact ⟨rfl, HU1.out⟩

set_option maxHeartbeats 16000000 in
set_option maxRecDepth 100000 in
theorem case_0 (W H : Int) (al ad an ab ax af : Option Addr) (cl cd cn cb cx cf nl nd nn nb ns nf : Nat) (L D N B S F : Nat → Int) (w : World) (hc : Came w (⟨W, H, nl, nd, nn, nb, ns, nf, L, D, N, B, S, F⟩ : Flm) (⟨al, cl, ad, cd, an, cn, ab, cb, ax, cx, af, cf⟩ : Pl)) (k1 : ¬ 5000 < nl) (k2 : ¬ 5000 < ns) (e2 : ¬ okSh W H nl) (e3 : ¬ okF (⟨W, H, nl, nd, nn, nb, ns, nf, L, D, N, B, S, F⟩ : Flm)) : Calls Try.prog 4 #[.agg #[.int .i64 W, .int .i64 H, .slice al nl cl, .slice ad nd cd, .slice an nn cn, .slice ab nb cb, .slice ax ns cx, .slice af nf cf]] w fun e' w' => e' = .returned (.bool true) ∧ Below w.heap.size w w' := by
  have HC := Lib.hid hc
  clear hc
  have d1 := decide_eq_false (show ¬ (5000 : Int) < (nl : Int) by omega)
  have d2 := decide_eq_false (show ¬ (5000 : Int) < (ns : Int) by omega)
  have E2 := Lib.hid e2
  have E3 := Lib.hid e3
  clear e2 e3
  obtain ⟨SBl, hSB⟩ : ∃ x, x = sheetB W H nl L := ⟨_, rfl⟩
  obtain ⟨FBl, hFB⟩ : ∃ x, x = filmB (⟨W, H, nl, nd, nn, nb, ns, nf, L, D, N, B, S, F⟩ : Flm) := ⟨_, rfl⟩
  have HSB := Lib.hid hSB
  have HFB := Lib.hid hFB
  clear hSB hFB
  go_enter Try.func4, Try.ntmps4
  go_upto_region 1 with fail
  have hR := Au.rows1 w (.cells #[.int .i64 W, .int .i64 H, .slice al nl cl, .slice ad nd cd, .slice an nn cn, .slice ab nb cb, .slice ax ns cx, .slice af nf cf] 29)
  have HUx := Ve.below_n1 w (.cells #[.int .i64 W, .int .i64 H, .slice al nl cl, .slice ad nd cd, .slice an nn cn, .slice ab nb cb, .slice ax ns cx, .slice af nf cf] 29)
  obtain ⟨y0, hy0⟩ : ∃ y0, w.alloc (.cells #[.int .i64 W, .int .i64 H, .slice al nl cl, .slice ad nd cd, .slice an nn cn, .slice ab nb cb, .slice ax ns cx, .slice af nf cf] 29) = y0 := ⟨_, rfl⟩
  rw [hy0] at hR HUx ⊢
  clear hy0
  have HU0 := Lib.hid HUx
  clear HUx
  have hr0_0 := hR
  clear hR
  have c0_0 := cell_of_row _ _ 0 _ _ _ hr0_0
  have c0_1 := cell_of_row _ _ 1 _ _ _ hr0_0
  have c0_2 := cell_of_row _ _ 2 _ _ _ hr0_0
  have c0_3 := cell_of_row _ _ 3 _ _ _ hr0_0
  have c0_4 := cell_of_row _ _ 4 _ _ _ hr0_0
  have c0_5 := cell_of_row _ _ 5 _ _ _ hr0_0
  have c0_6 := cell_of_row _ _ 6 _ _ _ hr0_0
  have c0_7 := cell_of_row _ _ 7 _ _ _ hr0_0
  simp at c0_0 c0_1 c0_2 c0_3 c0_4 c0_5 c0_6 c0_7
  go_wp2_with fail
  refine (to_film (⟨W, H, nl, nd, nn, nb, ns, nf, L, D, N, B, S, F⟩ : Flm) (⟨al, cl, ad, cd, an, cn, ab, cb, ax, cx, af, cf⟩ : Pl) _ (HC.out.at_.on HU0.out) HC.out.bl HC.out.bd HC.out.bn HC.out.bb HC.out.bs HC.out.bf HC.out.ks HC.out.kf).mono ?_
  rintro e y1 ⟨⟨⟨al2, cl2, ad2, cd2, an2, cn2, ab2, cb2, ax2, cx2, af2, cf2⟩, rfl, hat⟩, hb1⟩
  clear c0_0 c0_1 c0_2 c0_3 c0_4 c0_5 c0_6 c0_7
  have hr1_0 := (hb1.block _ (lt_heap hr0_0)).trans hr0_0
  have HU1 := Lib.hid (HU0.out.trans (hb1.mono HU0.out.size))
  clear hr0_0 HU0
  have HAT1 := Lib.hid hat
  clear hat
  have c0_0 := cell_of_row _ _ 0 _ _ _ hr1_0
  have c0_1 := cell_of_row _ _ 1 _ _ _ hr1_0
  have c0_2 := cell_of_row _ _ 2 _ _ _ hr1_0
  have c0_3 := cell_of_row _ _ 3 _ _ _ hr1_0
  have c0_4 := cell_of_row _ _ 4 _ _ _ hr1_0
  have c0_5 := cell_of_row _ _ 5 _ _ _ hr1_0
  have c0_6 := cell_of_row _ _ 6 _ _ _ hr1_0
  have c0_7 := cell_of_row _ _ 7 _ _ _ hr1_0
  simp at c0_0 c0_1 c0_2 c0_3 c0_4 c0_5 c0_6 c0_7
  have HA := Lib.hid (heap_alloc_last y1 (.cells #[.int .i64 0, .int .i64 0, .slice none 0 0, .slice none 0 0, .slice none 0 0, .slice none 0 0, .slice none 0 0, .slice none 0 0] 39))
  have hHi := Lib.hid (show (Try.prog.info? 39).map (·.size) = some (#[.int .i64 W, .int .i64 H, .slice al2 nl cl2, .slice ad2 nd cd2, .slice an2 nn cn2, .slice ab2 nb cb2, .slice ax2 ns cx2, .slice af2 nf cf2] : Array Value).size by kernel_rfl)
  have hHz := Lib.hid (show (#[.int .i64 0, .int .i64 0, .slice none 0 0, .slice none 0 0, .slice none 0 0, .slice none 0 0, .slice none 0 0, .slice none 0 0] : Array Value).size = (#[.int .i64 W, .int .i64 H, .slice al2 nl cl2, .slice ad2 nd cd2, .slice an2 nn cn2, .slice ab2 nb cb2, .slice ax2 ns cx2, .slice af2 nf cf2] : Array Value).size from rfl)
  have hHo := Lib.hid (show (#[.int .i64 W, .int .i64 H, .slice al2 nl cl2, .slice ad2 nd cd2, .slice an2 nn cn2, .slice ab2 nb cb2, .slice ax2 ns cx2, .slice af2 nf cf2] : Array Value).all (·.oneCell') = true by simp [Value.oneCell'])
  go_upto_region 4 with (refine Au.wpList_store_row rfl 39 (.tmp 3) (.tmp 21) rfl (y1.alloc (.cells #[.int .i64 0, .int .i64 0, .slice none 0 0, .slice none 0 0, .slice none 0 0, .slice none 0 0, .slice none 0 0, .slice none 0 0] 39)) #[.int .i64 0, .int .i64 0, .slice none 0 0, .slice none 0 0, .slice none 0 0, .slice none 0 0, .slice none 0 0, .slice none 0 0] #[.int .i64 W, .int .i64 H, .slice al2 nl cl2, .slice ad2 nd cd2, .slice an2 nn cn2, .slice ab2 nb cb2, .slice ax2 ns cx2, .slice af2 nf cf2] (y1.heap.size) 39 HA.out rfl rfl hHi.out hHz.out hHo.out ?_)
  clear c0_0 c0_1 c0_2 c0_3 c0_4 c0_5 c0_6 c0_7
  clear hHi hHz hHo
  have hN := setRow_heap _ (y1.heap.size) _ #[.int .i64 W, .int .i64 H, .slice al2 nl cl2, .slice ad2 nd cd2, .slice an2 nn cn2, .slice ab2 nb cb2, .slice ax2 ns cx2, .slice af2 nf cf2] _ _ HA.out
  clear HA
  have hsz := HU1.out.size
  have hb := Ve.below_n1 y1 (.cells #[.int .i64 0, .int .i64 0, .slice none 0 0, .slice none 0 0, .slice none 0 0, .slice none 0 0, .slice none 0 0, .slice none 0 0] 39)
  have HUx := below_setRow (g := y1.heap.size) (HU1.out.trans (hb.mono HU1.out.size)) (by omega) #[.int .i64 W, .int .i64 H, .slice al2 nl cl2, .slice ad2 nd cd2, .slice an2 nn cn2, .slice ab2 nb cb2, .slice ax2 ns cx2, .slice af2 nf cf2]
  have hO : ∀ kk, kk < y1.heap.size → ((y1.alloc (.cells #[.int .i64 0, .int .i64 0, .slice none 0 0, .slice none 0 0, .slice none 0 0, .slice none 0 0, .slice none 0 0, .slice none 0 0] 39)).setRow (y1.heap.size) #[.int .i64 W, .int .i64 H, .slice al2 nl cl2, .slice ad2 nd cd2, .slice an2 nn cn2, .slice ab2 nb cb2, .slice ax2 ns cx2, .slice af2 nf cf2]).heap[kk]? = y1.heap[kk]? := fun kk hk => (setRow_other _ _ _ _ (by omega)).trans (hb.block _ hk)
  obtain ⟨y2, hy2⟩ : ∃ y, (y1.alloc (.cells #[.int .i64 0, .int .i64 0, .slice none 0 0, .slice none 0 0, .slice none 0 0, .slice none 0 0, .slice none 0 0, .slice none 0 0] 39)).setRow (y1.heap.size) #[.int .i64 W, .int .i64 H, .slice al2 nl cl2, .slice ad2 nd cd2, .slice an2 nn cn2, .slice ab2 nb cb2, .slice ax2 ns cx2, .slice af2 nf cf2] = y := ⟨_, rfl⟩
  have hs2 : y2.heap.size = y1.heap.size + 1 := by rw [← hy2]; simp [World.setRow]
  rw [hy2] at hN HUx hO ⊢
  clear hy2 hsz hb
  have HU2 := Lib.hid HUx
  clear HUx
  have hl2_0 := lt_heap hr1_0
  have hr2_0 := (hO _ hl2_0).trans hr1_0
  have hr2_1 := hN
  have hKK := hO
  clear hN hO
  clear hr1_0 HU1
  have HAT2 := Lib.hid (show FAt y2 (⟨W, H, nl, nd, nn, nb, ns, nf, L, D, N, B, S, F⟩ : Flm) (⟨al2, cl2, ad2, cd2, an2, cn2, ab2, cb2, ax2, cx2, af2, cf2⟩ : Pl) from ⟨(HAT1.out.l.low.keep (fun b hb => hKK b hb)).rw (by decide), (HAT1.out.d.low.keep (fun b hb => hKK b hb)).rw (by decide), (HAT1.out.n.low.keep (fun b hb => hKK b hb)).rw (by decide), (HAT1.out.b.low.keep (fun b hb => hKK b hb)).rw (by decide), (HAT1.out.s.low.keep (fun b hb => hKK b hb)).rw (by decide), (HAT1.out.f.low.keep (fun b hb => hKK b hb)).rw (by decide)⟩)
  clear HAT1 hKK
  have c1_0 := cell_of_row _ _ 0 _ _ _ hr2_1
  have c1_1 := cell_of_row _ _ 1 _ _ _ hr2_1
  have c1_2 := cell_of_row _ _ 2 _ _ _ hr2_1
  have c1_3 := cell_of_row _ _ 3 _ _ _ hr2_1
  have c1_4 := cell_of_row _ _ 4 _ _ _ hr2_1
  have c1_5 := cell_of_row _ _ 5 _ _ _ hr2_1
  have c1_6 := cell_of_row _ _ 6 _ _ _ hr2_1
  have c1_7 := cell_of_row _ _ 7 _ _ _ hr2_1
  simp at c1_0 c1_1 c1_2 c1_3 c1_4 c1_5 c1_6 c1_7
  go_wp2_with fail
  refine (encsheet_no W H al2 cl2 nl L _ E2.out).mono ?_
  rintro e y3 ⟨rfl, hb3⟩
  clear c1_0 c1_1 c1_2 c1_3 c1_4 c1_5 c1_6 c1_7
  have hr3_0 := (hb3.block _ (lt_heap hr2_0)).trans hr2_0
  have hr3_1 := (hb3.block _ (lt_heap hr2_1)).trans hr2_1
  have HU3 := Lib.hid (HU2.out.trans (hb3.mono HU2.out.size))
  clear hr2_0 hr2_1 HU2
  have HAT3 := Lib.hid (HAT2.out.on hb3)
  clear HAT2
  have c1_0 := cell_of_row _ _ 0 _ _ _ hr3_1
  have c1_1 := cell_of_row _ _ 1 _ _ _ hr3_1
  have c1_2 := cell_of_row _ _ 2 _ _ _ hr3_1
  have c1_3 := cell_of_row _ _ 3 _ _ _ hr3_1
  have c1_4 := cell_of_row _ _ 4 _ _ _ hr3_1
  have c1_5 := cell_of_row _ _ 5 _ _ _ hr3_1
  have c1_6 := cell_of_row _ _ 6 _ _ _ hr3_1
  have c1_7 := cell_of_row _ _ 7 _ _ _ hr3_1
  simp at c1_0 c1_1 c1_2 c1_3 c1_4 c1_5 c1_6 c1_7
  go_wp2_with fail
  refine (encfilm_nb (⟨W, H, nl, nd, nn, nb, ns, nf, L, D, N, B, S, F⟩ : Flm) (⟨al2, cl2, ad2, cd2, an2, cn2, ab2, cb2, ax2, cx2, af2, cf2⟩ : Pl) _ HAT3.out E3.out).mono ?_
  rintro e y4 ⟨rfl, hb4⟩
  clear c1_0 c1_1 c1_2 c1_3 c1_4 c1_5 c1_6 c1_7
  have hr4_0 := (hb4.block _ (lt_heap hr3_0)).trans hr3_0
  have hr4_1 := (hb4.block _ (lt_heap hr3_1)).trans hr3_1
  have HU4 := Lib.hid (HU3.out.trans (hb4.mono HU3.out.size))
  clear hr3_0 hr3_1 HU3
  have HAT4 := Lib.hid (HAT3.out.on hb4)
  clear HAT3
  have c0_0 := cell_of_row _ _ 0 _ _ _ hr4_0
  have c0_1 := cell_of_row _ _ 1 _ _ _ hr4_0
  have c0_2 := cell_of_row _ _ 2 _ _ _ hr4_0
  have c0_3 := cell_of_row _ _ 3 _ _ _ hr4_0
  have c0_4 := cell_of_row _ _ 4 _ _ _ hr4_0
  have c0_5 := cell_of_row _ _ 5 _ _ _ hr4_0
  have c0_6 := cell_of_row _ _ 6 _ _ _ hr4_0
  have c0_7 := cell_of_row _ _ 7 _ _ _ hr4_0
  simp at c0_0 c0_1 c0_2 c0_3 c0_4 c0_5 c0_6 c0_7
  go_wp2_with fail
  refine (drsheet_any W H al nl cl _).mono ?_
  rintro e y5 ⟨rfl, hb5⟩
  clear c0_0 c0_1 c0_2 c0_3 c0_4 c0_5 c0_6 c0_7
  have hr5_0 := (hb5.block _ (lt_heap hr4_0)).trans hr4_0
  have hr5_1 := (hb5.block _ (lt_heap hr4_1)).trans hr4_1
  have HU5 := Lib.hid (HU4.out.trans (hb5.mono HU4.out.size))
  clear hr4_0 hr4_1 HU4
  have HAT5 := Lib.hid (HAT4.out.on hb5)
  clear HAT4
  rw [decide_eq_false E2.out]
  have c0_0 := cell_of_row _ _ 0 _ _ _ hr5_0
  have c0_1 := cell_of_row _ _ 1 _ _ _ hr5_0
  have c0_2 := cell_of_row _ _ 2 _ _ _ hr5_0
  have c0_3 := cell_of_row _ _ 3 _ _ _ hr5_0
  have c0_4 := cell_of_row _ _ 4 _ _ _ hr5_0
  have c0_5 := cell_of_row _ _ 5 _ _ _ hr5_0
  have c0_6 := cell_of_row _ _ 6 _ _ _ hr5_0
  have c0_7 := cell_of_row _ _ 7 _ _ _ hr5_0
  simp at c0_0 c0_1 c0_2 c0_3 c0_4 c0_5 c0_6 c0_7
  go_wp2_with fail
  refine (dright_any (⟨W, H, nl, nd, nn, nb, ns, nf, L, D, N, B, S, F⟩ : Flm) (⟨al, cl, ad, cd, an, cn, ab, cb, ax, cx, af, cf⟩ : Pl) _ (HC.out.at_.on HU5.out)).mono ?_
  rintro e y6 ⟨rfl, hb6⟩
  clear c0_0 c0_1 c0_2 c0_3 c0_4 c0_5 c0_6 c0_7
  have hr6_0 := (hb6.block _ (lt_heap hr5_0)).trans hr5_0
  have hr6_1 := (hb6.block _ (lt_heap hr5_1)).trans hr5_1
  have HU6 := Lib.hid (HU5.out.trans (hb6.mono HU5.out.size))
  clear hr5_0 hr5_1 HU5
  have HAT6 := Lib.hid (HAT5.out.on hb6)
  clear HAT5
  rw [decide_eq_false E3.out]
  go_upto_region 8 with fail
  refine wp_region_held_drew (S := fun y => y.heap[w.heap.size]? = some (.cells #[.int .i64 W, .int .i64 H, .slice al nl cl, .slice ad nd cd, .slice an nn cn, .slice ab nb cb, .slice ax ns cx, .slice af nf cf] 29 (0, 0))) (by kernel_rfl) (hr6_0) (fun hS0 => ?_)
  obtain ⟨z0, hz0_⟩ : ∃ y, y6.drew = y := ⟨_, rfl⟩
  have HV0 := Lib.hid (show Below w.heap.size w z0 by rw [← hz0_]; exact HU6.out.drew)
  rw [hz0_] at hS0 ⊢
  clear hz0_
  refine wpAnyH_ready (rs := [0]) (by kernel_rfl) (by simp) ?_
  refine AllReadyH.cons rfl (fun K hK => ?_) AllReadyH.nil
  go_simp
  go_wp2_with (go_at_call 7; refine (awake_any _).mono ?_; rintro e z1 ⟨rfl, hb1⟩)
  have HV1 := Lib.hid (HV0.out.trans (hb1.mono HV0.out.size))
  refine hK.out _ _ ((hb1.block _ (lt_heap hS0)).trans hS0) (fun hS1 => ?_)
  clear hK K
  refine wpAnyH_take (i := 1) (v := ?_) rfl (by kernel_rfl) (by kernel_rfl) (by kernel_rfl) (fun _ _ _ h => h) (Or.inl ⟨by kernel_rfl, by (intro wz hSz; go_simp; try with_reducible rfl)⟩) hS1 ?_
  go_simp
  refine wpAnyH_take (i := 2) (v := ?_) rfl (by kernel_rfl) (by kernel_rfl) (by kernel_rfl) (fun _ _ _ h => h) (Or.inl ⟨by kernel_rfl, by (intro wz hSz; go_simp; try with_reducible rfl)⟩) hS1 ?_
  go_simp
  refine wpAnyH_take (i := 3) (v := ?_) rfl (by kernel_rfl) (by kernel_rfl) (by kernel_rfl) (fun _ _ _ h => h) (Or.inl ⟨by kernel_rfl, by (intro wz hSz; go_simp; try with_reducible rfl)⟩) hS1 ?_
  go_simp
  refine wpAnyH_take (i := 4) (v := ?_) rfl (by kernel_rfl) (by kernel_rfl) (by kernel_rfl) (fun _ _ _ h => h) (Or.inl ⟨by kernel_rfl, by (intro wz hSz; go_simp; try with_reducible rfl)⟩) hS1 ?_
  go_simp
  refine wpAnyH_take (i := 5) (v := undef) rfl (by kernel_rfl) (by kernel_rfl) (by kernel_rfl) (fun _ _ _ h => h) (Or.inr ⟨by kernel_rfl, rfl⟩) hS1 ?_
  go_simp
  refine wpAnyH_take (i := 6) (v := undef) rfl (by kernel_rfl) (by kernel_rfl) (by kernel_rfl) (fun _ _ _ h => h) (Or.inr ⟨by kernel_rfl, rfl⟩) hS1 ?_
  go_simp
  refine wpAnyH_take (i := 7) (v := undef) rfl (by kernel_rfl) (by kernel_rfl) (by kernel_rfl) (fun _ _ _ h => h) (Or.inr ⟨by kernel_rfl, rfl⟩) hS1 ?_
  go_simp
  refine wpAnyH_take (i := 8) (v := undef) rfl (by kernel_rfl) (by kernel_rfl) (by kernel_rfl) (fun _ _ _ h => h) (Or.inr ⟨by kernel_rfl, rfl⟩) hS1 ?_
  go_simp
  refine wpAnyH_take (i := 9) (v := undef) rfl (by kernel_rfl) (by kernel_rfl) (by kernel_rfl) (fun _ _ _ h => h) (Or.inr ⟨by kernel_rfl, rfl⟩) hS1 ?_
  go_simp
  refine wpAnyH_take (i := 10) (v := undef) rfl (by kernel_rfl) (by kernel_rfl) (by kernel_rfl) (fun _ _ _ h => h) (Or.inr ⟨by kernel_rfl, rfl⟩) hS1 ?_
  go_simp
  refine wpAnyH_take (i := 11) (v := undef) rfl (by kernel_rfl) (by kernel_rfl) (by kernel_rfl) (fun _ _ _ h => h) (Or.inr ⟨by kernel_rfl, rfl⟩) hS1 ?_
  go_simp
  refine wpAnyH_take (i := 12) (v := ?_) rfl (by kernel_rfl) (by kernel_rfl) (by kernel_rfl) (fun _ _ _ h => h) (Or.inl ⟨by kernel_rfl, by (intro wz hSz; go_simp; try with_reducible rfl)⟩) hS1 ?_
  go_simp
  refine wpAnyH_take (i := 13) (v := ?_) rfl (by kernel_rfl) (by kernel_rfl) (by kernel_rfl) (fun _ _ _ h => h) (Or.inl ⟨by kernel_rfl, by (intro wz hSz; go_simp; try with_reducible rfl)⟩) hS1 ?_
  go_simp
  refine wpAnyH_take (i := 14) (v := ?_) rfl (by kernel_rfl) (by kernel_rfl) (by kernel_rfl) (fun _ _ _ h => h) (Or.inl ⟨by kernel_rfl, by (intro wz hSz; go_simp; try with_reducible rfl)⟩) hS1 ?_
  go_simp
  refine wpAnyH_take (i := 15) (v := ?_) rfl (by kernel_rfl) (by kernel_rfl) (by kernel_rfl) (fun _ _ _ h => h) (Or.inl ⟨by kernel_rfl, by (intro wz hSz; go_simp; try with_reducible rfl)⟩) hS1 ?_
  go_simp
  refine wpAnyH_take (i := 16) (v := ?_) rfl (by kernel_rfl) (by kernel_rfl) (by kernel_rfl) (fun _ _ _ h => h) (Or.inl ⟨by kernel_rfl, by (intro wz hSz; go_simp; try with_reducible rfl)⟩) hS1 ?_
  go_simp
  refine wpAnyH_take (i := 17) (v := ?_) rfl (by kernel_rfl) (by kernel_rfl) (by kernel_rfl) (fun _ _ _ h => h) (Or.inl ⟨by kernel_rfl, by (intro wz hSz; go_simp; try with_reducible rfl)⟩) hS1 ?_
  go_simp
  refine wpAnyH_take (i := 18) (v := undef) rfl (by kernel_rfl) (by kernel_rfl) (by kernel_rfl) (fun _ _ _ h => h) (Or.inr ⟨by kernel_rfl, rfl⟩) hS1 ?_
  go_simp
  refine wpAnyH_take (i := 19) (v := undef) rfl (by kernel_rfl) (by kernel_rfl) (by kernel_rfl) (fun _ _ _ h => h) (Or.inr ⟨by kernel_rfl, rfl⟩) hS1 ?_
  go_simp
  refine wpAnyH_take (i := 20) (v := undef) rfl (by kernel_rfl) (by kernel_rfl) (by kernel_rfl) (fun _ _ _ h => h) (Or.inr ⟨by kernel_rfl, rfl⟩) hS1 ?_
  go_simp
  refine wpAnyH_take (i := 21) (v := undef) rfl (by kernel_rfl) (by kernel_rfl) (by kernel_rfl) (fun _ _ _ h => h) (Or.inr ⟨by kernel_rfl, rfl⟩) hS1 ?_
  go_simp
  refine wpAnyH_take (i := 22) (v := undef) rfl (by kernel_rfl) (by kernel_rfl) (by kernel_rfl) (fun _ _ _ h => h) (Or.inr ⟨by kernel_rfl, rfl⟩) hS1 ?_
  go_simp
  refine wpAnyH_take (i := 23) (v := undef) rfl (by kernel_rfl) (by kernel_rfl) (by kernel_rfl) (fun _ _ _ h => h) (Or.inr ⟨by kernel_rfl, rfl⟩) hS1 ?_
  go_simp
  refine wpAnyH_take (i := 24) (v := ?_) rfl (by kernel_rfl) (by kernel_rfl) (by kernel_rfl) (fun _ _ _ h => h) (Or.inl ⟨by kernel_rfl, by (intro wz hSz; go_simp; try with_reducible rfl)⟩) hS1 ?_
  go_simp
  refine wpAnyH_take (i := 25) (v := ?_) rfl (by kernel_rfl) (by kernel_rfl) (by kernel_rfl) (fun _ _ _ h => h) (Or.inl ⟨by kernel_rfl, by (intro wz hSz; go_simp; try with_reducible rfl)⟩) hS1 ?_
  go_simp
  refine wpAnyH_take (i := 26) (v := ?_) rfl (by kernel_rfl) (by kernel_rfl) (by kernel_rfl) (fun _ _ _ h => h) (Or.inl ⟨by kernel_rfl, by (intro wz hSz; go_simp; try with_reducible rfl)⟩) hS1 ?_
  go_simp
  refine wpAnyH_take (i := 27) (v := ?_) rfl (by kernel_rfl) (by kernel_rfl) (by kernel_rfl) (fun _ _ _ h => h) (Or.inl ⟨by kernel_rfl, by (intro wz hSz; go_simp; try with_reducible rfl)⟩) hS1 ?_
  go_simp
  refine wpAnyH_take (i := 28) (v := ?_) rfl (by kernel_rfl) (by kernel_rfl) (by kernel_rfl) (fun _ _ _ h => h) (Or.inl ⟨by kernel_rfl, by (intro wz hSz; go_simp; try with_reducible rfl)⟩) hS1 ?_
  go_simp
  refine wpAnyH_take (i := 29) (v := ?_) rfl (by kernel_rfl) (by kernel_rfl) (by kernel_rfl) (fun _ _ _ h => h) (Or.inl ⟨by kernel_rfl, by (intro wz hSz; go_simp; try with_reducible rfl)⟩) hS1 ?_
  go_simp
  refine wpAnyH_take (i := 30) (v := ?_) rfl (by kernel_rfl) (by kernel_rfl) (by kernel_rfl) (fun _ _ _ h => h) (Or.inl ⟨by kernel_rfl, by (intro wz hSz; go_simp; try with_reducible rfl)⟩) hS1 ?_
  go_simp
  refine wpAnyH_take (i := 31) (v := ?_) rfl (by kernel_rfl) (by kernel_rfl) (by kernel_rfl) (fun _ _ _ h => h) (Or.inl ⟨by kernel_rfl, by (intro wz hSz; go_simp; try with_reducible rfl)⟩) hS1 ?_
  go_simp
  refine wpAnyH_take (i := 32) (v := ?_) rfl (by kernel_rfl) (by kernel_rfl) (by kernel_rfl) (fun _ _ _ h => h) (Or.inl ⟨by kernel_rfl, by (intro wz hSz; go_simp; try with_reducible rfl)⟩) hS1 ?_
  go_simp
  refine wpAnyH_take (i := 33) (v := ?_) rfl (by kernel_rfl) (by kernel_rfl) (by kernel_rfl) (fun _ _ _ h => h) (Or.inl ⟨by kernel_rfl, by (intro wz hSz; go_simp; try with_reducible rfl)⟩) hS1 ?_
  go_simp
  refine wpAnyH_take (i := 34) (v := ?_) rfl (by kernel_rfl) (by kernel_rfl) (by kernel_rfl) (fun _ _ _ h => h) (Or.inl ⟨by kernel_rfl, by (intro wz hSz; go_simp; try with_reducible rfl)⟩) hS1 ?_
  go_simp
  refine wpAnyH_take (i := 35) (v := ?_) rfl (by kernel_rfl) (by kernel_rfl) (by kernel_rfl) (fun _ _ _ h => h) (Or.inl ⟨by kernel_rfl, by (intro wz hSz; go_simp; try with_reducible rfl)⟩) hS1 ?_
  go_simp
  refine wpAnyH_take (i := 36) (v := ?_) rfl (by kernel_rfl) (by kernel_rfl) (by kernel_rfl) (fun _ _ _ h => h) (Or.inl ⟨by kernel_rfl, by (intro wz hSz; go_simp; try with_reducible rfl)⟩) hS1 ?_
  go_simp
  refine wpAnyH_take (i := 37) (v := ?_) rfl (by kernel_rfl) (by kernel_rfl) (by kernel_rfl) (fun _ _ _ h => h) (Or.inl ⟨by kernel_rfl, by (intro wz hSz; go_simp; try with_reducible rfl)⟩) hS1 ?_
  go_simp
  refine wpAnyH_take (i := 38) (v := ?_) rfl (by kernel_rfl) (by kernel_rfl) (by kernel_rfl) (fun _ _ _ h => h) (Or.inl ⟨by kernel_rfl, by (intro wz hSz; go_simp; try with_reducible rfl)⟩) hS1 ?_
  go_simp
  refine wpAnyH_take (i := 39) (v := ?_) rfl (by kernel_rfl) (by kernel_rfl) (by kernel_rfl) (fun _ _ _ h => h) (Or.inl ⟨by kernel_rfl, by (intro wz hSz; go_simp; try with_reducible rfl)⟩) hS1 ?_
  go_simp
  refine wpAnyH_take (i := 40) (v := ?_) rfl (by kernel_rfl) (by kernel_rfl) (by kernel_rfl) (fun _ _ _ h => h) (Or.inl ⟨by kernel_rfl, by (intro wz hSz; go_simp; try with_reducible rfl)⟩) hS1 ?_
  go_simp
  refine wpAnyH_take (i := 41) (v := ?_) rfl (by kernel_rfl) (by kernel_rfl) (by kernel_rfl) (fun _ _ _ h => h) (Or.inl ⟨by kernel_rfl, by (intro wz hSz; go_simp; try with_reducible rfl)⟩) hS1 ?_
  go_simp
  refine wpAnyH_take (i := 42) (v := ?_) rfl (by kernel_rfl) (by kernel_rfl) (by kernel_rfl) (fun _ _ _ h => h) (Or.inl ⟨by kernel_rfl, by (intro wz hSz; go_simp; try with_reducible rfl)⟩) hS1 ?_
  go_simp
  refine wpAnyH_take (i := 43) (v := ?_) rfl (by kernel_rfl) (by kernel_rfl) (by kernel_rfl) (fun _ _ _ h => h) (Or.inl ⟨by kernel_rfl, by (intro wz hSz; go_simp; try with_reducible rfl)⟩) hS1 ?_
  go_simp
  refine wpAnyH_take (i := 44) (v := ?_) rfl (by kernel_rfl) (by kernel_rfl) (by kernel_rfl) (fun _ _ _ h => h) (Or.inl ⟨by kernel_rfl, by (intro wz hSz; go_simp; try with_reducible rfl)⟩) hS1 ?_
  go_simp
  refine wpAnyH_done (by kernel_rfl) ?_ _
  go_wp2
  go_ret
  exact ⟨rfl, HV1.out⟩

set_option maxHeartbeats 16000000 in
set_option maxRecDepth 100000 in
theorem case_1 (W H : Int) (al ad an ab ax af : Option Addr) (cl cd cn cb cx cf nl nd nn nb ns nf : Nat) (L D N B S F : Nat → Int) (w : World) (hc : Came w (⟨W, H, nl, nd, nn, nb, ns, nf, L, D, N, B, S, F⟩ : Flm) (⟨al, cl, ad, cd, an, cn, ab, cb, ax, cx, af, cf⟩ : Pl)) (k1 : ¬ 5000 < nl) (k2 : ¬ 5000 < ns) (e2 : okSh W H nl) (e3 : ¬ okF (⟨W, H, nl, nd, nn, nb, ns, nf, L, D, N, B, S, F⟩ : Flm)) : Calls Try.prog 4 #[.agg #[.int .i64 W, .int .i64 H, .slice al nl cl, .slice ad nd cd, .slice an nn cn, .slice ab nb cb, .slice ax ns cx, .slice af nf cf]] w fun e' w' => e' = .returned (.bool true) ∧ Below w.heap.size w w' := by
  have HC := Lib.hid hc
  clear hc
  have d1 := decide_eq_false (show ¬ (5000 : Int) < (nl : Int) by omega)
  have d2 := decide_eq_false (show ¬ (5000 : Int) < (ns : Int) by omega)
  have E2 := Lib.hid e2
  have E3 := Lib.hid e3
  clear e2 e3
  obtain ⟨SBl, hSB⟩ : ∃ x, x = sheetB W H nl L := ⟨_, rfl⟩
  obtain ⟨FBl, hFB⟩ : ∃ x, x = filmB (⟨W, H, nl, nd, nn, nb, ns, nf, L, D, N, B, S, F⟩ : Flm) := ⟨_, rfl⟩
  have HSB := Lib.hid hSB
  have HFB := Lib.hid hFB
  clear hSB hFB
  have hnl5 : nl ≤ 5000 := by have := okSz_mul E2.out.1; have := E2.out.2; omega
  go_enter Try.func4, Try.ntmps4
  go_upto_region 1 with fail
  have hR := Au.rows1 w (.cells #[.int .i64 W, .int .i64 H, .slice al nl cl, .slice ad nd cd, .slice an nn cn, .slice ab nb cb, .slice ax ns cx, .slice af nf cf] 29)
  have HUx := Ve.below_n1 w (.cells #[.int .i64 W, .int .i64 H, .slice al nl cl, .slice ad nd cd, .slice an nn cn, .slice ab nb cb, .slice ax ns cx, .slice af nf cf] 29)
  obtain ⟨y0, hy0⟩ : ∃ y0, w.alloc (.cells #[.int .i64 W, .int .i64 H, .slice al nl cl, .slice ad nd cd, .slice an nn cn, .slice ab nb cb, .slice ax ns cx, .slice af nf cf] 29) = y0 := ⟨_, rfl⟩
  rw [hy0] at hR HUx ⊢
  clear hy0
  have HU0 := Lib.hid HUx
  clear HUx
  have hr0_0 := hR
  clear hR
  have c0_0 := cell_of_row _ _ 0 _ _ _ hr0_0
  have c0_1 := cell_of_row _ _ 1 _ _ _ hr0_0
  have c0_2 := cell_of_row _ _ 2 _ _ _ hr0_0
  have c0_3 := cell_of_row _ _ 3 _ _ _ hr0_0
  have c0_4 := cell_of_row _ _ 4 _ _ _ hr0_0
  have c0_5 := cell_of_row _ _ 5 _ _ _ hr0_0
  have c0_6 := cell_of_row _ _ 6 _ _ _ hr0_0
  have c0_7 := cell_of_row _ _ 7 _ _ _ hr0_0
  simp at c0_0 c0_1 c0_2 c0_3 c0_4 c0_5 c0_6 c0_7
  go_wp2_with fail
  refine (to_film (⟨W, H, nl, nd, nn, nb, ns, nf, L, D, N, B, S, F⟩ : Flm) (⟨al, cl, ad, cd, an, cn, ab, cb, ax, cx, af, cf⟩ : Pl) _ (HC.out.at_.on HU0.out) HC.out.bl HC.out.bd HC.out.bn HC.out.bb HC.out.bs HC.out.bf HC.out.ks HC.out.kf).mono ?_
  rintro e y1 ⟨⟨⟨al2, cl2, ad2, cd2, an2, cn2, ab2, cb2, ax2, cx2, af2, cf2⟩, rfl, hat⟩, hb1⟩
  clear c0_0 c0_1 c0_2 c0_3 c0_4 c0_5 c0_6 c0_7
  have hr1_0 := (hb1.block _ (lt_heap hr0_0)).trans hr0_0
  have HU1 := Lib.hid (HU0.out.trans (hb1.mono HU0.out.size))
  clear hr0_0 HU0
  have HAT1 := Lib.hid hat
  clear hat
  have c0_0 := cell_of_row _ _ 0 _ _ _ hr1_0
  have c0_1 := cell_of_row _ _ 1 _ _ _ hr1_0
  have c0_2 := cell_of_row _ _ 2 _ _ _ hr1_0
  have c0_3 := cell_of_row _ _ 3 _ _ _ hr1_0
  have c0_4 := cell_of_row _ _ 4 _ _ _ hr1_0
  have c0_5 := cell_of_row _ _ 5 _ _ _ hr1_0
  have c0_6 := cell_of_row _ _ 6 _ _ _ hr1_0
  have c0_7 := cell_of_row _ _ 7 _ _ _ hr1_0
  simp at c0_0 c0_1 c0_2 c0_3 c0_4 c0_5 c0_6 c0_7
  have HA := Lib.hid (heap_alloc_last y1 (.cells #[.int .i64 0, .int .i64 0, .slice none 0 0, .slice none 0 0, .slice none 0 0, .slice none 0 0, .slice none 0 0, .slice none 0 0] 39))
  have hHi := Lib.hid (show (Try.prog.info? 39).map (·.size) = some (#[.int .i64 W, .int .i64 H, .slice al2 nl cl2, .slice ad2 nd cd2, .slice an2 nn cn2, .slice ab2 nb cb2, .slice ax2 ns cx2, .slice af2 nf cf2] : Array Value).size by kernel_rfl)
  have hHz := Lib.hid (show (#[.int .i64 0, .int .i64 0, .slice none 0 0, .slice none 0 0, .slice none 0 0, .slice none 0 0, .slice none 0 0, .slice none 0 0] : Array Value).size = (#[.int .i64 W, .int .i64 H, .slice al2 nl cl2, .slice ad2 nd cd2, .slice an2 nn cn2, .slice ab2 nb cb2, .slice ax2 ns cx2, .slice af2 nf cf2] : Array Value).size from rfl)
  have hHo := Lib.hid (show (#[.int .i64 W, .int .i64 H, .slice al2 nl cl2, .slice ad2 nd cd2, .slice an2 nn cn2, .slice ab2 nb cb2, .slice ax2 ns cx2, .slice af2 nf cf2] : Array Value).all (·.oneCell') = true by simp [Value.oneCell'])
  go_upto_region 4 with (refine Au.wpList_store_row rfl 39 (.tmp 3) (.tmp 21) rfl (y1.alloc (.cells #[.int .i64 0, .int .i64 0, .slice none 0 0, .slice none 0 0, .slice none 0 0, .slice none 0 0, .slice none 0 0, .slice none 0 0] 39)) #[.int .i64 0, .int .i64 0, .slice none 0 0, .slice none 0 0, .slice none 0 0, .slice none 0 0, .slice none 0 0, .slice none 0 0] #[.int .i64 W, .int .i64 H, .slice al2 nl cl2, .slice ad2 nd cd2, .slice an2 nn cn2, .slice ab2 nb cb2, .slice ax2 ns cx2, .slice af2 nf cf2] (y1.heap.size) 39 HA.out rfl rfl hHi.out hHz.out hHo.out ?_)
  clear c0_0 c0_1 c0_2 c0_3 c0_4 c0_5 c0_6 c0_7
  clear hHi hHz hHo
  have hN := setRow_heap _ (y1.heap.size) _ #[.int .i64 W, .int .i64 H, .slice al2 nl cl2, .slice ad2 nd cd2, .slice an2 nn cn2, .slice ab2 nb cb2, .slice ax2 ns cx2, .slice af2 nf cf2] _ _ HA.out
  clear HA
  have hsz := HU1.out.size
  have hb := Ve.below_n1 y1 (.cells #[.int .i64 0, .int .i64 0, .slice none 0 0, .slice none 0 0, .slice none 0 0, .slice none 0 0, .slice none 0 0, .slice none 0 0] 39)
  have HUx := below_setRow (g := y1.heap.size) (HU1.out.trans (hb.mono HU1.out.size)) (by omega) #[.int .i64 W, .int .i64 H, .slice al2 nl cl2, .slice ad2 nd cd2, .slice an2 nn cn2, .slice ab2 nb cb2, .slice ax2 ns cx2, .slice af2 nf cf2]
  have hO : ∀ kk, kk < y1.heap.size → ((y1.alloc (.cells #[.int .i64 0, .int .i64 0, .slice none 0 0, .slice none 0 0, .slice none 0 0, .slice none 0 0, .slice none 0 0, .slice none 0 0] 39)).setRow (y1.heap.size) #[.int .i64 W, .int .i64 H, .slice al2 nl cl2, .slice ad2 nd cd2, .slice an2 nn cn2, .slice ab2 nb cb2, .slice ax2 ns cx2, .slice af2 nf cf2]).heap[kk]? = y1.heap[kk]? := fun kk hk => (setRow_other _ _ _ _ (by omega)).trans (hb.block _ hk)
  obtain ⟨y2, hy2⟩ : ∃ y, (y1.alloc (.cells #[.int .i64 0, .int .i64 0, .slice none 0 0, .slice none 0 0, .slice none 0 0, .slice none 0 0, .slice none 0 0, .slice none 0 0] 39)).setRow (y1.heap.size) #[.int .i64 W, .int .i64 H, .slice al2 nl cl2, .slice ad2 nd cd2, .slice an2 nn cn2, .slice ab2 nb cb2, .slice ax2 ns cx2, .slice af2 nf cf2] = y := ⟨_, rfl⟩
  have hs2 : y2.heap.size = y1.heap.size + 1 := by rw [← hy2]; simp [World.setRow]
  rw [hy2] at hN HUx hO ⊢
  clear hy2 hsz hb
  have HU2 := Lib.hid HUx
  clear HUx
  have hl2_0 := lt_heap hr1_0
  have hr2_0 := (hO _ hl2_0).trans hr1_0
  have hr2_1 := hN
  have hKK := hO
  clear hN hO
  clear hr1_0 HU1
  have HAT2 := Lib.hid (show FAt y2 (⟨W, H, nl, nd, nn, nb, ns, nf, L, D, N, B, S, F⟩ : Flm) (⟨al2, cl2, ad2, cd2, an2, cn2, ab2, cb2, ax2, cx2, af2, cf2⟩ : Pl) from ⟨(HAT1.out.l.low.keep (fun b hb => hKK b hb)).rw (by decide), (HAT1.out.d.low.keep (fun b hb => hKK b hb)).rw (by decide), (HAT1.out.n.low.keep (fun b hb => hKK b hb)).rw (by decide), (HAT1.out.b.low.keep (fun b hb => hKK b hb)).rw (by decide), (HAT1.out.s.low.keep (fun b hb => hKK b hb)).rw (by decide), (HAT1.out.f.low.keep (fun b hb => hKK b hb)).rw (by decide)⟩)
  clear HAT1 hKK
  have c1_0 := cell_of_row _ _ 0 _ _ _ hr2_1
  have c1_1 := cell_of_row _ _ 1 _ _ _ hr2_1
  have c1_2 := cell_of_row _ _ 2 _ _ _ hr2_1
  have c1_3 := cell_of_row _ _ 3 _ _ _ hr2_1
  have c1_4 := cell_of_row _ _ 4 _ _ _ hr2_1
  have c1_5 := cell_of_row _ _ 5 _ _ _ hr2_1
  have c1_6 := cell_of_row _ _ 6 _ _ _ hr2_1
  have c1_7 := cell_of_row _ _ 7 _ _ _ hr2_1
  simp at c1_0 c1_1 c1_2 c1_3 c1_4 c1_5 c1_6 c1_7
  go_wp2_with fail
  refine (encsheet_ok W H al2 cl2 nl L _ HAT2.out.l E2.out).mono ?_
  rintro e y3 ⟨⟨ba, bn, bc, rfl, how⟩, hb3⟩
  clear c1_0 c1_1 c1_2 c1_3 c1_4 c1_5 c1_6 c1_7
  have hr3_0 := (hb3.block _ (lt_heap hr2_0)).trans hr2_0
  have hr3_1 := (hb3.block _ (lt_heap hr2_1)).trans hr2_1
  have HU3 := Lib.hid (HU2.out.trans (hb3.mono HU2.out.size))
  clear hr2_0 hr2_1 HU2
  have HAT3 := Lib.hid (HAT2.out.on hb3)
  clear HAT2
  have HA3 := Lib.hid (show Bs y3 (.slice ba bn bc) SBl by rw [HSB.out]; exact own_bs_n how)
  clear how
  have c1_0 := cell_of_row _ _ 0 _ _ _ hr3_1
  have c1_1 := cell_of_row _ _ 1 _ _ _ hr3_1
  have c1_2 := cell_of_row _ _ 2 _ _ _ hr3_1
  have c1_3 := cell_of_row _ _ 3 _ _ _ hr3_1
  have c1_4 := cell_of_row _ _ 4 _ _ _ hr3_1
  have c1_5 := cell_of_row _ _ 5 _ _ _ hr3_1
  have c1_6 := cell_of_row _ _ 6 _ _ _ hr3_1
  have c1_7 := cell_of_row _ _ 7 _ _ _ hr3_1
  simp at c1_0 c1_1 c1_2 c1_3 c1_4 c1_5 c1_6 c1_7
  go_wp2_with fail
  refine (encfilm_nb (⟨W, H, nl, nd, nn, nb, ns, nf, L, D, N, B, S, F⟩ : Flm) (⟨al2, cl2, ad2, cd2, an2, cn2, ab2, cb2, ax2, cx2, af2, cf2⟩ : Pl) _ HAT3.out E3.out).mono ?_
  rintro e y4 ⟨rfl, hb4⟩
  clear c1_0 c1_1 c1_2 c1_3 c1_4 c1_5 c1_6 c1_7
  have hr4_0 := (hb4.block _ (lt_heap hr3_0)).trans hr3_0
  have hr4_1 := (hb4.block _ (lt_heap hr3_1)).trans hr3_1
  have HU4 := Lib.hid (HU3.out.trans (hb4.mono HU3.out.size))
  clear hr3_0 hr3_1 HU3
  have HAT4 := Lib.hid (HAT3.out.on hb4)
  clear HAT3
  have HA4 := Lib.hid (HA3.out.on hb4)
  clear HA3
  have c0_0 := cell_of_row _ _ 0 _ _ _ hr4_0
  have c0_1 := cell_of_row _ _ 1 _ _ _ hr4_0
  have c0_2 := cell_of_row _ _ 2 _ _ _ hr4_0
  have c0_3 := cell_of_row _ _ 3 _ _ _ hr4_0
  have c0_4 := cell_of_row _ _ 4 _ _ _ hr4_0
  have c0_5 := cell_of_row _ _ 5 _ _ _ hr4_0
  have c0_6 := cell_of_row _ _ 6 _ _ _ hr4_0
  have c0_7 := cell_of_row _ _ 7 _ _ _ hr4_0
  simp at c0_0 c0_1 c0_2 c0_3 c0_4 c0_5 c0_6 c0_7
  go_wp2_with fail
  refine (drsheet_any W H al nl cl _).mono ?_
  rintro e y5 ⟨rfl, hb5⟩
  clear c0_0 c0_1 c0_2 c0_3 c0_4 c0_5 c0_6 c0_7
  have hr5_0 := (hb5.block _ (lt_heap hr4_0)).trans hr4_0
  have hr5_1 := (hb5.block _ (lt_heap hr4_1)).trans hr4_1
  have HU5 := Lib.hid (HU4.out.trans (hb5.mono HU4.out.size))
  clear hr4_0 hr4_1 HU4
  have HAT5 := Lib.hid (HAT4.out.on hb5)
  clear HAT4
  have HA5 := Lib.hid (HA4.out.on hb5)
  clear HA4
  rw [decide_eq_true E2.out]
  have c0_0 := cell_of_row _ _ 0 _ _ _ hr5_0
  have c0_1 := cell_of_row _ _ 1 _ _ _ hr5_0
  have c0_2 := cell_of_row _ _ 2 _ _ _ hr5_0
  have c0_3 := cell_of_row _ _ 3 _ _ _ hr5_0
  have c0_4 := cell_of_row _ _ 4 _ _ _ hr5_0
  have c0_5 := cell_of_row _ _ 5 _ _ _ hr5_0
  have c0_6 := cell_of_row _ _ 6 _ _ _ hr5_0
  have c0_7 := cell_of_row _ _ 7 _ _ _ hr5_0
  simp at c0_0 c0_1 c0_2 c0_3 c0_4 c0_5 c0_6 c0_7
  go_wp2_with fail
  refine (dright_any (⟨W, H, nl, nd, nn, nb, ns, nf, L, D, N, B, S, F⟩ : Flm) (⟨al, cl, ad, cd, an, cn, ab, cb, ax, cx, af, cf⟩ : Pl) _ (HC.out.at_.on HU5.out)).mono ?_
  rintro e y6 ⟨rfl, hb6⟩
  clear c0_0 c0_1 c0_2 c0_3 c0_4 c0_5 c0_6 c0_7
  have hr6_0 := (hb6.block _ (lt_heap hr5_0)).trans hr5_0
  have hr6_1 := (hb6.block _ (lt_heap hr5_1)).trans hr5_1
  have HU6 := Lib.hid (HU5.out.trans (hb6.mono HU5.out.size))
  clear hr5_0 hr5_1 HU5
  have HAT6 := Lib.hid (HAT5.out.on hb6)
  clear HAT5
  have HA6 := Lib.hid (HA5.out.on hb6)
  clear HA5
  rw [decide_eq_false E3.out]
  go_upto_region 8 with fail
  refine wp_region_held_drew (S := fun y => y.heap[w.heap.size]? = some (.cells #[.int .i64 W, .int .i64 H, .slice al nl cl, .slice ad nd cd, .slice an nn cn, .slice ab nb cb, .slice ax ns cx, .slice af nf cf] 29 (0, 0)) ∧ Bs y (.slice ba bn bc) SBl) (by kernel_rfl) (⟨hr6_0, HA6.out.on (Below.refl _ _).drew⟩) (fun hS0 => ?_)
  obtain ⟨z0, hz0_⟩ : ∃ y, y6.drew = y := ⟨_, rfl⟩
  have HV0 := Lib.hid (show Below w.heap.size w z0 by rw [← hz0_]; exact HU6.out.drew)
  rw [hz0_] at hS0 ⊢
  clear hz0_
  refine wpAnyH_ready (rs := [0]) (by kernel_rfl) (by simp) ?_
  refine AllReadyH.cons rfl (fun K hK => ?_) AllReadyH.nil
  go_simp
  go_wp2_with (go_at_call 7; refine (awake_any _).mono ?_; rintro e z1 ⟨rfl, hb1⟩)
  have HV1 := Lib.hid (HV0.out.trans (hb1.mono HV0.out.size))
  refine hK.out _ _ (⟨(hb1.block _ (lt_heap hS0.1)).trans hS0.1, hS0.2.on hb1⟩) (fun hS1 => ?_)
  clear hK K
  refine wpAnyH_take (i := 1) (v := ?_) rfl (by kernel_rfl) (by kernel_rfl) (by kernel_rfl) (fun _ _ _ h => h) (Or.inl ⟨by kernel_rfl, by (intro wz hSz; go_simp; try with_reducible rfl)⟩) hS1 ?_
  go_simp
  refine wpAnyH_take (i := 2) (v := ?_) rfl (by kernel_rfl) (by kernel_rfl) (by kernel_rfl) (fun _ _ _ h => h) (Or.inl ⟨by kernel_rfl, by (intro wz hSz; go_simp; try with_reducible rfl)⟩) hS1 ?_
  go_simp
  refine wpAnyH_take (i := 3) (v := ?_) rfl (by kernel_rfl) (by kernel_rfl) (by kernel_rfl) (fun _ _ _ h => h) (Or.inl ⟨by kernel_rfl, by (intro wz hSz; go_simp; try with_reducible rfl)⟩) hS1 ?_
  go_simp
  refine wpAnyH_take (i := 4) (v := ?_) rfl (by kernel_rfl) (by kernel_rfl) (by kernel_rfl) (fun _ _ _ h => h) (Or.inl ⟨by kernel_rfl, by (intro wz hSz; go_simp; try with_reducible rfl)⟩) hS1 ?_
  go_simp
  refine wpAnyH_take (i := 5) (v := ?_) rfl (by kernel_rfl) (by kernel_rfl) (by kernel_rfl) (fun _ _ _ h => h) (Or.inl ⟨by kernel_rfl, by (intro wz hSz; go_simp; try with_reducible rfl)⟩) hS1 ?_
  go_simp
  refine wpAnyH_take (i := 6) (v := ?_) rfl (by kernel_rfl) (by kernel_rfl) (by kernel_rfl) (fun _ _ _ h => h) (Or.inl ⟨by kernel_rfl, by (intro wz hSz; have hcv := conv_bs (hSz.2); go_simp; try with_reducible rfl)⟩) hS1 ?_
  go_simp
  refine wpAnyH_take (i := 7) (v := ?_) rfl (by kernel_rfl) (by kernel_rfl) (by kernel_rfl) (fun _ _ _ h => h) (Or.inl ⟨by kernel_rfl, by (intro wz hSz; go_simp; try with_reducible rfl)⟩) hS1 ?_
  go_simp
  refine wpAnyH_take (i := 8) (v := ?_) rfl (by kernel_rfl) (by kernel_rfl) (by kernel_rfl) (fun _ _ _ h => h) (Or.inl ⟨by kernel_rfl, by (intro wz hSz; have c0 := cell_of_row _ _ 0 _ _ _ (hSz.1); have c1 := cell_of_row _ _ 1 _ _ _ (hSz.1); have c2 := cell_of_row _ _ 2 _ _ _ (hSz.1); have c3 := cell_of_row _ _ 3 _ _ _ (hSz.1); have c4 := cell_of_row _ _ 4 _ _ _ (hSz.1); have c5 := cell_of_row _ _ 5 _ _ _ (hSz.1); have c6 := cell_of_row _ _ 6 _ _ _ (hSz.1); have c7 := cell_of_row _ _ 7 _ _ _ (hSz.1); simp at c0 c1 c2 c3 c4 c5 c6 c7; go_simp; try with_reducible rfl)⟩) hS1 ?_
  go_simp
  refine wpAnyH_ready (rs := [9]) (by kernel_rfl) (by simp) ?_
  refine AllReadyH.cons rfl (fun K hK => ?_) AllReadyH.nil
  go_simp
  go_wp2_with (go_at_call 18; refine ((show Calls _ _ _ _ (fun e w' => (∃ a n c, e = .returned (.slice a n c) ∧ Bs w' (.slice a n c) SBl) ∧ Below _ _ w') from by rw [HSB.out]; exact dsheet_bs W H al cl nl L _ (HC.out.at_.l.on HV1.out) hnl5)).mono ?_; rintro e z2 ⟨⟨sa, sn, sc, rfl, hbs⟩, hb2⟩)
  have HV2 := Lib.hid (HV1.out.trans (hb2.mono HV1.out.size))
  have HSA := Lib.hid hbs
  clear hbs
  refine hK.out _ _ (⟨(hb2.block _ (lt_heap hS1.1)).trans hS1.1, hS1.2.on hb2⟩) (fun hS2 => ?_)
  clear hK K
  refine wpAnyH_ready (rs := [10]) (by kernel_rfl) (by simp) ?_
  refine AllReadyH.cons rfl (fun K hK => ?_) AllReadyH.nil
  have hcv := conv_bs HSA.out
  go_simp
  clear hcv
  refine hK.out _ _ (hS2) (fun hS2v => ?_)
  clear hK K
  refine wpAnyH_take (i := 11) (v := ?_) rfl (by kernel_rfl) (by kernel_rfl) (by kernel_rfl) (fun _ _ _ h => h) (Or.inl ⟨by kernel_rfl, by (intro wz hSz; go_simp; try with_reducible rfl)⟩) hS2v ?_
  go_simp
  refine wpAnyH_take (i := 12) (v := ?_) rfl (by kernel_rfl) (by kernel_rfl) (by kernel_rfl) (fun _ _ _ h => h) (Or.inl ⟨by kernel_rfl, by (intro wz hSz; go_simp; try with_reducible rfl)⟩) hS2v ?_
  go_simp
  refine wpAnyH_take (i := 13) (v := ?_) rfl (by kernel_rfl) (by kernel_rfl) (by kernel_rfl) (fun _ _ _ h => h) (Or.inl ⟨by kernel_rfl, by (intro wz hSz; go_simp; try with_reducible rfl)⟩) hS2v ?_
  go_simp
  refine wpAnyH_take (i := 14) (v := ?_) rfl (by kernel_rfl) (by kernel_rfl) (by kernel_rfl) (fun _ _ _ h => h) (Or.inl ⟨by kernel_rfl, by (intro wz hSz; go_simp; try with_reducible rfl)⟩) hS2v ?_
  go_simp
  refine wpAnyH_take (i := 15) (v := ?_) rfl (by kernel_rfl) (by kernel_rfl) (by kernel_rfl) (fun _ _ _ h => h) (Or.inl ⟨by kernel_rfl, by (intro wz hSz; go_simp; try with_reducible rfl)⟩) hS2v ?_
  go_simp
  refine wpAnyH_take (i := 16) (v := ?_) rfl (by kernel_rfl) (by kernel_rfl) (by kernel_rfl) (fun _ _ _ h => h) (Or.inl ⟨by kernel_rfl, by (intro wz hSz; go_simp; try with_reducible rfl)⟩) hS2v ?_
  go_simp
  refine wpAnyH_take (i := 17) (v := ?_) rfl (by kernel_rfl) (by kernel_rfl) (by kernel_rfl) (fun _ _ _ h => h) (Or.inl ⟨by kernel_rfl, by (intro wz hSz; go_simp; try with_reducible rfl)⟩) hS2v ?_
  go_simp
  refine wpAnyH_take (i := 18) (v := undef) rfl (by kernel_rfl) (by kernel_rfl) (by kernel_rfl) (fun _ _ _ h => h) (Or.inr ⟨by kernel_rfl, rfl⟩) hS2v ?_
  go_simp
  refine wpAnyH_take (i := 19) (v := undef) rfl (by kernel_rfl) (by kernel_rfl) (by kernel_rfl) (fun _ _ _ h => h) (Or.inr ⟨by kernel_rfl, rfl⟩) hS2v ?_
  go_simp
  refine wpAnyH_take (i := 20) (v := undef) rfl (by kernel_rfl) (by kernel_rfl) (by kernel_rfl) (fun _ _ _ h => h) (Or.inr ⟨by kernel_rfl, rfl⟩) hS2v ?_
  go_simp
  refine wpAnyH_take (i := 21) (v := undef) rfl (by kernel_rfl) (by kernel_rfl) (by kernel_rfl) (fun _ _ _ h => h) (Or.inr ⟨by kernel_rfl, rfl⟩) hS2v ?_
  go_simp
  refine wpAnyH_take (i := 22) (v := undef) rfl (by kernel_rfl) (by kernel_rfl) (by kernel_rfl) (fun _ _ _ h => h) (Or.inr ⟨by kernel_rfl, rfl⟩) hS2v ?_
  go_simp
  refine wpAnyH_take (i := 23) (v := undef) rfl (by kernel_rfl) (by kernel_rfl) (by kernel_rfl) (fun _ _ _ h => h) (Or.inr ⟨by kernel_rfl, rfl⟩) hS2v ?_
  go_simp
  refine wpAnyH_take (i := 24) (v := ?_) rfl (by kernel_rfl) (by kernel_rfl) (by kernel_rfl) (fun _ _ _ h => h) (Or.inl ⟨by kernel_rfl, by (intro wz hSz; go_simp; try with_reducible rfl)⟩) hS2v ?_
  go_simp
  refine wpAnyH_take (i := 25) (v := ?_) rfl (by kernel_rfl) (by kernel_rfl) (by kernel_rfl) (fun _ _ _ h => h) (Or.inl ⟨by kernel_rfl, by (intro wz hSz; go_simp; try with_reducible rfl)⟩) hS2v ?_
  go_simp
  refine wpAnyH_take (i := 26) (v := ?_) rfl (by kernel_rfl) (by kernel_rfl) (by kernel_rfl) (fun _ _ _ h => h) (Or.inl ⟨by kernel_rfl, by (intro wz hSz; go_simp; try with_reducible rfl)⟩) hS2v ?_
  go_simp
  refine wpAnyH_take (i := 27) (v := ?_) rfl (by kernel_rfl) (by kernel_rfl) (by kernel_rfl) (fun _ _ _ h => h) (Or.inl ⟨by kernel_rfl, by (intro wz hSz; go_simp; try with_reducible rfl)⟩) hS2v ?_
  go_simp
  refine wpAnyH_take (i := 28) (v := ?_) rfl (by kernel_rfl) (by kernel_rfl) (by kernel_rfl) (fun _ _ _ h => h) (Or.inl ⟨by kernel_rfl, by (intro wz hSz; go_simp; try with_reducible rfl)⟩) hS2v ?_
  go_simp
  refine wpAnyH_take (i := 29) (v := ?_) rfl (by kernel_rfl) (by kernel_rfl) (by kernel_rfl) (fun _ _ _ h => h) (Or.inl ⟨by kernel_rfl, by (intro wz hSz; go_simp; try with_reducible rfl)⟩) hS2v ?_
  go_simp
  refine wpAnyH_take (i := 30) (v := undef) rfl (by kernel_rfl) (by kernel_rfl) (by kernel_rfl) (fun _ _ _ h => h) (Or.inr ⟨by kernel_rfl, rfl⟩) hS2v ?_
  go_simp
  refine wpAnyH_take (i := 31) (v := undef) rfl (by kernel_rfl) (by kernel_rfl) (by kernel_rfl) (fun _ _ _ h => h) (Or.inr ⟨by kernel_rfl, rfl⟩) hS2v ?_
  go_simp
  refine wpAnyH_take (i := 32) (v := undef) rfl (by kernel_rfl) (by kernel_rfl) (by kernel_rfl) (fun _ _ _ h => h) (Or.inr ⟨by kernel_rfl, rfl⟩) hS2v ?_
  go_simp
  refine wpAnyH_take (i := 33) (v := ?_) rfl (by kernel_rfl) (by kernel_rfl) (by kernel_rfl) (fun _ _ _ h => h) (Or.inl ⟨by kernel_rfl, by (intro wz hSz; go_simp; try with_reducible rfl)⟩) hS2v ?_
  go_simp
  refine wpAnyH_take (i := 34) (v := ?_) rfl (by kernel_rfl) (by kernel_rfl) (by kernel_rfl) (fun _ _ _ h => h) (Or.inl ⟨by kernel_rfl, by (intro wz hSz; go_simp; try with_reducible rfl)⟩) hS2v ?_
  go_simp
  refine wpAnyH_take (i := 35) (v := ?_) rfl (by kernel_rfl) (by kernel_rfl) (by kernel_rfl) (fun _ _ _ h => h) (Or.inl ⟨by kernel_rfl, by (intro wz hSz; go_simp; try with_reducible rfl)⟩) hS2v ?_
  go_simp
  refine wpAnyH_take (i := 36) (v := ?_) rfl (by kernel_rfl) (by kernel_rfl) (by kernel_rfl) (fun _ _ _ h => h) (Or.inl ⟨by kernel_rfl, by (intro wz hSz; go_simp; try with_reducible rfl)⟩) hS2v ?_
  go_simp
  refine wpAnyH_take (i := 37) (v := ?_) rfl (by kernel_rfl) (by kernel_rfl) (by kernel_rfl) (fun _ _ _ h => h) (Or.inl ⟨by kernel_rfl, by (intro wz hSz; go_simp; try with_reducible rfl)⟩) hS2v ?_
  go_simp
  refine wpAnyH_take (i := 38) (v := ?_) rfl (by kernel_rfl) (by kernel_rfl) (by kernel_rfl) (fun _ _ _ h => h) (Or.inl ⟨by kernel_rfl, by (intro wz hSz; go_simp; try with_reducible rfl)⟩) hS2v ?_
  go_simp
  refine wpAnyH_take (i := 39) (v := ?_) rfl (by kernel_rfl) (by kernel_rfl) (by kernel_rfl) (fun _ _ _ h => h) (Or.inl ⟨by kernel_rfl, by (intro wz hSz; go_simp; try with_reducible rfl)⟩) hS2v ?_
  go_simp
  refine wpAnyH_take (i := 40) (v := ?_) rfl (by kernel_rfl) (by kernel_rfl) (by kernel_rfl) (fun _ _ _ h => h) (Or.inl ⟨by kernel_rfl, by (intro wz hSz; go_simp; try with_reducible rfl)⟩) hS2v ?_
  go_simp
  refine wpAnyH_take (i := 41) (v := ?_) rfl (by kernel_rfl) (by kernel_rfl) (by kernel_rfl) (fun _ _ _ h => h) (Or.inl ⟨by kernel_rfl, by (intro wz hSz; go_simp; try with_reducible rfl)⟩) hS2v ?_
  go_simp
  refine wpAnyH_take (i := 42) (v := ?_) rfl (by kernel_rfl) (by kernel_rfl) (by kernel_rfl) (fun _ _ _ h => h) (Or.inl ⟨by kernel_rfl, by (intro wz hSz; go_simp; try with_reducible rfl)⟩) hS2v ?_
  go_simp
  refine wpAnyH_take (i := 43) (v := ?_) rfl (by kernel_rfl) (by kernel_rfl) (by kernel_rfl) (fun _ _ _ h => h) (Or.inl ⟨by kernel_rfl, by (intro wz hSz; go_simp; try with_reducible rfl)⟩) hS2v ?_
  go_simp
  refine wpAnyH_take (i := 44) (v := ?_) rfl (by kernel_rfl) (by kernel_rfl) (by kernel_rfl) (fun _ _ _ h => h) (Or.inl ⟨by kernel_rfl, by (intro wz hSz; go_simp; try with_reducible rfl)⟩) hS2v ?_
  go_simp
  refine wpAnyH_done (by kernel_rfl) ?_ _
  go_wp2
  go_ret
  exact ⟨rfl, HV2.out⟩

set_option maxHeartbeats 16000000 in
set_option maxRecDepth 100000 in
theorem case_2 (W H : Int) (al ad an ab ax af : Option Addr) (cl cd cn cb cx cf nl nd nn nb ns nf : Nat) (L D N B S F : Nat → Int) (w : World) (hc : Came w (⟨W, H, nl, nd, nn, nb, ns, nf, L, D, N, B, S, F⟩ : Flm) (⟨al, cl, ad, cd, an, cn, ab, cb, ax, cx, af, cf⟩ : Pl)) (k1 : ¬ 5000 < nl) (k2 : ¬ 5000 < ns) (e2 : okSh W H nl) (e3 : okF (⟨W, H, nl, nd, nn, nb, ns, nf, L, D, N, B, S, F⟩ : Flm)) : Calls Try.prog 4 #[.agg #[.int .i64 W, .int .i64 H, .slice al nl cl, .slice ad nd cd, .slice an nn cn, .slice ab nb cb, .slice ax ns cx, .slice af nf cf]] w fun e' w' => e' = .returned (.bool true) ∧ Below w.heap.size w w' := by
  have HC := Lib.hid hc
  clear hc
  have d1 := decide_eq_false (show ¬ (5000 : Int) < (nl : Int) by omega)
  have d2 := decide_eq_false (show ¬ (5000 : Int) < (ns : Int) by omega)
  have E2 := Lib.hid e2
  have E3 := Lib.hid e3
  clear e2 e3
  obtain ⟨SBl, hSB⟩ : ∃ x, x = sheetB W H nl L := ⟨_, rfl⟩
  obtain ⟨FBl, hFB⟩ : ∃ x, x = filmB (⟨W, H, nl, nd, nn, nb, ns, nf, L, D, N, B, S, F⟩ : Flm) := ⟨_, rfl⟩
  have HSB := Lib.hid hSB
  have HFB := Lib.hid hFB
  clear hSB hFB
  have hnl5 : nl ≤ 5000 := by have := okSz_mul E2.out.1; have := E2.out.2; omega
  go_enter Try.func4, Try.ntmps4
  go_upto_region 1 with fail
  have hR := Au.rows1 w (.cells #[.int .i64 W, .int .i64 H, .slice al nl cl, .slice ad nd cd, .slice an nn cn, .slice ab nb cb, .slice ax ns cx, .slice af nf cf] 29)
  have HUx := Ve.below_n1 w (.cells #[.int .i64 W, .int .i64 H, .slice al nl cl, .slice ad nd cd, .slice an nn cn, .slice ab nb cb, .slice ax ns cx, .slice af nf cf] 29)
  obtain ⟨y0, hy0⟩ : ∃ y0, w.alloc (.cells #[.int .i64 W, .int .i64 H, .slice al nl cl, .slice ad nd cd, .slice an nn cn, .slice ab nb cb, .slice ax ns cx, .slice af nf cf] 29) = y0 := ⟨_, rfl⟩
  rw [hy0] at hR HUx ⊢
  clear hy0
  have HU0 := Lib.hid HUx
  clear HUx
  have hr0_0 := hR
  clear hR
  have c0_0 := cell_of_row _ _ 0 _ _ _ hr0_0
  have c0_1 := cell_of_row _ _ 1 _ _ _ hr0_0
  have c0_2 := cell_of_row _ _ 2 _ _ _ hr0_0
  have c0_3 := cell_of_row _ _ 3 _ _ _ hr0_0
  have c0_4 := cell_of_row _ _ 4 _ _ _ hr0_0
  have c0_5 := cell_of_row _ _ 5 _ _ _ hr0_0
  have c0_6 := cell_of_row _ _ 6 _ _ _ hr0_0
  have c0_7 := cell_of_row _ _ 7 _ _ _ hr0_0
  simp at c0_0 c0_1 c0_2 c0_3 c0_4 c0_5 c0_6 c0_7
  go_wp2_with fail
  refine (to_film (⟨W, H, nl, nd, nn, nb, ns, nf, L, D, N, B, S, F⟩ : Flm) (⟨al, cl, ad, cd, an, cn, ab, cb, ax, cx, af, cf⟩ : Pl) _ (HC.out.at_.on HU0.out) HC.out.bl HC.out.bd HC.out.bn HC.out.bb HC.out.bs HC.out.bf HC.out.ks HC.out.kf).mono ?_
  rintro e y1 ⟨⟨⟨al2, cl2, ad2, cd2, an2, cn2, ab2, cb2, ax2, cx2, af2, cf2⟩, rfl, hat⟩, hb1⟩
  clear c0_0 c0_1 c0_2 c0_3 c0_4 c0_5 c0_6 c0_7
  have hr1_0 := (hb1.block _ (lt_heap hr0_0)).trans hr0_0
  have HU1 := Lib.hid (HU0.out.trans (hb1.mono HU0.out.size))
  clear hr0_0 HU0
  have HAT1 := Lib.hid hat
  clear hat
  have c0_0 := cell_of_row _ _ 0 _ _ _ hr1_0
  have c0_1 := cell_of_row _ _ 1 _ _ _ hr1_0
  have c0_2 := cell_of_row _ _ 2 _ _ _ hr1_0
  have c0_3 := cell_of_row _ _ 3 _ _ _ hr1_0
  have c0_4 := cell_of_row _ _ 4 _ _ _ hr1_0
  have c0_5 := cell_of_row _ _ 5 _ _ _ hr1_0
  have c0_6 := cell_of_row _ _ 6 _ _ _ hr1_0
  have c0_7 := cell_of_row _ _ 7 _ _ _ hr1_0
  simp at c0_0 c0_1 c0_2 c0_3 c0_4 c0_5 c0_6 c0_7
  have HA := Lib.hid (heap_alloc_last y1 (.cells #[.int .i64 0, .int .i64 0, .slice none 0 0, .slice none 0 0, .slice none 0 0, .slice none 0 0, .slice none 0 0, .slice none 0 0] 39))
  have hHi := Lib.hid (show (Try.prog.info? 39).map (·.size) = some (#[.int .i64 W, .int .i64 H, .slice al2 nl cl2, .slice ad2 nd cd2, .slice an2 nn cn2, .slice ab2 nb cb2, .slice ax2 ns cx2, .slice af2 nf cf2] : Array Value).size by kernel_rfl)
  have hHz := Lib.hid (show (#[.int .i64 0, .int .i64 0, .slice none 0 0, .slice none 0 0, .slice none 0 0, .slice none 0 0, .slice none 0 0, .slice none 0 0] : Array Value).size = (#[.int .i64 W, .int .i64 H, .slice al2 nl cl2, .slice ad2 nd cd2, .slice an2 nn cn2, .slice ab2 nb cb2, .slice ax2 ns cx2, .slice af2 nf cf2] : Array Value).size from rfl)
  have hHo := Lib.hid (show (#[.int .i64 W, .int .i64 H, .slice al2 nl cl2, .slice ad2 nd cd2, .slice an2 nn cn2, .slice ab2 nb cb2, .slice ax2 ns cx2, .slice af2 nf cf2] : Array Value).all (·.oneCell') = true by simp [Value.oneCell'])
  go_upto_region 4 with (refine Au.wpList_store_row rfl 39 (.tmp 3) (.tmp 21) rfl (y1.alloc (.cells #[.int .i64 0, .int .i64 0, .slice none 0 0, .slice none 0 0, .slice none 0 0, .slice none 0 0, .slice none 0 0, .slice none 0 0] 39)) #[.int .i64 0, .int .i64 0, .slice none 0 0, .slice none 0 0, .slice none 0 0, .slice none 0 0, .slice none 0 0, .slice none 0 0] #[.int .i64 W, .int .i64 H, .slice al2 nl cl2, .slice ad2 nd cd2, .slice an2 nn cn2, .slice ab2 nb cb2, .slice ax2 ns cx2, .slice af2 nf cf2] (y1.heap.size) 39 HA.out rfl rfl hHi.out hHz.out hHo.out ?_)
  clear c0_0 c0_1 c0_2 c0_3 c0_4 c0_5 c0_6 c0_7
  clear hHi hHz hHo
  have hN := setRow_heap _ (y1.heap.size) _ #[.int .i64 W, .int .i64 H, .slice al2 nl cl2, .slice ad2 nd cd2, .slice an2 nn cn2, .slice ab2 nb cb2, .slice ax2 ns cx2, .slice af2 nf cf2] _ _ HA.out
  clear HA
  have hsz := HU1.out.size
  have hb := Ve.below_n1 y1 (.cells #[.int .i64 0, .int .i64 0, .slice none 0 0, .slice none 0 0, .slice none 0 0, .slice none 0 0, .slice none 0 0, .slice none 0 0] 39)
  have HUx := below_setRow (g := y1.heap.size) (HU1.out.trans (hb.mono HU1.out.size)) (by omega) #[.int .i64 W, .int .i64 H, .slice al2 nl cl2, .slice ad2 nd cd2, .slice an2 nn cn2, .slice ab2 nb cb2, .slice ax2 ns cx2, .slice af2 nf cf2]
  have hO : ∀ kk, kk < y1.heap.size → ((y1.alloc (.cells #[.int .i64 0, .int .i64 0, .slice none 0 0, .slice none 0 0, .slice none 0 0, .slice none 0 0, .slice none 0 0, .slice none 0 0] 39)).setRow (y1.heap.size) #[.int .i64 W, .int .i64 H, .slice al2 nl cl2, .slice ad2 nd cd2, .slice an2 nn cn2, .slice ab2 nb cb2, .slice ax2 ns cx2, .slice af2 nf cf2]).heap[kk]? = y1.heap[kk]? := fun kk hk => (setRow_other _ _ _ _ (by omega)).trans (hb.block _ hk)
  obtain ⟨y2, hy2⟩ : ∃ y, (y1.alloc (.cells #[.int .i64 0, .int .i64 0, .slice none 0 0, .slice none 0 0, .slice none 0 0, .slice none 0 0, .slice none 0 0, .slice none 0 0] 39)).setRow (y1.heap.size) #[.int .i64 W, .int .i64 H, .slice al2 nl cl2, .slice ad2 nd cd2, .slice an2 nn cn2, .slice ab2 nb cb2, .slice ax2 ns cx2, .slice af2 nf cf2] = y := ⟨_, rfl⟩
  have hs2 : y2.heap.size = y1.heap.size + 1 := by rw [← hy2]; simp [World.setRow]
  rw [hy2] at hN HUx hO ⊢
  clear hy2 hsz hb
  have HU2 := Lib.hid HUx
  clear HUx
  have hl2_0 := lt_heap hr1_0
  have hr2_0 := (hO _ hl2_0).trans hr1_0
  have hr2_1 := hN
  have hKK := hO
  clear hN hO
  clear hr1_0 HU1
  have HAT2 := Lib.hid (show FAt y2 (⟨W, H, nl, nd, nn, nb, ns, nf, L, D, N, B, S, F⟩ : Flm) (⟨al2, cl2, ad2, cd2, an2, cn2, ab2, cb2, ax2, cx2, af2, cf2⟩ : Pl) from ⟨(HAT1.out.l.low.keep (fun b hb => hKK b hb)).rw (by decide), (HAT1.out.d.low.keep (fun b hb => hKK b hb)).rw (by decide), (HAT1.out.n.low.keep (fun b hb => hKK b hb)).rw (by decide), (HAT1.out.b.low.keep (fun b hb => hKK b hb)).rw (by decide), (HAT1.out.s.low.keep (fun b hb => hKK b hb)).rw (by decide), (HAT1.out.f.low.keep (fun b hb => hKK b hb)).rw (by decide)⟩)
  clear HAT1 hKK
  have c1_0 := cell_of_row _ _ 0 _ _ _ hr2_1
  have c1_1 := cell_of_row _ _ 1 _ _ _ hr2_1
  have c1_2 := cell_of_row _ _ 2 _ _ _ hr2_1
  have c1_3 := cell_of_row _ _ 3 _ _ _ hr2_1
  have c1_4 := cell_of_row _ _ 4 _ _ _ hr2_1
  have c1_5 := cell_of_row _ _ 5 _ _ _ hr2_1
  have c1_6 := cell_of_row _ _ 6 _ _ _ hr2_1
  have c1_7 := cell_of_row _ _ 7 _ _ _ hr2_1
  simp at c1_0 c1_1 c1_2 c1_3 c1_4 c1_5 c1_6 c1_7
  go_wp2_with fail
  refine (encsheet_ok W H al2 cl2 nl L _ HAT2.out.l E2.out).mono ?_
  rintro e y3 ⟨⟨ba, bn, bc, rfl, how⟩, hb3⟩
  clear c1_0 c1_1 c1_2 c1_3 c1_4 c1_5 c1_6 c1_7
  have hr3_0 := (hb3.block _ (lt_heap hr2_0)).trans hr2_0
  have hr3_1 := (hb3.block _ (lt_heap hr2_1)).trans hr2_1
  have HU3 := Lib.hid (HU2.out.trans (hb3.mono HU2.out.size))
  clear hr2_0 hr2_1 HU2
  have HAT3 := Lib.hid (HAT2.out.on hb3)
  clear HAT2
  have HA3 := Lib.hid (show Bs y3 (.slice ba bn bc) SBl by rw [HSB.out]; exact own_bs_n how)
  clear how
  have c1_0 := cell_of_row _ _ 0 _ _ _ hr3_1
  have c1_1 := cell_of_row _ _ 1 _ _ _ hr3_1
  have c1_2 := cell_of_row _ _ 2 _ _ _ hr3_1
  have c1_3 := cell_of_row _ _ 3 _ _ _ hr3_1
  have c1_4 := cell_of_row _ _ 4 _ _ _ hr3_1
  have c1_5 := cell_of_row _ _ 5 _ _ _ hr3_1
  have c1_6 := cell_of_row _ _ 6 _ _ _ hr3_1
  have c1_7 := cell_of_row _ _ 7 _ _ _ hr3_1
  simp at c1_0 c1_1 c1_2 c1_3 c1_4 c1_5 c1_6 c1_7
  go_wp2_with fail
  refine ((show Calls _ _ _ _ (fun e w' => (∃ b n c, e = .returned (.tuple #[.slice b n c, .int .i64 0]) ∧ Bs w' (.slice b n c) FBl) ∧ Below _ _ w') from by rw [HFB.out]; exact encfilm_bs (⟨W, H, nl, nd, nn, nb, ns, nf, L, D, N, B, S, F⟩ : Flm) (⟨al2, cl2, ad2, cd2, an2, cn2, ab2, cb2, ax2, cx2, af2, cf2⟩ : Pl) _ HAT3.out E3.out)).mono ?_
  rintro e y4 ⟨⟨fa, fn, fc, rfl, how⟩, hb4⟩
  clear c1_0 c1_1 c1_2 c1_3 c1_4 c1_5 c1_6 c1_7
  have hr4_0 := (hb4.block _ (lt_heap hr3_0)).trans hr3_0
  have hr4_1 := (hb4.block _ (lt_heap hr3_1)).trans hr3_1
  have HU4 := Lib.hid (HU3.out.trans (hb4.mono HU3.out.size))
  clear hr3_0 hr3_1 HU3
  have HAT4 := Lib.hid (HAT3.out.on hb4)
  clear HAT3
  have HA4 := Lib.hid (HA3.out.on hb4)
  clear HA3
  have HB4 := Lib.hid how
  clear how
  have c0_0 := cell_of_row _ _ 0 _ _ _ hr4_0
  have c0_1 := cell_of_row _ _ 1 _ _ _ hr4_0
  have c0_2 := cell_of_row _ _ 2 _ _ _ hr4_0
  have c0_3 := cell_of_row _ _ 3 _ _ _ hr4_0
  have c0_4 := cell_of_row _ _ 4 _ _ _ hr4_0
  have c0_5 := cell_of_row _ _ 5 _ _ _ hr4_0
  have c0_6 := cell_of_row _ _ 6 _ _ _ hr4_0
  have c0_7 := cell_of_row _ _ 7 _ _ _ hr4_0
  simp at c0_0 c0_1 c0_2 c0_3 c0_4 c0_5 c0_6 c0_7
  go_wp2_with fail
  refine (drsheet_any W H al nl cl _).mono ?_
  rintro e y5 ⟨rfl, hb5⟩
  clear c0_0 c0_1 c0_2 c0_3 c0_4 c0_5 c0_6 c0_7
  have hr5_0 := (hb5.block _ (lt_heap hr4_0)).trans hr4_0
  have hr5_1 := (hb5.block _ (lt_heap hr4_1)).trans hr4_1
  have HU5 := Lib.hid (HU4.out.trans (hb5.mono HU4.out.size))
  clear hr4_0 hr4_1 HU4
  have HAT5 := Lib.hid (HAT4.out.on hb5)
  clear HAT4
  have HA5 := Lib.hid (HA4.out.on hb5)
  clear HA4
  have HB5 := Lib.hid (HB4.out.on hb5)
  clear HB4
  rw [decide_eq_true E2.out]
  have c0_0 := cell_of_row _ _ 0 _ _ _ hr5_0
  have c0_1 := cell_of_row _ _ 1 _ _ _ hr5_0
  have c0_2 := cell_of_row _ _ 2 _ _ _ hr5_0
  have c0_3 := cell_of_row _ _ 3 _ _ _ hr5_0
  have c0_4 := cell_of_row _ _ 4 _ _ _ hr5_0
  have c0_5 := cell_of_row _ _ 5 _ _ _ hr5_0
  have c0_6 := cell_of_row _ _ 6 _ _ _ hr5_0
  have c0_7 := cell_of_row _ _ 7 _ _ _ hr5_0
  simp at c0_0 c0_1 c0_2 c0_3 c0_4 c0_5 c0_6 c0_7
  go_wp2_with fail
  refine (dright_any (⟨W, H, nl, nd, nn, nb, ns, nf, L, D, N, B, S, F⟩ : Flm) (⟨al, cl, ad, cd, an, cn, ab, cb, ax, cx, af, cf⟩ : Pl) _ (HC.out.at_.on HU5.out)).mono ?_
  rintro e y6 ⟨rfl, hb6⟩
  clear c0_0 c0_1 c0_2 c0_3 c0_4 c0_5 c0_6 c0_7
  have hr6_0 := (hb6.block _ (lt_heap hr5_0)).trans hr5_0
  have hr6_1 := (hb6.block _ (lt_heap hr5_1)).trans hr5_1
  have HU6 := Lib.hid (HU5.out.trans (hb6.mono HU5.out.size))
  clear hr5_0 hr5_1 HU5
  have HAT6 := Lib.hid (HAT5.out.on hb6)
  clear HAT5
  have HA6 := Lib.hid (HA5.out.on hb6)
  clear HA5
  have HB6 := Lib.hid (HB5.out.on hb6)
  clear HB5
  rw [decide_eq_true E3.out]
  go_upto_region 8 with fail
  refine wp_region_held_drew (S := fun y => y.heap[w.heap.size]? = some (.cells #[.int .i64 W, .int .i64 H, .slice al nl cl, .slice ad nd cd, .slice an nn cn, .slice ab nb cb, .slice ax ns cx, .slice af nf cf] 29 (0, 0)) ∧ Bs y (.slice ba bn bc) SBl ∧ Bs y (.slice fa fn fc) FBl) (by kernel_rfl) (⟨hr6_0, HA6.out.on (Below.refl _ _).drew, HB6.out.on (Below.refl _ _).drew⟩) (fun hS0 => ?_)
  obtain ⟨z0, hz0_⟩ : ∃ y, y6.drew = y := ⟨_, rfl⟩
  have HV0 := Lib.hid (show Below w.heap.size w z0 by rw [← hz0_]; exact HU6.out.drew)
  rw [hz0_] at hS0 ⊢
  clear hz0_
  refine wpAnyH_ready (rs := [0]) (by kernel_rfl) (by simp) ?_
  refine AllReadyH.cons rfl (fun K hK => ?_) AllReadyH.nil
  go_simp
  go_wp2_with (go_at_call 7; refine (awake_any _).mono ?_; rintro e z1 ⟨rfl, hb1⟩)
  have HV1 := Lib.hid (HV0.out.trans (hb1.mono HV0.out.size))
  refine hK.out _ _ (⟨(hb1.block _ (lt_heap hS0.1)).trans hS0.1, hS0.2.1.on hb1, hS0.2.2.on hb1⟩) (fun hS1 => ?_)
  clear hK K
  refine wpAnyH_take (i := 1) (v := ?_) rfl (by kernel_rfl) (by kernel_rfl) (by kernel_rfl) (fun _ _ _ h => h) (Or.inl ⟨by kernel_rfl, by (intro wz hSz; go_simp; try with_reducible rfl)⟩) hS1 ?_
  go_simp
  refine wpAnyH_take (i := 2) (v := ?_) rfl (by kernel_rfl) (by kernel_rfl) (by kernel_rfl) (fun _ _ _ h => h) (Or.inl ⟨by kernel_rfl, by (intro wz hSz; go_simp; try with_reducible rfl)⟩) hS1 ?_
  go_simp
  refine wpAnyH_take (i := 3) (v := ?_) rfl (by kernel_rfl) (by kernel_rfl) (by kernel_rfl) (fun _ _ _ h => h) (Or.inl ⟨by kernel_rfl, by (intro wz hSz; go_simp; try with_reducible rfl)⟩) hS1 ?_
  go_simp
  refine wpAnyH_take (i := 4) (v := ?_) rfl (by kernel_rfl) (by kernel_rfl) (by kernel_rfl) (fun _ _ _ h => h) (Or.inl ⟨by kernel_rfl, by (intro wz hSz; go_simp; try with_reducible rfl)⟩) hS1 ?_
  go_simp
  refine wpAnyH_take (i := 5) (v := ?_) rfl (by kernel_rfl) (by kernel_rfl) (by kernel_rfl) (fun _ _ _ h => h) (Or.inl ⟨by kernel_rfl, by (intro wz hSz; go_simp; try with_reducible rfl)⟩) hS1 ?_
  go_simp
  refine wpAnyH_take (i := 6) (v := ?_) rfl (by kernel_rfl) (by kernel_rfl) (by kernel_rfl) (fun _ _ _ h => h) (Or.inl ⟨by kernel_rfl, by (intro wz hSz; have hcv := conv_bs (hSz.2.1); go_simp; try with_reducible rfl)⟩) hS1 ?_
  go_simp
  refine wpAnyH_take (i := 7) (v := ?_) rfl (by kernel_rfl) (by kernel_rfl) (by kernel_rfl) (fun _ _ _ h => h) (Or.inl ⟨by kernel_rfl, by (intro wz hSz; go_simp; try with_reducible rfl)⟩) hS1 ?_
  go_simp
  refine wpAnyH_take (i := 8) (v := ?_) rfl (by kernel_rfl) (by kernel_rfl) (by kernel_rfl) (fun _ _ _ h => h) (Or.inl ⟨by kernel_rfl, by (intro wz hSz; have c0 := cell_of_row _ _ 0 _ _ _ (hSz.1); have c1 := cell_of_row _ _ 1 _ _ _ (hSz.1); have c2 := cell_of_row _ _ 2 _ _ _ (hSz.1); have c3 := cell_of_row _ _ 3 _ _ _ (hSz.1); have c4 := cell_of_row _ _ 4 _ _ _ (hSz.1); have c5 := cell_of_row _ _ 5 _ _ _ (hSz.1); have c6 := cell_of_row _ _ 6 _ _ _ (hSz.1); have c7 := cell_of_row _ _ 7 _ _ _ (hSz.1); simp at c0 c1 c2 c3 c4 c5 c6 c7; go_simp; try with_reducible rfl)⟩) hS1 ?_
  go_simp
  refine wpAnyH_ready (rs := [9]) (by kernel_rfl) (by simp) ?_
  refine AllReadyH.cons rfl (fun K hK => ?_) AllReadyH.nil
  go_simp
  go_wp2_with (go_at_call 18; refine ((show Calls _ _ _ _ (fun e w' => (∃ a n c, e = .returned (.slice a n c) ∧ Bs w' (.slice a n c) SBl) ∧ Below _ _ w') from by rw [HSB.out]; exact dsheet_bs W H al cl nl L _ (HC.out.at_.l.on HV1.out) hnl5)).mono ?_; rintro e z2 ⟨⟨sa, sn, sc, rfl, hbs⟩, hb2⟩)
  have HV2 := Lib.hid (HV1.out.trans (hb2.mono HV1.out.size))
  have HSA := Lib.hid hbs
  clear hbs
  refine hK.out _ _ (⟨(hb2.block _ (lt_heap hS1.1)).trans hS1.1, hS1.2.1.on hb2, hS1.2.2.on hb2⟩) (fun hS2 => ?_)
  clear hK K
  refine wpAnyH_ready (rs := [10]) (by kernel_rfl) (by simp) ?_
  refine AllReadyH.cons rfl (fun K hK => ?_) AllReadyH.nil
  have hcv := conv_bs HSA.out
  go_simp
  clear hcv
  refine hK.out _ _ (hS2) (fun hS2v => ?_)
  clear hK K
  refine wpAnyH_take (i := 11) (v := ?_) rfl (by kernel_rfl) (by kernel_rfl) (by kernel_rfl) (fun _ _ _ h => h) (Or.inl ⟨by kernel_rfl, by (intro wz hSz; go_simp; try with_reducible rfl)⟩) hS2v ?_
  go_simp
  refine wpAnyH_take (i := 12) (v := ?_) rfl (by kernel_rfl) (by kernel_rfl) (by kernel_rfl) (fun _ _ _ h => h) (Or.inl ⟨by kernel_rfl, by (intro wz hSz; go_simp; try with_reducible rfl)⟩) hS2v ?_
  go_simp
  refine wpAnyH_take (i := 13) (v := ?_) rfl (by kernel_rfl) (by kernel_rfl) (by kernel_rfl) (fun _ _ _ h => h) (Or.inl ⟨by kernel_rfl, by (intro wz hSz; go_simp; try with_reducible rfl)⟩) hS2v ?_
  go_simp
  refine wpAnyH_take (i := 14) (v := ?_) rfl (by kernel_rfl) (by kernel_rfl) (by kernel_rfl) (fun _ _ _ h => h) (Or.inl ⟨by kernel_rfl, by (intro wz hSz; go_simp; try with_reducible rfl)⟩) hS2v ?_
  go_simp
  refine wpAnyH_take (i := 15) (v := ?_) rfl (by kernel_rfl) (by kernel_rfl) (by kernel_rfl) (fun _ _ _ h => h) (Or.inl ⟨by kernel_rfl, by (intro wz hSz; go_simp; try with_reducible rfl)⟩) hS2v ?_
  go_simp
  refine wpAnyH_take (i := 16) (v := ?_) rfl (by kernel_rfl) (by kernel_rfl) (by kernel_rfl) (fun _ _ _ h => h) (Or.inl ⟨by kernel_rfl, by (intro wz hSz; go_simp; try with_reducible rfl)⟩) hS2v ?_
  go_simp
  refine wpAnyH_take (i := 17) (v := ?_) rfl (by kernel_rfl) (by kernel_rfl) (by kernel_rfl) (fun _ _ _ h => h) (Or.inl ⟨by kernel_rfl, by (intro wz hSz; go_simp; try with_reducible rfl)⟩) hS2v ?_
  go_simp
  refine wpAnyH_take (i := 18) (v := ?_) rfl (by kernel_rfl) (by kernel_rfl) (by kernel_rfl) (fun _ _ _ h => h) (Or.inl ⟨by kernel_rfl, by (intro wz hSz; go_simp; try with_reducible rfl)⟩) hS2v ?_
  go_simp
  refine wpAnyH_take (i := 19) (v := ?_) rfl (by kernel_rfl) (by kernel_rfl) (by kernel_rfl) (fun _ _ _ h => h) (Or.inl ⟨by kernel_rfl, by (intro wz hSz; have hcv := conv_bs (hSz.2.2); go_simp; try with_reducible rfl)⟩) hS2v ?_
  go_simp
  refine wpAnyH_take (i := 20) (v := ?_) rfl (by kernel_rfl) (by kernel_rfl) (by kernel_rfl) (fun _ _ _ h => h) (Or.inl ⟨by kernel_rfl, by (intro wz hSz; have c0 := cell_of_row _ _ 0 _ _ _ (hSz.1); have c1 := cell_of_row _ _ 1 _ _ _ (hSz.1); have c2 := cell_of_row _ _ 2 _ _ _ (hSz.1); have c3 := cell_of_row _ _ 3 _ _ _ (hSz.1); have c4 := cell_of_row _ _ 4 _ _ _ (hSz.1); have c5 := cell_of_row _ _ 5 _ _ _ (hSz.1); have c6 := cell_of_row _ _ 6 _ _ _ (hSz.1); have c7 := cell_of_row _ _ 7 _ _ _ (hSz.1); simp at c0 c1 c2 c3 c4 c5 c6 c7; go_simp; try with_reducible rfl)⟩) hS2v ?_
  go_simp
  refine wpAnyH_ready (rs := [21]) (by kernel_rfl) (by simp) ?_
  refine AllReadyH.cons rfl (fun K hK => ?_) AllReadyH.nil
  go_simp
  go_wp2_with (go_at_call 19; refine ((show Calls _ _ _ _ (fun e w' => (∃ a n c, e = .returned (.slice a n c) ∧ Bs w' (.slice a n c) FBl) ∧ Below _ _ w') from by rw [HFB.out]; exact dfilm_bs (⟨W, H, nl, nd, nn, nb, ns, nf, L, D, N, B, S, F⟩ : Flm) (⟨al, cl, ad, cd, an, cn, ab, cb, ax, cx, af, cf⟩ : Pl) _ (HC.out.at_.on HV2.out) E3.out)).mono ?_; rintro e z3 ⟨⟨ga, gn, gc, rfl, hbs⟩, hb3⟩)
  have HV3 := Lib.hid (HV2.out.trans (hb3.mono HV2.out.size))
  have HGA := Lib.hid hbs
  clear hbs
  refine hK.out _ _ (⟨(hb3.block _ (lt_heap hS2v.1)).trans hS2v.1, hS2v.2.1.on hb3, hS2v.2.2.on hb3⟩) (fun hS3 => ?_)
  clear hK K
  refine wpAnyH_ready (rs := [22]) (by kernel_rfl) (by simp) ?_
  refine AllReadyH.cons rfl (fun K hK => ?_) AllReadyH.nil
  have hcv := conv_bs HGA.out
  go_simp
  clear hcv
  refine hK.out _ _ (hS3) (fun hS3v => ?_)
  clear hK K
  refine wpAnyH_take (i := 23) (v := ?_) rfl (by kernel_rfl) (by kernel_rfl) (by kernel_rfl) (fun _ _ _ h => h) (Or.inl ⟨by kernel_rfl, by (intro wz hSz; go_simp; try with_reducible rfl)⟩) hS3v ?_
  go_simp
  refine wpAnyH_take (i := 24) (v := ?_) rfl (by kernel_rfl) (by kernel_rfl) (by kernel_rfl) (fun _ _ _ h => h) (Or.inl ⟨by kernel_rfl, by (intro wz hSz; go_simp; try with_reducible rfl)⟩) hS3v ?_
  go_simp
  refine wpAnyH_take (i := 25) (v := ?_) rfl (by kernel_rfl) (by kernel_rfl) (by kernel_rfl) (fun _ _ _ h => h) (Or.inl ⟨by kernel_rfl, by (intro wz hSz; go_simp; try with_reducible rfl)⟩) hS3v ?_
  go_simp
  refine wpAnyH_take (i := 26) (v := ?_) rfl (by kernel_rfl) (by kernel_rfl) (by kernel_rfl) (fun _ _ _ h => h) (Or.inl ⟨by kernel_rfl, by (intro wz hSz; go_simp; try with_reducible rfl)⟩) hS3v ?_
  go_simp
  refine wpAnyH_take (i := 27) (v := ?_) rfl (by kernel_rfl) (by kernel_rfl) (by kernel_rfl) (fun _ _ _ h => h) (Or.inl ⟨by kernel_rfl, by (intro wz hSz; go_simp; try with_reducible rfl)⟩) hS3v ?_
  go_simp
  refine wpAnyH_take (i := 28) (v := ?_) rfl (by kernel_rfl) (by kernel_rfl) (by kernel_rfl) (fun _ _ _ h => h) (Or.inl ⟨by kernel_rfl, by (intro wz hSz; go_simp; try with_reducible rfl)⟩) hS3v ?_
  go_simp
  refine wpAnyH_take (i := 29) (v := ?_) rfl (by kernel_rfl) (by kernel_rfl) (by kernel_rfl) (fun _ _ _ h => h) (Or.inl ⟨by kernel_rfl, by (intro wz hSz; go_simp; try with_reducible rfl)⟩) hS3v ?_
  go_simp
  refine wpAnyH_take (i := 30) (v := undef) rfl (by kernel_rfl) (by kernel_rfl) (by kernel_rfl) (fun _ _ _ h => h) (Or.inr ⟨by kernel_rfl, rfl⟩) hS3v ?_
  go_simp
  refine wpAnyH_take (i := 31) (v := undef) rfl (by kernel_rfl) (by kernel_rfl) (by kernel_rfl) (fun _ _ _ h => h) (Or.inr ⟨by kernel_rfl, rfl⟩) hS3v ?_
  go_simp
  refine wpAnyH_take (i := 32) (v := undef) rfl (by kernel_rfl) (by kernel_rfl) (by kernel_rfl) (fun _ _ _ h => h) (Or.inr ⟨by kernel_rfl, rfl⟩) hS3v ?_
  go_simp
  refine wpAnyH_take (i := 33) (v := ?_) rfl (by kernel_rfl) (by kernel_rfl) (by kernel_rfl) (fun _ _ _ h => h) (Or.inl ⟨by kernel_rfl, by (intro wz hSz; go_simp; try with_reducible rfl)⟩) hS3v ?_
  go_simp
  refine wpAnyH_take (i := 34) (v := ?_) rfl (by kernel_rfl) (by kernel_rfl) (by kernel_rfl) (fun _ _ _ h => h) (Or.inl ⟨by kernel_rfl, by (intro wz hSz; go_simp; try with_reducible rfl)⟩) hS3v ?_
  go_simp
  refine wpAnyH_take (i := 35) (v := ?_) rfl (by kernel_rfl) (by kernel_rfl) (by kernel_rfl) (fun _ _ _ h => h) (Or.inl ⟨by kernel_rfl, by (intro wz hSz; go_simp; try with_reducible rfl)⟩) hS3v ?_
  go_simp
  refine wpAnyH_take (i := 36) (v := ?_) rfl (by kernel_rfl) (by kernel_rfl) (by kernel_rfl) (fun _ _ _ h => h) (Or.inl ⟨by kernel_rfl, by (intro wz hSz; go_simp; try with_reducible rfl)⟩) hS3v ?_
  go_simp
  refine wpAnyH_take (i := 37) (v := ?_) rfl (by kernel_rfl) (by kernel_rfl) (by kernel_rfl) (fun _ _ _ h => h) (Or.inl ⟨by kernel_rfl, by (intro wz hSz; go_simp; try with_reducible rfl)⟩) hS3v ?_
  go_simp
  refine wpAnyH_take (i := 38) (v := ?_) rfl (by kernel_rfl) (by kernel_rfl) (by kernel_rfl) (fun _ _ _ h => h) (Or.inl ⟨by kernel_rfl, by (intro wz hSz; go_simp; try with_reducible rfl)⟩) hS3v ?_
  go_simp
  refine wpAnyH_take (i := 39) (v := undef) rfl (by kernel_rfl) (by kernel_rfl) (by kernel_rfl) (fun _ _ _ h => h) (Or.inr ⟨by kernel_rfl, rfl⟩) hS3v ?_
  go_simp
  refine wpAnyH_take (i := 40) (v := undef) rfl (by kernel_rfl) (by kernel_rfl) (by kernel_rfl) (fun _ _ _ h => h) (Or.inr ⟨by kernel_rfl, rfl⟩) hS3v ?_
  go_simp
  refine wpAnyH_take (i := 41) (v := undef) rfl (by kernel_rfl) (by kernel_rfl) (by kernel_rfl) (fun _ _ _ h => h) (Or.inr ⟨by kernel_rfl, rfl⟩) hS3v ?_
  go_simp
  refine wpAnyH_take (i := 42) (v := ?_) rfl (by kernel_rfl) (by kernel_rfl) (by kernel_rfl) (fun _ _ _ h => h) (Or.inl ⟨by kernel_rfl, by (intro wz hSz; go_simp; try with_reducible rfl)⟩) hS3v ?_
  go_simp
  refine wpAnyH_take (i := 43) (v := ?_) rfl (by kernel_rfl) (by kernel_rfl) (by kernel_rfl) (fun _ _ _ h => h) (Or.inl ⟨by kernel_rfl, by (intro wz hSz; go_simp; try with_reducible rfl)⟩) hS3v ?_
  go_simp
  refine wpAnyH_take (i := 44) (v := ?_) rfl (by kernel_rfl) (by kernel_rfl) (by kernel_rfl) (fun _ _ _ h => h) (Or.inl ⟨by kernel_rfl, by (intro wz hSz; go_simp; try with_reducible rfl)⟩) hS3v ?_
  go_simp
  refine wpAnyH_done (by kernel_rfl) ?_ _
  go_wp2
  go_ret
  exact ⟨rfl, HV3.out⟩

theorem walk (f : Flm) (p : Pl) (w : World) (hc : Came w f p) : Calls Try.prog 4 #[.agg (FC f p)] w fun e' w' => e' = .returned (.bool true) ∧ Below w.heap.size w w' := by
  obtain ⟨W, H, nl, nd, nn, nb, ns, nf, L, D, N, B, S, F⟩ := f
  obtain ⟨al, cl, ad, cd, an, cn, ab, cb, ax, cx, af, cf⟩ := p
  by_cases k1 : 5000 < nl
  · exact big_l W H al ad an ab ax af cl cd cn cb cx cf nl nd nn nb ns nf L D N B S F w hc k1
  by_cases k2 : 5000 < ns
  · exact big_s W H al ad an ab ax af cl cd cn cb cx cf nl nd nn nb ns nf L D N B S F w hc k1 k2
  by_cases e2 : okSh W H nl
  · by_cases e3 : okF ⟨W, H, nl, nd, nn, nb, ns, nf, L, D, N, B, S, F⟩
    · exact case_2 W H al ad an ab ax af cl cd cn cb cx cf nl nd nn nb ns nf L D N B S F w hc k1 k2 e2 e3
    · exact case_1 W H al ad an ab ax af cl cd cn cb cx cf nl nd nn nb ns nf L D N B S F w hc k1 k2 e2 e3
  · exact case_0 W H al ad an ab ax af cl cd cn cb cx cf nl nd nn nb ns nf L D N B S F w hc k1 k2 e2 (fun k => e2 k.1)

end Go.Proofs.Ytgkfoiekminfmaa.filmWritesW
