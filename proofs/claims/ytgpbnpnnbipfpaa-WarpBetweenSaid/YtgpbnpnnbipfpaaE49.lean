/- Films mixed, by the program: Blend, Kept by the document. -/
import Derived.Test.YtgpbnpnnbipfpaaE48
import Derived.Test.YtgpbnpnnbipfpaaE22
import Derived.Test.YtgpbnpnnbipfpaaE29
namespace Go.Proofs.Ytgpbnpnnbipfpaa.Fm
open Go Go.RowKit Go.Proofs.Ytgpbnpnnbipfpaa Go.Proofs.Ytgpbnpnnbipfpaa.Rp Go.Proofs.Ytgpbnpnnbipfpaa.Re Go.Proofs.Ytgpbnpnnbipfpaa.Au Go.Proofs.Ytgpbnpnnbipfpaa.Jw
set_option linter.unusedVariables false
set_option linter.unusedSimpArgs false

theorem dpast_y (f g : Flm) (p q : Pl) (w : World) (i k : Nat) (hf : FAt w f p) (hg : FAt w g q) (of : okF f) (og : okF g) (hi : i < f.nf) (hp : hasPast f g i) (hk : f.F i = k) :
    Calls Try.prog 28 #[.agg (FC f p), .agg (FC g q), .int .i64 i] w fun e w' => e = .returned (.int .i64 k) ∧ Below w.heap.size w w' := by
  have h := dpast_any f g p q w i hf hg of og hi
  rwa [if_pos hp, hk] at h

theorem dpast_n (f g : Flm) (p q : Pl) (w : World) (i : Nat) (hf : FAt w f p) (hg : FAt w g q) (of : okF f) (og : okF g) (hi : i < f.nf) (hp : ¬ hasPast f g i) :
    Calls Try.prog 28 #[.agg (FC f p), .agg (FC g q), .int .i64 i] w fun e w' => e = .returned (.int .i64 (-1)) ∧ Below w.heap.size w w' := by
  have h := dpast_any f g p q w i hf hg of og hi
  rwa [if_neg hp] at h

theorem flatc_blend_no (f g : Flm) (M : Nat → Int) (k : Nat) (hp : ¬ hasPast f g k) (x0 x1 x2 : Int) (h0 : x0 = f.L (k * 3)) (h1 : x1 = f.L (k * 3 + 1)) (h2 : x2 = f.L (k * 3 + 2)) :
    flatc 3 (blend f g M) (k + 1) = flatc 3 (blend f g M) k ++ [.int .i64 x0, .int .i64 x1, .int .i64 x2] := by
  have e : ∀ c, c < 3 → blend f g M (k * 3 + c) = f.L (k * 3 + c) := by
    intro c hc
    unfold blend
    rw [if_neg (by rw [show (k * 3 + c) / 3 = k by omega]; exact hp)]
  rw [flatc_step3, h0, h1, h2, show blend f g M (k * 3) = f.L (k * 3) from e 0 (by omega), e 1 (by omega), e 2 (by omega)]

theorem flatc_blend_yes (f g : Flm) (M : Nat → Int) (k p : Nat) (hp : hasPast f g k) (hk : f.F k = p) (r0 r1 r2 : Int) (h0 : r0 = Pl.lerp (f.L (k * 3)) (M (p * 3)) 32768) (h1 : r1 = Pl.lerp (f.L (k * 3 + 1)) (M (p * 3 + 1)) 32768) (h2 : r2 = Pl.lerp (f.L (k * 3 + 2)) (M (p * 3 + 2)) 32768) :
    flatc 3 (blend f g M) (k + 1) = flatc 3 (blend f g M) k ++ [.int .i64 r0, .int .i64 r1, .int .i64 r2] := by
  have hk' : (f.F k).toNat = p := by omega
  have e : ∀ c, c < 3 → blend f g M (k * 3 + c) = Pl.lerp (f.L (k * 3 + c)) (M (p * 3 + c)) 32768 := by
    intro c hc
    unfold blend
    rw [show (k * 3 + c) / 3 = k by omega, if_pos hp, hk', show (k * 3 + c) % 3 = c by omega]
  rw [flatc_step3, h0, h1, h2, show blend f g M (k * 3) = Pl.lerp (f.L (k * 3)) (M (p * 3)) 32768 from e 0 (by omega), e 1 (by omega), e 2 (by omega)]

set_option maxHeartbeats 8000000 in
set_option maxRecDepth 100000 in
theorem dblend_f (W H : Int) (al ad an ab ax af : Option Addr) (cl cd cn cb cx cf nl nd nn nb ns nf : Nat) (L D N B S F : Nat → Int) (W2 H2 : Int) (al2 ad2 an2 ab2 ax2 af2 : Option Addr) (cl2 cd2 cn2 cb2 cx2 cf2 nl2 nd2 nn2 nb2 ns2 nf2 : Nat) (L2 D2 N2 B2 S2 F2 : Nat → Int) (W3 H3 : Int) (am : Option Addr) (nm cm : Nat) (M : Nat → Int) (w : World) (hf : FAt w (⟨W, H, nl, nd, nn, nb, ns, nf, L, D, N, B, S, F⟩ : Flm) (⟨al, cl, ad, cd, an, cn, ab, cb, ax, cx, af, cf⟩ : Pl)) (hg : FAt w (⟨W2, H2, nl2, nd2, nn2, nb2, ns2, nf2, L2, D2, N2, B2, S2, F2⟩ : Flm) (⟨al2, cl2, ad2, cd2, an2, cn2, ab2, cb2, ax2, cx2, af2, cf2⟩ : Pl)) (hm : Rw 3 w am nm M) (ho : ¬ okF (⟨W, H, nl, nd, nn, nb, ns, nf, L, D, N, B, S, F⟩ : Flm)) : Calls Try.prog 10 #[.agg #[.int .i64 W, .int .i64 H, .slice al nl cl, .slice ad nd cd, .slice an nn cn, .slice ab nb cb, .slice ax ns cx, .slice af nf cf], .agg #[.int .i64 W2, .int .i64 H2, .slice al2 nl2 cl2, .slice ad2 nd2 cd2, .slice an2 nn2 cn2, .slice ab2 nb2 cb2, .slice ax2 ns2 cx2, .slice af2 nf2 cf2], .agg #[.int .i64 W3, .int .i64 H3, .slice am nm cm]] w fun e' w' => e' = .returned (.tuple #[.agg #[.int .i64 0, .int .i64 0, .slice none 0 0], .int .i64 1]) ∧ Below w.heap.size w w' := by
  have HF := Lib.hid hf
  have HG := Lib.hid hg
  have HM := Lib.hid hm
  clear hf hg hm
  have HO := Lib.hid ho
  clear ho
  go_enter Try.func10, Try.ntmps10
  go_upto_region 1 with fail
  have hR := Au.rows4 w (.cells #[.int .i64 W, .int .i64 H, .slice al nl cl, .slice ad nd cd, .slice an nn cn, .slice ab nb cb, .slice ax ns cx, .slice af nf cf] 29) (.cells #[.int .i64 W2, .int .i64 H2, .slice al2 nl2 cl2, .slice ad2 nd2 cd2, .slice an2 nn2 cn2, .slice ab2 nb2 cb2, .slice ax2 ns2 cx2, .slice af2 nf2 cf2] 29) (.cells #[.int .i64 W3, .int .i64 H3, .slice am nm cm] 24) (.cells #[.int .i64 0, .int .i64 0, .slice none 0 0] 24)
  have HUx := Ve.below_n4 w (.cells #[.int .i64 W, .int .i64 H, .slice al nl cl, .slice ad nd cd, .slice an nn cn, .slice ab nb cb, .slice ax ns cx, .slice af nf cf] 29) (.cells #[.int .i64 W2, .int .i64 H2, .slice al2 nl2 cl2, .slice ad2 nd2 cd2, .slice an2 nn2 cn2, .slice ab2 nb2 cb2, .slice ax2 ns2 cx2, .slice af2 nf2 cf2] 29) (.cells #[.int .i64 W3, .int .i64 H3, .slice am nm cm] 24) (.cells #[.int .i64 0, .int .i64 0, .slice none 0 0] 24)
  obtain ⟨y0, hy0⟩ : ∃ y0, (((w.alloc (.cells #[.int .i64 W, .int .i64 H, .slice al nl cl, .slice ad nd cd, .slice an nn cn, .slice ab nb cb, .slice ax ns cx, .slice af nf cf] 29)).alloc (.cells #[.int .i64 W2, .int .i64 H2, .slice al2 nl2 cl2, .slice ad2 nd2 cd2, .slice an2 nn2 cn2, .slice ab2 nb2 cb2, .slice ax2 ns2 cx2, .slice af2 nf2 cf2] 29)).alloc (.cells #[.int .i64 W3, .int .i64 H3, .slice am nm cm] 24)).alloc (.cells #[.int .i64 0, .int .i64 0, .slice none 0 0] 24) = y0 := ⟨_, rfl⟩
  rw [hy0] at hR HUx ⊢
  clear hy0
  have HU0 := Lib.hid HUx
  clear HUx
  obtain ⟨hr0_0, hr0_1, hr0_2, hr0_3⟩ := hR
  have c0_0 := cell_of_row _ _ 0 _ _ _ hr0_0
  have c0_1 := cell_of_row _ _ 1 _ _ _ hr0_0
  have c0_2 := cell_of_row _ _ 2 _ _ _ hr0_0
  have c0_3 := cell_of_row _ _ 3 _ _ _ hr0_0
  have c0_4 := cell_of_row _ _ 4 _ _ _ hr0_0
  have c0_5 := cell_of_row _ _ 5 _ _ _ hr0_0
  have c0_6 := cell_of_row _ _ 6 _ _ _ hr0_0
  have c0_7 := cell_of_row _ _ 7 _ _ _ hr0_0
  simp at c0_0 c0_1 c0_2 c0_3 c0_4 c0_5 c0_6 c0_7
  go_wp2_with fail
  refine (dright_any (⟨W, H, nl, nd, nn, nb, ns, nf, L, D, N, B, S, F⟩ : Flm) (⟨al, cl, ad, cd, an, cn, ab, cb, ax, cx, af, cf⟩ : Pl) _ (HF.out.on HU0.out)).mono ?_
  rintro e y1 ⟨rfl, hb1⟩
  clear c0_0 c0_1 c0_2 c0_3 c0_4 c0_5 c0_6 c0_7
  have hr1_0 := (hb1.block _ (lt_heap hr0_0)).trans hr0_0
  have hr1_1 := (hb1.block _ (lt_heap hr0_1)).trans hr0_1
  have hr1_2 := (hb1.block _ (lt_heap hr0_2)).trans hr0_2
  have hr1_3 := (hb1.block _ (lt_heap hr0_3)).trans hr0_3
  have HU1 := Lib.hid (HU0.out.trans (hb1.mono HU0.out.size))
  clear hr0_0 hr0_1 hr0_2 hr0_3 HU0
  rw [decide_eq_false HO.out]
  have c0_0 := cell_of_row _ _ 0 _ _ _ hr1_0
  have c0_1 := cell_of_row _ _ 1 _ _ _ hr1_0
  have c0_2 := cell_of_row _ _ 2 _ _ _ hr1_0
  have c0_3 := cell_of_row _ _ 3 _ _ _ hr1_0
  have c0_4 := cell_of_row _ _ 4 _ _ _ hr1_0
  have c0_5 := cell_of_row _ _ 5 _ _ _ hr1_0
  have c0_6 := cell_of_row _ _ 6 _ _ _ hr1_0
  have c0_7 := cell_of_row _ _ 7 _ _ _ hr1_0
  have c1_0 := cell_of_row _ _ 0 _ _ _ hr1_1
  have c1_1 := cell_of_row _ _ 1 _ _ _ hr1_1
  have c1_2 := cell_of_row _ _ 2 _ _ _ hr1_1
  have c1_3 := cell_of_row _ _ 3 _ _ _ hr1_1
  have c1_4 := cell_of_row _ _ 4 _ _ _ hr1_1
  have c1_5 := cell_of_row _ _ 5 _ _ _ hr1_1
  have c1_6 := cell_of_row _ _ 6 _ _ _ hr1_1
  have c1_7 := cell_of_row _ _ 7 _ _ _ hr1_1
  have c2_0 := cell_of_row _ _ 0 _ _ _ hr1_2
  have c2_1 := cell_of_row _ _ 1 _ _ _ hr1_2
  have c2_2 := cell_of_row _ _ 2 _ _ _ hr1_2
  have c3_0 := cell_of_row _ _ 0 _ _ _ hr1_3
  have c3_1 := cell_of_row _ _ 1 _ _ _ hr1_3
  have c3_2 := cell_of_row _ _ 2 _ _ _ hr1_3
  simp at c0_0 c0_1 c0_2 c0_3 c0_4 c0_5 c0_6 c0_7 c1_0 c1_1 c1_2 c1_3 c1_4 c1_5 c1_6 c1_7 c2_0 c2_1 c2_2 c3_0 c3_1 c3_2
  go_upto_region 2 with fail
  have hHr := Lib.hid hr1_3
  have hHi := Lib.hid (show (Try.prog.info? 24).map (·.size) = some (#[.int .i64 0, .int .i64 0, .slice none 0 0] : Array Value).size by kernel_rfl)
  have hHz := Lib.hid (show (#[.int .i64 0, .int .i64 0, .slice none 0 0] : Array Value).size = (#[.int .i64 0, .int .i64 0, .slice none 0 0] : Array Value).size from rfl)
  have hHo := Lib.hid (show (#[.int .i64 0, .int .i64 0, .slice none 0 0] : Array Value).all (·.oneCell') = true by simp [Value.oneCell'])
  go_wp2_with (first | (refine Au.wpList_store_row rfl 24 (.tmp 6) (.tmp 41) rfl y1 #[.int .i64 0, .int .i64 0, .slice none 0 0] #[.int .i64 0, .int .i64 0, .slice none 0 0] (w.heap.size + 1 + 1 + 1) 24 hHr.out rfl rfl hHi.out hHz.out hHo.out ?_))
  clear c0_0 c0_1 c0_2 c0_3 c0_4 c0_5 c0_6 c0_7 c1_0 c1_1 c1_2 c1_3 c1_4 c1_5 c1_6 c1_7 c2_0 c2_1 c2_2 c3_0 c3_1 c3_2
  clear hHr hHi hHz hHo
  have hN := setRow_heap _ (w.heap.size + 1 + 1 + 1) _ #[.int .i64 0, .int .i64 0, .slice none 0 0] _ _ hr1_3
  have hsz := HU1.out.size
  have HUx := below_setRow (g := w.heap.size + 1 + 1 + 1) HU1.out (by first | omega | (simp at *; omega)) #[.int .i64 0, .int .i64 0, .slice none 0 0]
  have hO : ∀ kk, kk ≠ w.heap.size + 1 + 1 + 1 → (y1.setRow (w.heap.size + 1 + 1 + 1) #[.int .i64 0, .int .i64 0, .slice none 0 0]).heap[kk]? = y1.heap[kk]? := fun kk hk => setRow_other _ _ _ _ hk
  obtain ⟨y2, hy2⟩ : ∃ y, y1.setRow (w.heap.size + 1 + 1 + 1) #[.int .i64 0, .int .i64 0, .slice none 0 0] = y := ⟨_, rfl⟩
  rw [hy2] at hN HUx hO ⊢
  clear hy2 hsz
  have HU2 := Lib.hid HUx
  clear HUx
  have hr2_0 := (hO _ (by omega)).trans hr1_0
  have hr2_1 := (hO _ (by omega)).trans hr1_1
  have hr2_2 := (hO _ (by omega)).trans hr1_2
  have hr2_3 := hN
  clear hN hO
  clear hr1_0 hr1_1 hr1_2 hr1_3 HU1
  have c3_0 := cell_of_row _ _ 0 _ _ _ hr2_3
  have c3_1 := cell_of_row _ _ 1 _ _ _ hr2_3
  have c3_2 := cell_of_row _ _ 2 _ _ _ hr2_3
  simp at c3_0 c3_1 c3_2
  go_wp2
  exact bodyPost_ret (v := .tuple #[.agg #[.int .i64 0, .int .i64 0, .slice none 0 0], .int .i64 1]) (by simp [results, Try.results10, go_sem, c3_0, c3_1, c3_2]) rfl ⟨rfl, HU2.out⟩

set_option maxHeartbeats 8000000 in
set_option maxRecDepth 100000 in
theorem dblend_g (W H : Int) (al ad an ab ax af : Option Addr) (cl cd cn cb cx cf nl nd nn nb ns nf : Nat) (L D N B S F : Nat → Int) (W2 H2 : Int) (al2 ad2 an2 ab2 ax2 af2 : Option Addr) (cl2 cd2 cn2 cb2 cx2 cf2 nl2 nd2 nn2 nb2 ns2 nf2 : Nat) (L2 D2 N2 B2 S2 F2 : Nat → Int) (W3 H3 : Int) (am : Option Addr) (nm cm : Nat) (M : Nat → Int) (w : World) (hf : FAt w (⟨W, H, nl, nd, nn, nb, ns, nf, L, D, N, B, S, F⟩ : Flm) (⟨al, cl, ad, cd, an, cn, ab, cb, ax, cx, af, cf⟩ : Pl)) (hg : FAt w (⟨W2, H2, nl2, nd2, nn2, nb2, ns2, nf2, L2, D2, N2, B2, S2, F2⟩ : Flm) (⟨al2, cl2, ad2, cd2, an2, cn2, ab2, cb2, ax2, cx2, af2, cf2⟩ : Pl)) (hm : Rw 3 w am nm M) (ho : okF (⟨W, H, nl, nd, nn, nb, ns, nf, L, D, N, B, S, F⟩ : Flm)) (ho2 : ¬ okF (⟨W2, H2, nl2, nd2, nn2, nb2, ns2, nf2, L2, D2, N2, B2, S2, F2⟩ : Flm)) : Calls Try.prog 10 #[.agg #[.int .i64 W, .int .i64 H, .slice al nl cl, .slice ad nd cd, .slice an nn cn, .slice ab nb cb, .slice ax ns cx, .slice af nf cf], .agg #[.int .i64 W2, .int .i64 H2, .slice al2 nl2 cl2, .slice ad2 nd2 cd2, .slice an2 nn2 cn2, .slice ab2 nb2 cb2, .slice ax2 ns2 cx2, .slice af2 nf2 cf2], .agg #[.int .i64 W3, .int .i64 H3, .slice am nm cm]] w fun e' w' => e' = .returned (.tuple #[.agg #[.int .i64 0, .int .i64 0, .slice none 0 0], .int .i64 1]) ∧ Below w.heap.size w w' := by
  have HF := Lib.hid hf
  have HG := Lib.hid hg
  have HM := Lib.hid hm
  clear hf hg hm
  have HO := Lib.hid ho
  clear ho
  have HO2 := Lib.hid ho2
  clear ho2
  go_enter Try.func10, Try.ntmps10
  go_upto_region 1 with fail
  have hR := Au.rows4 w (.cells #[.int .i64 W, .int .i64 H, .slice al nl cl, .slice ad nd cd, .slice an nn cn, .slice ab nb cb, .slice ax ns cx, .slice af nf cf] 29) (.cells #[.int .i64 W2, .int .i64 H2, .slice al2 nl2 cl2, .slice ad2 nd2 cd2, .slice an2 nn2 cn2, .slice ab2 nb2 cb2, .slice ax2 ns2 cx2, .slice af2 nf2 cf2] 29) (.cells #[.int .i64 W3, .int .i64 H3, .slice am nm cm] 24) (.cells #[.int .i64 0, .int .i64 0, .slice none 0 0] 24)
  have HUx := Ve.below_n4 w (.cells #[.int .i64 W, .int .i64 H, .slice al nl cl, .slice ad nd cd, .slice an nn cn, .slice ab nb cb, .slice ax ns cx, .slice af nf cf] 29) (.cells #[.int .i64 W2, .int .i64 H2, .slice al2 nl2 cl2, .slice ad2 nd2 cd2, .slice an2 nn2 cn2, .slice ab2 nb2 cb2, .slice ax2 ns2 cx2, .slice af2 nf2 cf2] 29) (.cells #[.int .i64 W3, .int .i64 H3, .slice am nm cm] 24) (.cells #[.int .i64 0, .int .i64 0, .slice none 0 0] 24)
  obtain ⟨y0, hy0⟩ : ∃ y0, (((w.alloc (.cells #[.int .i64 W, .int .i64 H, .slice al nl cl, .slice ad nd cd, .slice an nn cn, .slice ab nb cb, .slice ax ns cx, .slice af nf cf] 29)).alloc (.cells #[.int .i64 W2, .int .i64 H2, .slice al2 nl2 cl2, .slice ad2 nd2 cd2, .slice an2 nn2 cn2, .slice ab2 nb2 cb2, .slice ax2 ns2 cx2, .slice af2 nf2 cf2] 29)).alloc (.cells #[.int .i64 W3, .int .i64 H3, .slice am nm cm] 24)).alloc (.cells #[.int .i64 0, .int .i64 0, .slice none 0 0] 24) = y0 := ⟨_, rfl⟩
  rw [hy0] at hR HUx ⊢
  clear hy0
  have HU0 := Lib.hid HUx
  clear HUx
  obtain ⟨hr0_0, hr0_1, hr0_2, hr0_3⟩ := hR
  have c0_0 := cell_of_row _ _ 0 _ _ _ hr0_0
  have c0_1 := cell_of_row _ _ 1 _ _ _ hr0_0
  have c0_2 := cell_of_row _ _ 2 _ _ _ hr0_0
  have c0_3 := cell_of_row _ _ 3 _ _ _ hr0_0
  have c0_4 := cell_of_row _ _ 4 _ _ _ hr0_0
  have c0_5 := cell_of_row _ _ 5 _ _ _ hr0_0
  have c0_6 := cell_of_row _ _ 6 _ _ _ hr0_0
  have c0_7 := cell_of_row _ _ 7 _ _ _ hr0_0
  simp at c0_0 c0_1 c0_2 c0_3 c0_4 c0_5 c0_6 c0_7
  go_wp2_with fail
  refine (dright_any (⟨W, H, nl, nd, nn, nb, ns, nf, L, D, N, B, S, F⟩ : Flm) (⟨al, cl, ad, cd, an, cn, ab, cb, ax, cx, af, cf⟩ : Pl) _ (HF.out.on HU0.out)).mono ?_
  rintro e y1 ⟨rfl, hb1⟩
  clear c0_0 c0_1 c0_2 c0_3 c0_4 c0_5 c0_6 c0_7
  have hr1_0 := (hb1.block _ (lt_heap hr0_0)).trans hr0_0
  have hr1_1 := (hb1.block _ (lt_heap hr0_1)).trans hr0_1
  have hr1_2 := (hb1.block _ (lt_heap hr0_2)).trans hr0_2
  have hr1_3 := (hb1.block _ (lt_heap hr0_3)).trans hr0_3
  have HU1 := Lib.hid (HU0.out.trans (hb1.mono HU0.out.size))
  clear hr0_0 hr0_1 hr0_2 hr0_3 HU0
  rw [decide_eq_true HO.out]
  have c1_0 := cell_of_row _ _ 0 _ _ _ hr1_1
  have c1_1 := cell_of_row _ _ 1 _ _ _ hr1_1
  have c1_2 := cell_of_row _ _ 2 _ _ _ hr1_1
  have c1_3 := cell_of_row _ _ 3 _ _ _ hr1_1
  have c1_4 := cell_of_row _ _ 4 _ _ _ hr1_1
  have c1_5 := cell_of_row _ _ 5 _ _ _ hr1_1
  have c1_6 := cell_of_row _ _ 6 _ _ _ hr1_1
  have c1_7 := cell_of_row _ _ 7 _ _ _ hr1_1
  simp at c1_0 c1_1 c1_2 c1_3 c1_4 c1_5 c1_6 c1_7
  go_wp2_with fail
  refine (dright_any (⟨W2, H2, nl2, nd2, nn2, nb2, ns2, nf2, L2, D2, N2, B2, S2, F2⟩ : Flm) (⟨al2, cl2, ad2, cd2, an2, cn2, ab2, cb2, ax2, cx2, af2, cf2⟩ : Pl) _ (HG.out.on HU1.out)).mono ?_
  rintro e y2 ⟨rfl, hb2⟩
  clear c1_0 c1_1 c1_2 c1_3 c1_4 c1_5 c1_6 c1_7
  have hr2_0 := (hb2.block _ (lt_heap hr1_0)).trans hr1_0
  have hr2_1 := (hb2.block _ (lt_heap hr1_1)).trans hr1_1
  have hr2_2 := (hb2.block _ (lt_heap hr1_2)).trans hr1_2
  have hr2_3 := (hb2.block _ (lt_heap hr1_3)).trans hr1_3
  have HU2 := Lib.hid (HU1.out.trans (hb2.mono HU1.out.size))
  clear hr1_0 hr1_1 hr1_2 hr1_3 HU1
  rw [decide_eq_false HO2.out]
  have c0_0 := cell_of_row _ _ 0 _ _ _ hr2_0
  have c0_1 := cell_of_row _ _ 1 _ _ _ hr2_0
  have c0_2 := cell_of_row _ _ 2 _ _ _ hr2_0
  have c0_3 := cell_of_row _ _ 3 _ _ _ hr2_0
  have c0_4 := cell_of_row _ _ 4 _ _ _ hr2_0
  have c0_5 := cell_of_row _ _ 5 _ _ _ hr2_0
  have c0_6 := cell_of_row _ _ 6 _ _ _ hr2_0
  have c0_7 := cell_of_row _ _ 7 _ _ _ hr2_0
  have c1_0 := cell_of_row _ _ 0 _ _ _ hr2_1
  have c1_1 := cell_of_row _ _ 1 _ _ _ hr2_1
  have c1_2 := cell_of_row _ _ 2 _ _ _ hr2_1
  have c1_3 := cell_of_row _ _ 3 _ _ _ hr2_1
  have c1_4 := cell_of_row _ _ 4 _ _ _ hr2_1
  have c1_5 := cell_of_row _ _ 5 _ _ _ hr2_1
  have c1_6 := cell_of_row _ _ 6 _ _ _ hr2_1
  have c1_7 := cell_of_row _ _ 7 _ _ _ hr2_1
  have c2_0 := cell_of_row _ _ 0 _ _ _ hr2_2
  have c2_1 := cell_of_row _ _ 1 _ _ _ hr2_2
  have c2_2 := cell_of_row _ _ 2 _ _ _ hr2_2
  have c3_0 := cell_of_row _ _ 0 _ _ _ hr2_3
  have c3_1 := cell_of_row _ _ 1 _ _ _ hr2_3
  have c3_2 := cell_of_row _ _ 2 _ _ _ hr2_3
  simp at c0_0 c0_1 c0_2 c0_3 c0_4 c0_5 c0_6 c0_7 c1_0 c1_1 c1_2 c1_3 c1_4 c1_5 c1_6 c1_7 c2_0 c2_1 c2_2 c3_0 c3_1 c3_2
  go_upto_region 2 with fail
  have hHr := Lib.hid hr2_3
  have hHi := Lib.hid (show (Try.prog.info? 24).map (·.size) = some (#[.int .i64 0, .int .i64 0, .slice none 0 0] : Array Value).size by kernel_rfl)
  have hHz := Lib.hid (show (#[.int .i64 0, .int .i64 0, .slice none 0 0] : Array Value).size = (#[.int .i64 0, .int .i64 0, .slice none 0 0] : Array Value).size from rfl)
  have hHo := Lib.hid (show (#[.int .i64 0, .int .i64 0, .slice none 0 0] : Array Value).all (·.oneCell') = true by simp [Value.oneCell'])
  go_wp2_with (first | (refine Au.wpList_store_row rfl 24 (.tmp 6) (.tmp 41) rfl y2 #[.int .i64 0, .int .i64 0, .slice none 0 0] #[.int .i64 0, .int .i64 0, .slice none 0 0] (w.heap.size + 1 + 1 + 1) 24 hHr.out rfl rfl hHi.out hHz.out hHo.out ?_))
  clear c0_0 c0_1 c0_2 c0_3 c0_4 c0_5 c0_6 c0_7 c1_0 c1_1 c1_2 c1_3 c1_4 c1_5 c1_6 c1_7 c2_0 c2_1 c2_2 c3_0 c3_1 c3_2
  clear hHr hHi hHz hHo
  have hN := setRow_heap _ (w.heap.size + 1 + 1 + 1) _ #[.int .i64 0, .int .i64 0, .slice none 0 0] _ _ hr2_3
  have hsz := HU2.out.size
  have HUx := below_setRow (g := w.heap.size + 1 + 1 + 1) HU2.out (by first | omega | (simp at *; omega)) #[.int .i64 0, .int .i64 0, .slice none 0 0]
  have hO : ∀ kk, kk ≠ w.heap.size + 1 + 1 + 1 → (y2.setRow (w.heap.size + 1 + 1 + 1) #[.int .i64 0, .int .i64 0, .slice none 0 0]).heap[kk]? = y2.heap[kk]? := fun kk hk => setRow_other _ _ _ _ hk
  obtain ⟨y3, hy3⟩ : ∃ y, y2.setRow (w.heap.size + 1 + 1 + 1) #[.int .i64 0, .int .i64 0, .slice none 0 0] = y := ⟨_, rfl⟩
  rw [hy3] at hN HUx hO ⊢
  clear hy3 hsz
  have HU3 := Lib.hid HUx
  clear HUx
  have hr3_0 := (hO _ (by omega)).trans hr2_0
  have hr3_1 := (hO _ (by omega)).trans hr2_1
  have hr3_2 := (hO _ (by omega)).trans hr2_2
  have hr3_3 := hN
  clear hN hO
  clear hr2_0 hr2_1 hr2_2 hr2_3 HU2
  have c3_0 := cell_of_row _ _ 0 _ _ _ hr3_3
  have c3_1 := cell_of_row _ _ 1 _ _ _ hr3_3
  have c3_2 := cell_of_row _ _ 2 _ _ _ hr3_3
  simp at c3_0 c3_1 c3_2
  go_wp2
  exact bodyPost_ret (v := .tuple #[.agg #[.int .i64 0, .int .i64 0, .slice none 0 0], .int .i64 1]) (by simp [results, Try.results10, go_sem, c3_0, c3_1, c3_2]) rfl ⟨rfl, HU3.out⟩

set_option maxHeartbeats 8000000 in
set_option maxRecDepth 100000 in
theorem dblend_m (W H : Int) (al ad an ab ax af : Option Addr) (cl cd cn cb cx cf nl nd nn nb ns nf : Nat) (L D N B S F : Nat → Int) (W2 H2 : Int) (al2 ad2 an2 ab2 ax2 af2 : Option Addr) (cl2 cd2 cn2 cb2 cx2 cf2 nl2 nd2 nn2 nb2 ns2 nf2 : Nat) (L2 D2 N2 B2 S2 F2 : Nat → Int) (W3 H3 : Int) (am : Option Addr) (nm cm : Nat) (M : Nat → Int) (w : World) (hf : FAt w (⟨W, H, nl, nd, nn, nb, ns, nf, L, D, N, B, S, F⟩ : Flm) (⟨al, cl, ad, cd, an, cn, ab, cb, ax, cx, af, cf⟩ : Pl)) (hg : FAt w (⟨W2, H2, nl2, nd2, nn2, nb2, ns2, nf2, L2, D2, N2, B2, S2, F2⟩ : Flm) (⟨al2, cl2, ad2, cd2, an2, cn2, ab2, cb2, ax2, cx2, af2, cf2⟩ : Pl)) (hm : Rw 3 w am nm M) (ho : okF (⟨W, H, nl, nd, nn, nb, ns, nf, L, D, N, B, S, F⟩ : Flm)) (ho2 : okF (⟨W2, H2, nl2, nd2, nn2, nb2, ns2, nf2, L2, D2, N2, B2, S2, F2⟩ : Flm)) (ho3 : ¬ okSh W3 H3 nm) : Calls Try.prog 10 #[.agg #[.int .i64 W, .int .i64 H, .slice al nl cl, .slice ad nd cd, .slice an nn cn, .slice ab nb cb, .slice ax ns cx, .slice af nf cf], .agg #[.int .i64 W2, .int .i64 H2, .slice al2 nl2 cl2, .slice ad2 nd2 cd2, .slice an2 nn2 cn2, .slice ab2 nb2 cb2, .slice ax2 ns2 cx2, .slice af2 nf2 cf2], .agg #[.int .i64 W3, .int .i64 H3, .slice am nm cm]] w fun e' w' => e' = .returned (.tuple #[.agg #[.int .i64 0, .int .i64 0, .slice none 0 0], .int .i64 1]) ∧ Below w.heap.size w w' := by
  have HF := Lib.hid hf
  have HG := Lib.hid hg
  have HM := Lib.hid hm
  clear hf hg hm
  have HO := Lib.hid ho
  clear ho
  have HO2 := Lib.hid ho2
  clear ho2
  have HO3 := Lib.hid ho3
  clear ho3
  go_enter Try.func10, Try.ntmps10
  go_upto_region 1 with fail
  have hR := Au.rows4 w (.cells #[.int .i64 W, .int .i64 H, .slice al nl cl, .slice ad nd cd, .slice an nn cn, .slice ab nb cb, .slice ax ns cx, .slice af nf cf] 29) (.cells #[.int .i64 W2, .int .i64 H2, .slice al2 nl2 cl2, .slice ad2 nd2 cd2, .slice an2 nn2 cn2, .slice ab2 nb2 cb2, .slice ax2 ns2 cx2, .slice af2 nf2 cf2] 29) (.cells #[.int .i64 W3, .int .i64 H3, .slice am nm cm] 24) (.cells #[.int .i64 0, .int .i64 0, .slice none 0 0] 24)
  have HUx := Ve.below_n4 w (.cells #[.int .i64 W, .int .i64 H, .slice al nl cl, .slice ad nd cd, .slice an nn cn, .slice ab nb cb, .slice ax ns cx, .slice af nf cf] 29) (.cells #[.int .i64 W2, .int .i64 H2, .slice al2 nl2 cl2, .slice ad2 nd2 cd2, .slice an2 nn2 cn2, .slice ab2 nb2 cb2, .slice ax2 ns2 cx2, .slice af2 nf2 cf2] 29) (.cells #[.int .i64 W3, .int .i64 H3, .slice am nm cm] 24) (.cells #[.int .i64 0, .int .i64 0, .slice none 0 0] 24)
  obtain ⟨y0, hy0⟩ : ∃ y0, (((w.alloc (.cells #[.int .i64 W, .int .i64 H, .slice al nl cl, .slice ad nd cd, .slice an nn cn, .slice ab nb cb, .slice ax ns cx, .slice af nf cf] 29)).alloc (.cells #[.int .i64 W2, .int .i64 H2, .slice al2 nl2 cl2, .slice ad2 nd2 cd2, .slice an2 nn2 cn2, .slice ab2 nb2 cb2, .slice ax2 ns2 cx2, .slice af2 nf2 cf2] 29)).alloc (.cells #[.int .i64 W3, .int .i64 H3, .slice am nm cm] 24)).alloc (.cells #[.int .i64 0, .int .i64 0, .slice none 0 0] 24) = y0 := ⟨_, rfl⟩
  rw [hy0] at hR HUx ⊢
  clear hy0
  have HU0 := Lib.hid HUx
  clear HUx
  obtain ⟨hr0_0, hr0_1, hr0_2, hr0_3⟩ := hR
  have c0_0 := cell_of_row _ _ 0 _ _ _ hr0_0
  have c0_1 := cell_of_row _ _ 1 _ _ _ hr0_0
  have c0_2 := cell_of_row _ _ 2 _ _ _ hr0_0
  have c0_3 := cell_of_row _ _ 3 _ _ _ hr0_0
  have c0_4 := cell_of_row _ _ 4 _ _ _ hr0_0
  have c0_5 := cell_of_row _ _ 5 _ _ _ hr0_0
  have c0_6 := cell_of_row _ _ 6 _ _ _ hr0_0
  have c0_7 := cell_of_row _ _ 7 _ _ _ hr0_0
  simp at c0_0 c0_1 c0_2 c0_3 c0_4 c0_5 c0_6 c0_7
  go_wp2_with fail
  refine (dright_any (⟨W, H, nl, nd, nn, nb, ns, nf, L, D, N, B, S, F⟩ : Flm) (⟨al, cl, ad, cd, an, cn, ab, cb, ax, cx, af, cf⟩ : Pl) _ (HF.out.on HU0.out)).mono ?_
  rintro e y1 ⟨rfl, hb1⟩
  clear c0_0 c0_1 c0_2 c0_3 c0_4 c0_5 c0_6 c0_7
  have hr1_0 := (hb1.block _ (lt_heap hr0_0)).trans hr0_0
  have hr1_1 := (hb1.block _ (lt_heap hr0_1)).trans hr0_1
  have hr1_2 := (hb1.block _ (lt_heap hr0_2)).trans hr0_2
  have hr1_3 := (hb1.block _ (lt_heap hr0_3)).trans hr0_3
  have HU1 := Lib.hid (HU0.out.trans (hb1.mono HU0.out.size))
  clear hr0_0 hr0_1 hr0_2 hr0_3 HU0
  rw [decide_eq_true HO.out]
  have c1_0 := cell_of_row _ _ 0 _ _ _ hr1_1
  have c1_1 := cell_of_row _ _ 1 _ _ _ hr1_1
  have c1_2 := cell_of_row _ _ 2 _ _ _ hr1_1
  have c1_3 := cell_of_row _ _ 3 _ _ _ hr1_1
  have c1_4 := cell_of_row _ _ 4 _ _ _ hr1_1
  have c1_5 := cell_of_row _ _ 5 _ _ _ hr1_1
  have c1_6 := cell_of_row _ _ 6 _ _ _ hr1_1
  have c1_7 := cell_of_row _ _ 7 _ _ _ hr1_1
  simp at c1_0 c1_1 c1_2 c1_3 c1_4 c1_5 c1_6 c1_7
  go_wp2_with fail
  refine (dright_any (⟨W2, H2, nl2, nd2, nn2, nb2, ns2, nf2, L2, D2, N2, B2, S2, F2⟩ : Flm) (⟨al2, cl2, ad2, cd2, an2, cn2, ab2, cb2, ax2, cx2, af2, cf2⟩ : Pl) _ (HG.out.on HU1.out)).mono ?_
  rintro e y2 ⟨rfl, hb2⟩
  clear c1_0 c1_1 c1_2 c1_3 c1_4 c1_5 c1_6 c1_7
  have hr2_0 := (hb2.block _ (lt_heap hr1_0)).trans hr1_0
  have hr2_1 := (hb2.block _ (lt_heap hr1_1)).trans hr1_1
  have hr2_2 := (hb2.block _ (lt_heap hr1_2)).trans hr1_2
  have hr2_3 := (hb2.block _ (lt_heap hr1_3)).trans hr1_3
  have HU2 := Lib.hid (HU1.out.trans (hb2.mono HU1.out.size))
  clear hr1_0 hr1_1 hr1_2 hr1_3 HU1
  rw [decide_eq_true HO2.out]
  have c2_0 := cell_of_row _ _ 0 _ _ _ hr2_2
  have c2_1 := cell_of_row _ _ 1 _ _ _ hr2_2
  have c2_2 := cell_of_row _ _ 2 _ _ _ hr2_2
  simp at c2_0 c2_1 c2_2
  go_wp2_with fail
  refine (drsheet_any W3 H3 am nm cm _).mono ?_
  rintro e y3 ⟨rfl, hb3⟩
  clear c2_0 c2_1 c2_2
  have hr3_0 := (hb3.block _ (lt_heap hr2_0)).trans hr2_0
  have hr3_1 := (hb3.block _ (lt_heap hr2_1)).trans hr2_1
  have hr3_2 := (hb3.block _ (lt_heap hr2_2)).trans hr2_2
  have hr3_3 := (hb3.block _ (lt_heap hr2_3)).trans hr2_3
  have HU3 := Lib.hid (HU2.out.trans (hb3.mono HU2.out.size))
  clear hr2_0 hr2_1 hr2_2 hr2_3 HU2
  rw [decide_eq_false HO3.out]
  have c0_0 := cell_of_row _ _ 0 _ _ _ hr3_0
  have c0_1 := cell_of_row _ _ 1 _ _ _ hr3_0
  have c0_2 := cell_of_row _ _ 2 _ _ _ hr3_0
  have c0_3 := cell_of_row _ _ 3 _ _ _ hr3_0
  have c0_4 := cell_of_row _ _ 4 _ _ _ hr3_0
  have c0_5 := cell_of_row _ _ 5 _ _ _ hr3_0
  have c0_6 := cell_of_row _ _ 6 _ _ _ hr3_0
  have c0_7 := cell_of_row _ _ 7 _ _ _ hr3_0
  have c1_0 := cell_of_row _ _ 0 _ _ _ hr3_1
  have c1_1 := cell_of_row _ _ 1 _ _ _ hr3_1
  have c1_2 := cell_of_row _ _ 2 _ _ _ hr3_1
  have c1_3 := cell_of_row _ _ 3 _ _ _ hr3_1
  have c1_4 := cell_of_row _ _ 4 _ _ _ hr3_1
  have c1_5 := cell_of_row _ _ 5 _ _ _ hr3_1
  have c1_6 := cell_of_row _ _ 6 _ _ _ hr3_1
  have c1_7 := cell_of_row _ _ 7 _ _ _ hr3_1
  have c2_0 := cell_of_row _ _ 0 _ _ _ hr3_2
  have c2_1 := cell_of_row _ _ 1 _ _ _ hr3_2
  have c2_2 := cell_of_row _ _ 2 _ _ _ hr3_2
  have c3_0 := cell_of_row _ _ 0 _ _ _ hr3_3
  have c3_1 := cell_of_row _ _ 1 _ _ _ hr3_3
  have c3_2 := cell_of_row _ _ 2 _ _ _ hr3_3
  simp at c0_0 c0_1 c0_2 c0_3 c0_4 c0_5 c0_6 c0_7 c1_0 c1_1 c1_2 c1_3 c1_4 c1_5 c1_6 c1_7 c2_0 c2_1 c2_2 c3_0 c3_1 c3_2
  go_upto_region 2 with fail
  have hHr := Lib.hid hr3_3
  have hHi := Lib.hid (show (Try.prog.info? 24).map (·.size) = some (#[.int .i64 0, .int .i64 0, .slice none 0 0] : Array Value).size by kernel_rfl)
  have hHz := Lib.hid (show (#[.int .i64 0, .int .i64 0, .slice none 0 0] : Array Value).size = (#[.int .i64 0, .int .i64 0, .slice none 0 0] : Array Value).size from rfl)
  have hHo := Lib.hid (show (#[.int .i64 0, .int .i64 0, .slice none 0 0] : Array Value).all (·.oneCell') = true by simp [Value.oneCell'])
  go_wp2_with (first | (refine Au.wpList_store_row rfl 24 (.tmp 6) (.tmp 41) rfl y3 #[.int .i64 0, .int .i64 0, .slice none 0 0] #[.int .i64 0, .int .i64 0, .slice none 0 0] (w.heap.size + 1 + 1 + 1) 24 hHr.out rfl rfl hHi.out hHz.out hHo.out ?_))
  clear c0_0 c0_1 c0_2 c0_3 c0_4 c0_5 c0_6 c0_7 c1_0 c1_1 c1_2 c1_3 c1_4 c1_5 c1_6 c1_7 c2_0 c2_1 c2_2 c3_0 c3_1 c3_2
  clear hHr hHi hHz hHo
  have hN := setRow_heap _ (w.heap.size + 1 + 1 + 1) _ #[.int .i64 0, .int .i64 0, .slice none 0 0] _ _ hr3_3
  have hsz := HU3.out.size
  have HUx := below_setRow (g := w.heap.size + 1 + 1 + 1) HU3.out (by first | omega | (simp at *; omega)) #[.int .i64 0, .int .i64 0, .slice none 0 0]
  have hO : ∀ kk, kk ≠ w.heap.size + 1 + 1 + 1 → (y3.setRow (w.heap.size + 1 + 1 + 1) #[.int .i64 0, .int .i64 0, .slice none 0 0]).heap[kk]? = y3.heap[kk]? := fun kk hk => setRow_other _ _ _ _ hk
  obtain ⟨y4, hy4⟩ : ∃ y, y3.setRow (w.heap.size + 1 + 1 + 1) #[.int .i64 0, .int .i64 0, .slice none 0 0] = y := ⟨_, rfl⟩
  rw [hy4] at hN HUx hO ⊢
  clear hy4 hsz
  have HU4 := Lib.hid HUx
  clear HUx
  have hr4_0 := (hO _ (by omega)).trans hr3_0
  have hr4_1 := (hO _ (by omega)).trans hr3_1
  have hr4_2 := (hO _ (by omega)).trans hr3_2
  have hr4_3 := hN
  clear hN hO
  clear hr3_0 hr3_1 hr3_2 hr3_3 HU3
  have c3_0 := cell_of_row _ _ 0 _ _ _ hr4_3
  have c3_1 := cell_of_row _ _ 1 _ _ _ hr4_3
  have c3_2 := cell_of_row _ _ 2 _ _ _ hr4_3
  simp at c3_0 c3_1 c3_2
  go_wp2
  exact bodyPost_ret (v := .tuple #[.agg #[.int .i64 0, .int .i64 0, .slice none 0 0], .int .i64 1]) (by simp [results, Try.results10, go_sem, c3_0, c3_1, c3_2]) rfl ⟨rfl, HU4.out⟩

set_option maxHeartbeats 8000000 in
set_option maxRecDepth 100000 in
theorem dblend_w (W H : Int) (al ad an ab ax af : Option Addr) (cl cd cn cb cx cf nl nd nn nb ns nf : Nat) (L D N B S F : Nat → Int) (W2 H2 : Int) (al2 ad2 an2 ab2 ax2 af2 : Option Addr) (cl2 cd2 cn2 cb2 cx2 cf2 nl2 nd2 nn2 nb2 ns2 nf2 : Nat) (L2 D2 N2 B2 S2 F2 : Nat → Int) (W3 H3 : Int) (am : Option Addr) (nm cm : Nat) (M : Nat → Int) (w : World) (hf : FAt w (⟨W, H, nl, nd, nn, nb, ns, nf, L, D, N, B, S, F⟩ : Flm) (⟨al, cl, ad, cd, an, cn, ab, cb, ax, cx, af, cf⟩ : Pl)) (hg : FAt w (⟨W2, H2, nl2, nd2, nn2, nb2, ns2, nf2, L2, D2, N2, B2, S2, F2⟩ : Flm) (⟨al2, cl2, ad2, cd2, an2, cn2, ab2, cb2, ax2, cx2, af2, cf2⟩ : Pl)) (hm : Rw 3 w am nm M) (ho : okF (⟨W, H, nl, nd, nn, nb, ns, nf, L, D, N, B, S, F⟩ : Flm)) (ho2 : okF (⟨W2, H2, nl2, nd2, nn2, nb2, ns2, nf2, L2, D2, N2, B2, S2, F2⟩ : Flm)) (ho3 : okSh W3 H3 nm) (hw : ¬ W3 = W2) : Calls Try.prog 10 #[.agg #[.int .i64 W, .int .i64 H, .slice al nl cl, .slice ad nd cd, .slice an nn cn, .slice ab nb cb, .slice ax ns cx, .slice af nf cf], .agg #[.int .i64 W2, .int .i64 H2, .slice al2 nl2 cl2, .slice ad2 nd2 cd2, .slice an2 nn2 cn2, .slice ab2 nb2 cb2, .slice ax2 ns2 cx2, .slice af2 nf2 cf2], .agg #[.int .i64 W3, .int .i64 H3, .slice am nm cm]] w fun e' w' => e' = .returned (.tuple #[.agg #[.int .i64 0, .int .i64 0, .slice none 0 0], .int .i64 1]) ∧ Below w.heap.size w w' := by
  have HF := Lib.hid hf
  have HG := Lib.hid hg
  have HM := Lib.hid hm
  clear hf hg hm
  have HO := Lib.hid ho
  clear ho
  have HO2 := Lib.hid ho2
  clear ho2
  have HO3 := Lib.hid ho3
  clear ho3
  have dw : (W3 != W2) = true := by simpa using hw
  clear hw
  go_enter Try.func10, Try.ntmps10
  go_upto_region 1 with fail
  have hR := Au.rows4 w (.cells #[.int .i64 W, .int .i64 H, .slice al nl cl, .slice ad nd cd, .slice an nn cn, .slice ab nb cb, .slice ax ns cx, .slice af nf cf] 29) (.cells #[.int .i64 W2, .int .i64 H2, .slice al2 nl2 cl2, .slice ad2 nd2 cd2, .slice an2 nn2 cn2, .slice ab2 nb2 cb2, .slice ax2 ns2 cx2, .slice af2 nf2 cf2] 29) (.cells #[.int .i64 W3, .int .i64 H3, .slice am nm cm] 24) (.cells #[.int .i64 0, .int .i64 0, .slice none 0 0] 24)
  have HUx := Ve.below_n4 w (.cells #[.int .i64 W, .int .i64 H, .slice al nl cl, .slice ad nd cd, .slice an nn cn, .slice ab nb cb, .slice ax ns cx, .slice af nf cf] 29) (.cells #[.int .i64 W2, .int .i64 H2, .slice al2 nl2 cl2, .slice ad2 nd2 cd2, .slice an2 nn2 cn2, .slice ab2 nb2 cb2, .slice ax2 ns2 cx2, .slice af2 nf2 cf2] 29) (.cells #[.int .i64 W3, .int .i64 H3, .slice am nm cm] 24) (.cells #[.int .i64 0, .int .i64 0, .slice none 0 0] 24)
  obtain ⟨y0, hy0⟩ : ∃ y0, (((w.alloc (.cells #[.int .i64 W, .int .i64 H, .slice al nl cl, .slice ad nd cd, .slice an nn cn, .slice ab nb cb, .slice ax ns cx, .slice af nf cf] 29)).alloc (.cells #[.int .i64 W2, .int .i64 H2, .slice al2 nl2 cl2, .slice ad2 nd2 cd2, .slice an2 nn2 cn2, .slice ab2 nb2 cb2, .slice ax2 ns2 cx2, .slice af2 nf2 cf2] 29)).alloc (.cells #[.int .i64 W3, .int .i64 H3, .slice am nm cm] 24)).alloc (.cells #[.int .i64 0, .int .i64 0, .slice none 0 0] 24) = y0 := ⟨_, rfl⟩
  rw [hy0] at hR HUx ⊢
  clear hy0
  have HU0 := Lib.hid HUx
  clear HUx
  obtain ⟨hr0_0, hr0_1, hr0_2, hr0_3⟩ := hR
  have c0_0 := cell_of_row _ _ 0 _ _ _ hr0_0
  have c0_1 := cell_of_row _ _ 1 _ _ _ hr0_0
  have c0_2 := cell_of_row _ _ 2 _ _ _ hr0_0
  have c0_3 := cell_of_row _ _ 3 _ _ _ hr0_0
  have c0_4 := cell_of_row _ _ 4 _ _ _ hr0_0
  have c0_5 := cell_of_row _ _ 5 _ _ _ hr0_0
  have c0_6 := cell_of_row _ _ 6 _ _ _ hr0_0
  have c0_7 := cell_of_row _ _ 7 _ _ _ hr0_0
  simp at c0_0 c0_1 c0_2 c0_3 c0_4 c0_5 c0_6 c0_7
  go_wp2_with fail
  refine (dright_any (⟨W, H, nl, nd, nn, nb, ns, nf, L, D, N, B, S, F⟩ : Flm) (⟨al, cl, ad, cd, an, cn, ab, cb, ax, cx, af, cf⟩ : Pl) _ (HF.out.on HU0.out)).mono ?_
  rintro e y1 ⟨rfl, hb1⟩
  clear c0_0 c0_1 c0_2 c0_3 c0_4 c0_5 c0_6 c0_7
  have hr1_0 := (hb1.block _ (lt_heap hr0_0)).trans hr0_0
  have hr1_1 := (hb1.block _ (lt_heap hr0_1)).trans hr0_1
  have hr1_2 := (hb1.block _ (lt_heap hr0_2)).trans hr0_2
  have hr1_3 := (hb1.block _ (lt_heap hr0_3)).trans hr0_3
  have HU1 := Lib.hid (HU0.out.trans (hb1.mono HU0.out.size))
  clear hr0_0 hr0_1 hr0_2 hr0_3 HU0
  rw [decide_eq_true HO.out]
  have c1_0 := cell_of_row _ _ 0 _ _ _ hr1_1
  have c1_1 := cell_of_row _ _ 1 _ _ _ hr1_1
  have c1_2 := cell_of_row _ _ 2 _ _ _ hr1_1
  have c1_3 := cell_of_row _ _ 3 _ _ _ hr1_1
  have c1_4 := cell_of_row _ _ 4 _ _ _ hr1_1
  have c1_5 := cell_of_row _ _ 5 _ _ _ hr1_1
  have c1_6 := cell_of_row _ _ 6 _ _ _ hr1_1
  have c1_7 := cell_of_row _ _ 7 _ _ _ hr1_1
  simp at c1_0 c1_1 c1_2 c1_3 c1_4 c1_5 c1_6 c1_7
  go_wp2_with fail
  refine (dright_any (⟨W2, H2, nl2, nd2, nn2, nb2, ns2, nf2, L2, D2, N2, B2, S2, F2⟩ : Flm) (⟨al2, cl2, ad2, cd2, an2, cn2, ab2, cb2, ax2, cx2, af2, cf2⟩ : Pl) _ (HG.out.on HU1.out)).mono ?_
  rintro e y2 ⟨rfl, hb2⟩
  clear c1_0 c1_1 c1_2 c1_3 c1_4 c1_5 c1_6 c1_7
  have hr2_0 := (hb2.block _ (lt_heap hr1_0)).trans hr1_0
  have hr2_1 := (hb2.block _ (lt_heap hr1_1)).trans hr1_1
  have hr2_2 := (hb2.block _ (lt_heap hr1_2)).trans hr1_2
  have hr2_3 := (hb2.block _ (lt_heap hr1_3)).trans hr1_3
  have HU2 := Lib.hid (HU1.out.trans (hb2.mono HU1.out.size))
  clear hr1_0 hr1_1 hr1_2 hr1_3 HU1
  rw [decide_eq_true HO2.out]
  have c2_0 := cell_of_row _ _ 0 _ _ _ hr2_2
  have c2_1 := cell_of_row _ _ 1 _ _ _ hr2_2
  have c2_2 := cell_of_row _ _ 2 _ _ _ hr2_2
  simp at c2_0 c2_1 c2_2
  go_wp2_with fail
  refine (drsheet_any W3 H3 am nm cm _).mono ?_
  rintro e y3 ⟨rfl, hb3⟩
  clear c2_0 c2_1 c2_2
  have hr3_0 := (hb3.block _ (lt_heap hr2_0)).trans hr2_0
  have hr3_1 := (hb3.block _ (lt_heap hr2_1)).trans hr2_1
  have hr3_2 := (hb3.block _ (lt_heap hr2_2)).trans hr2_2
  have hr3_3 := (hb3.block _ (lt_heap hr2_3)).trans hr2_3
  have HU3 := Lib.hid (HU2.out.trans (hb3.mono HU2.out.size))
  clear hr2_0 hr2_1 hr2_2 hr2_3 HU2
  rw [decide_eq_true HO3.out]
  have c1_0 := cell_of_row _ _ 0 _ _ _ hr3_1
  have c1_1 := cell_of_row _ _ 1 _ _ _ hr3_1
  have c1_2 := cell_of_row _ _ 2 _ _ _ hr3_1
  have c1_3 := cell_of_row _ _ 3 _ _ _ hr3_1
  have c1_4 := cell_of_row _ _ 4 _ _ _ hr3_1
  have c1_5 := cell_of_row _ _ 5 _ _ _ hr3_1
  have c1_6 := cell_of_row _ _ 6 _ _ _ hr3_1
  have c1_7 := cell_of_row _ _ 7 _ _ _ hr3_1
  have c2_0 := cell_of_row _ _ 0 _ _ _ hr3_2
  have c2_1 := cell_of_row _ _ 1 _ _ _ hr3_2
  have c2_2 := cell_of_row _ _ 2 _ _ _ hr3_2
  simp at c1_0 c1_1 c1_2 c1_3 c1_4 c1_5 c1_6 c1_7 c2_0 c2_1 c2_2
  go_upto_region 2 with fail
  have hHr := Lib.hid hr3_3
  have hHi := Lib.hid (show (Try.prog.info? 24).map (·.size) = some (#[.int .i64 0, .int .i64 0, .slice none 0 0] : Array Value).size by kernel_rfl)
  have hHz := Lib.hid (show (#[.int .i64 0, .int .i64 0, .slice none 0 0] : Array Value).size = (#[.int .i64 0, .int .i64 0, .slice none 0 0] : Array Value).size from rfl)
  have hHo := Lib.hid (show (#[.int .i64 0, .int .i64 0, .slice none 0 0] : Array Value).all (·.oneCell') = true by simp [Value.oneCell'])
  go_wp2_with (first | (refine Au.wpList_store_row rfl 24 (.tmp 6) (.tmp 41) rfl y3 #[.int .i64 0, .int .i64 0, .slice none 0 0] #[.int .i64 0, .int .i64 0, .slice none 0 0] (w.heap.size + 1 + 1 + 1) 24 hHr.out rfl rfl hHi.out hHz.out hHo.out ?_))
  clear c1_0 c1_1 c1_2 c1_3 c1_4 c1_5 c1_6 c1_7 c2_0 c2_1 c2_2
  clear hHr hHi hHz hHo
  have hN := setRow_heap _ (w.heap.size + 1 + 1 + 1) _ #[.int .i64 0, .int .i64 0, .slice none 0 0] _ _ hr3_3
  have hsz := HU3.out.size
  have HUx := below_setRow (g := w.heap.size + 1 + 1 + 1) HU3.out (by first | omega | (simp at *; omega)) #[.int .i64 0, .int .i64 0, .slice none 0 0]
  have hO : ∀ kk, kk ≠ w.heap.size + 1 + 1 + 1 → (y3.setRow (w.heap.size + 1 + 1 + 1) #[.int .i64 0, .int .i64 0, .slice none 0 0]).heap[kk]? = y3.heap[kk]? := fun kk hk => setRow_other _ _ _ _ hk
  obtain ⟨y4, hy4⟩ : ∃ y, y3.setRow (w.heap.size + 1 + 1 + 1) #[.int .i64 0, .int .i64 0, .slice none 0 0] = y := ⟨_, rfl⟩
  rw [hy4] at hN HUx hO ⊢
  clear hy4 hsz
  have HU4 := Lib.hid HUx
  clear HUx
  have hr4_0 := (hO _ (by omega)).trans hr3_0
  have hr4_1 := (hO _ (by omega)).trans hr3_1
  have hr4_2 := (hO _ (by omega)).trans hr3_2
  have hr4_3 := hN
  clear hN hO
  clear hr3_0 hr3_1 hr3_2 hr3_3 HU3
  have c3_0 := cell_of_row _ _ 0 _ _ _ hr4_3
  have c3_1 := cell_of_row _ _ 1 _ _ _ hr4_3
  have c3_2 := cell_of_row _ _ 2 _ _ _ hr4_3
  simp at c3_0 c3_1 c3_2
  go_wp2
  exact bodyPost_ret (v := .tuple #[.agg #[.int .i64 0, .int .i64 0, .slice none 0 0], .int .i64 1]) (by simp [results, Try.results10, go_sem, c3_0, c3_1, c3_2]) rfl ⟨rfl, HU4.out⟩

set_option maxHeartbeats 8000000 in
set_option maxRecDepth 100000 in
theorem dblend_h (W H : Int) (al ad an ab ax af : Option Addr) (cl cd cn cb cx cf nl nd nn nb ns nf : Nat) (L D N B S F : Nat → Int) (W2 H2 : Int) (al2 ad2 an2 ab2 ax2 af2 : Option Addr) (cl2 cd2 cn2 cb2 cx2 cf2 nl2 nd2 nn2 nb2 ns2 nf2 : Nat) (L2 D2 N2 B2 S2 F2 : Nat → Int) (W3 H3 : Int) (am : Option Addr) (nm cm : Nat) (M : Nat → Int) (w : World) (hf : FAt w (⟨W, H, nl, nd, nn, nb, ns, nf, L, D, N, B, S, F⟩ : Flm) (⟨al, cl, ad, cd, an, cn, ab, cb, ax, cx, af, cf⟩ : Pl)) (hg : FAt w (⟨W2, H2, nl2, nd2, nn2, nb2, ns2, nf2, L2, D2, N2, B2, S2, F2⟩ : Flm) (⟨al2, cl2, ad2, cd2, an2, cn2, ab2, cb2, ax2, cx2, af2, cf2⟩ : Pl)) (hm : Rw 3 w am nm M) (ho : okF (⟨W, H, nl, nd, nn, nb, ns, nf, L, D, N, B, S, F⟩ : Flm)) (ho2 : okF (⟨W2, H2, nl2, nd2, nn2, nb2, ns2, nf2, L2, D2, N2, B2, S2, F2⟩ : Flm)) (ho3 : okSh W3 H3 nm) (hw : W3 = W2) (hh : ¬ H3 = H2) : Calls Try.prog 10 #[.agg #[.int .i64 W, .int .i64 H, .slice al nl cl, .slice ad nd cd, .slice an nn cn, .slice ab nb cb, .slice ax ns cx, .slice af nf cf], .agg #[.int .i64 W2, .int .i64 H2, .slice al2 nl2 cl2, .slice ad2 nd2 cd2, .slice an2 nn2 cn2, .slice ab2 nb2 cb2, .slice ax2 ns2 cx2, .slice af2 nf2 cf2], .agg #[.int .i64 W3, .int .i64 H3, .slice am nm cm]] w fun e' w' => e' = .returned (.tuple #[.agg #[.int .i64 0, .int .i64 0, .slice none 0 0], .int .i64 1]) ∧ Below w.heap.size w w' := by
  have HF := Lib.hid hf
  have HG := Lib.hid hg
  have HM := Lib.hid hm
  clear hf hg hm
  have HO := Lib.hid ho
  clear ho
  have HO2 := Lib.hid ho2
  clear ho2
  have HO3 := Lib.hid ho3
  clear ho3
  have dw : (W3 != W2) = false := by simpa using hw
  have dh : (H3 != H2) = true := by simpa using hh
  clear hw hh
  go_enter Try.func10, Try.ntmps10
  go_upto_region 1 with fail
  have hR := Au.rows4 w (.cells #[.int .i64 W, .int .i64 H, .slice al nl cl, .slice ad nd cd, .slice an nn cn, .slice ab nb cb, .slice ax ns cx, .slice af nf cf] 29) (.cells #[.int .i64 W2, .int .i64 H2, .slice al2 nl2 cl2, .slice ad2 nd2 cd2, .slice an2 nn2 cn2, .slice ab2 nb2 cb2, .slice ax2 ns2 cx2, .slice af2 nf2 cf2] 29) (.cells #[.int .i64 W3, .int .i64 H3, .slice am nm cm] 24) (.cells #[.int .i64 0, .int .i64 0, .slice none 0 0] 24)
  have HUx := Ve.below_n4 w (.cells #[.int .i64 W, .int .i64 H, .slice al nl cl, .slice ad nd cd, .slice an nn cn, .slice ab nb cb, .slice ax ns cx, .slice af nf cf] 29) (.cells #[.int .i64 W2, .int .i64 H2, .slice al2 nl2 cl2, .slice ad2 nd2 cd2, .slice an2 nn2 cn2, .slice ab2 nb2 cb2, .slice ax2 ns2 cx2, .slice af2 nf2 cf2] 29) (.cells #[.int .i64 W3, .int .i64 H3, .slice am nm cm] 24) (.cells #[.int .i64 0, .int .i64 0, .slice none 0 0] 24)
  obtain ⟨y0, hy0⟩ : ∃ y0, (((w.alloc (.cells #[.int .i64 W, .int .i64 H, .slice al nl cl, .slice ad nd cd, .slice an nn cn, .slice ab nb cb, .slice ax ns cx, .slice af nf cf] 29)).alloc (.cells #[.int .i64 W2, .int .i64 H2, .slice al2 nl2 cl2, .slice ad2 nd2 cd2, .slice an2 nn2 cn2, .slice ab2 nb2 cb2, .slice ax2 ns2 cx2, .slice af2 nf2 cf2] 29)).alloc (.cells #[.int .i64 W3, .int .i64 H3, .slice am nm cm] 24)).alloc (.cells #[.int .i64 0, .int .i64 0, .slice none 0 0] 24) = y0 := ⟨_, rfl⟩
  rw [hy0] at hR HUx ⊢
  clear hy0
  have HU0 := Lib.hid HUx
  clear HUx
  obtain ⟨hr0_0, hr0_1, hr0_2, hr0_3⟩ := hR
  have c0_0 := cell_of_row _ _ 0 _ _ _ hr0_0
  have c0_1 := cell_of_row _ _ 1 _ _ _ hr0_0
  have c0_2 := cell_of_row _ _ 2 _ _ _ hr0_0
  have c0_3 := cell_of_row _ _ 3 _ _ _ hr0_0
  have c0_4 := cell_of_row _ _ 4 _ _ _ hr0_0
  have c0_5 := cell_of_row _ _ 5 _ _ _ hr0_0
  have c0_6 := cell_of_row _ _ 6 _ _ _ hr0_0
  have c0_7 := cell_of_row _ _ 7 _ _ _ hr0_0
  simp at c0_0 c0_1 c0_2 c0_3 c0_4 c0_5 c0_6 c0_7
  go_wp2_with fail
  refine (dright_any (⟨W, H, nl, nd, nn, nb, ns, nf, L, D, N, B, S, F⟩ : Flm) (⟨al, cl, ad, cd, an, cn, ab, cb, ax, cx, af, cf⟩ : Pl) _ (HF.out.on HU0.out)).mono ?_
  rintro e y1 ⟨rfl, hb1⟩
  clear c0_0 c0_1 c0_2 c0_3 c0_4 c0_5 c0_6 c0_7
  have hr1_0 := (hb1.block _ (lt_heap hr0_0)).trans hr0_0
  have hr1_1 := (hb1.block _ (lt_heap hr0_1)).trans hr0_1
  have hr1_2 := (hb1.block _ (lt_heap hr0_2)).trans hr0_2
  have hr1_3 := (hb1.block _ (lt_heap hr0_3)).trans hr0_3
  have HU1 := Lib.hid (HU0.out.trans (hb1.mono HU0.out.size))
  clear hr0_0 hr0_1 hr0_2 hr0_3 HU0
  rw [decide_eq_true HO.out]
  have c1_0 := cell_of_row _ _ 0 _ _ _ hr1_1
  have c1_1 := cell_of_row _ _ 1 _ _ _ hr1_1
  have c1_2 := cell_of_row _ _ 2 _ _ _ hr1_1
  have c1_3 := cell_of_row _ _ 3 _ _ _ hr1_1
  have c1_4 := cell_of_row _ _ 4 _ _ _ hr1_1
  have c1_5 := cell_of_row _ _ 5 _ _ _ hr1_1
  have c1_6 := cell_of_row _ _ 6 _ _ _ hr1_1
  have c1_7 := cell_of_row _ _ 7 _ _ _ hr1_1
  simp at c1_0 c1_1 c1_2 c1_3 c1_4 c1_5 c1_6 c1_7
  go_wp2_with fail
  refine (dright_any (⟨W2, H2, nl2, nd2, nn2, nb2, ns2, nf2, L2, D2, N2, B2, S2, F2⟩ : Flm) (⟨al2, cl2, ad2, cd2, an2, cn2, ab2, cb2, ax2, cx2, af2, cf2⟩ : Pl) _ (HG.out.on HU1.out)).mono ?_
  rintro e y2 ⟨rfl, hb2⟩
  clear c1_0 c1_1 c1_2 c1_3 c1_4 c1_5 c1_6 c1_7
  have hr2_0 := (hb2.block _ (lt_heap hr1_0)).trans hr1_0
  have hr2_1 := (hb2.block _ (lt_heap hr1_1)).trans hr1_1
  have hr2_2 := (hb2.block _ (lt_heap hr1_2)).trans hr1_2
  have hr2_3 := (hb2.block _ (lt_heap hr1_3)).trans hr1_3
  have HU2 := Lib.hid (HU1.out.trans (hb2.mono HU1.out.size))
  clear hr1_0 hr1_1 hr1_2 hr1_3 HU1
  rw [decide_eq_true HO2.out]
  have c2_0 := cell_of_row _ _ 0 _ _ _ hr2_2
  have c2_1 := cell_of_row _ _ 1 _ _ _ hr2_2
  have c2_2 := cell_of_row _ _ 2 _ _ _ hr2_2
  simp at c2_0 c2_1 c2_2
  go_wp2_with fail
  refine (drsheet_any W3 H3 am nm cm _).mono ?_
  rintro e y3 ⟨rfl, hb3⟩
  clear c2_0 c2_1 c2_2
  have hr3_0 := (hb3.block _ (lt_heap hr2_0)).trans hr2_0
  have hr3_1 := (hb3.block _ (lt_heap hr2_1)).trans hr2_1
  have hr3_2 := (hb3.block _ (lt_heap hr2_2)).trans hr2_2
  have hr3_3 := (hb3.block _ (lt_heap hr2_3)).trans hr2_3
  have HU3 := Lib.hid (HU2.out.trans (hb3.mono HU2.out.size))
  clear hr2_0 hr2_1 hr2_2 hr2_3 HU2
  rw [decide_eq_true HO3.out]
  have c1_0 := cell_of_row _ _ 0 _ _ _ hr3_1
  have c1_1 := cell_of_row _ _ 1 _ _ _ hr3_1
  have c1_2 := cell_of_row _ _ 2 _ _ _ hr3_1
  have c1_3 := cell_of_row _ _ 3 _ _ _ hr3_1
  have c1_4 := cell_of_row _ _ 4 _ _ _ hr3_1
  have c1_5 := cell_of_row _ _ 5 _ _ _ hr3_1
  have c1_6 := cell_of_row _ _ 6 _ _ _ hr3_1
  have c1_7 := cell_of_row _ _ 7 _ _ _ hr3_1
  have c2_0 := cell_of_row _ _ 0 _ _ _ hr3_2
  have c2_1 := cell_of_row _ _ 1 _ _ _ hr3_2
  have c2_2 := cell_of_row _ _ 2 _ _ _ hr3_2
  simp at c1_0 c1_1 c1_2 c1_3 c1_4 c1_5 c1_6 c1_7 c2_0 c2_1 c2_2
  go_upto_region 2 with fail
  have hHr := Lib.hid hr3_3
  have hHi := Lib.hid (show (Try.prog.info? 24).map (·.size) = some (#[.int .i64 0, .int .i64 0, .slice none 0 0] : Array Value).size by kernel_rfl)
  have hHz := Lib.hid (show (#[.int .i64 0, .int .i64 0, .slice none 0 0] : Array Value).size = (#[.int .i64 0, .int .i64 0, .slice none 0 0] : Array Value).size from rfl)
  have hHo := Lib.hid (show (#[.int .i64 0, .int .i64 0, .slice none 0 0] : Array Value).all (·.oneCell') = true by simp [Value.oneCell'])
  go_wp2_with (first | (refine Au.wpList_store_row rfl 24 (.tmp 6) (.tmp 41) rfl y3 #[.int .i64 0, .int .i64 0, .slice none 0 0] #[.int .i64 0, .int .i64 0, .slice none 0 0] (w.heap.size + 1 + 1 + 1) 24 hHr.out rfl rfl hHi.out hHz.out hHo.out ?_))
  clear c1_0 c1_1 c1_2 c1_3 c1_4 c1_5 c1_6 c1_7 c2_0 c2_1 c2_2
  clear hHr hHi hHz hHo
  have hN := setRow_heap _ (w.heap.size + 1 + 1 + 1) _ #[.int .i64 0, .int .i64 0, .slice none 0 0] _ _ hr3_3
  have hsz := HU3.out.size
  have HUx := below_setRow (g := w.heap.size + 1 + 1 + 1) HU3.out (by first | omega | (simp at *; omega)) #[.int .i64 0, .int .i64 0, .slice none 0 0]
  have hO : ∀ kk, kk ≠ w.heap.size + 1 + 1 + 1 → (y3.setRow (w.heap.size + 1 + 1 + 1) #[.int .i64 0, .int .i64 0, .slice none 0 0]).heap[kk]? = y3.heap[kk]? := fun kk hk => setRow_other _ _ _ _ hk
  obtain ⟨y4, hy4⟩ : ∃ y, y3.setRow (w.heap.size + 1 + 1 + 1) #[.int .i64 0, .int .i64 0, .slice none 0 0] = y := ⟨_, rfl⟩
  rw [hy4] at hN HUx hO ⊢
  clear hy4 hsz
  have HU4 := Lib.hid HUx
  clear HUx
  have hr4_0 := (hO _ (by omega)).trans hr3_0
  have hr4_1 := (hO _ (by omega)).trans hr3_1
  have hr4_2 := (hO _ (by omega)).trans hr3_2
  have hr4_3 := hN
  clear hN hO
  clear hr3_0 hr3_1 hr3_2 hr3_3 HU3
  have c3_0 := cell_of_row _ _ 0 _ _ _ hr4_3
  have c3_1 := cell_of_row _ _ 1 _ _ _ hr4_3
  have c3_2 := cell_of_row _ _ 2 _ _ _ hr4_3
  simp at c3_0 c3_1 c3_2
  go_wp2
  exact bodyPost_ret (v := .tuple #[.agg #[.int .i64 0, .int .i64 0, .slice none 0 0], .int .i64 1]) (by simp [results, Try.results10, go_sem, c3_0, c3_1, c3_2]) rfl ⟨rfl, HU4.out⟩

set_option maxHeartbeats 8000000 in
set_option maxRecDepth 100000 in
theorem dblend_yes (W H : Int) (al ad an ab ax af : Option Addr) (cl cd cn cb cx cf nl nd nn nb ns nf : Nat) (L D N B S F : Nat → Int) (W2 H2 : Int) (al2 ad2 an2 ab2 ax2 af2 : Option Addr) (cl2 cd2 cn2 cb2 cx2 cf2 nl2 nd2 nn2 nb2 ns2 nf2 : Nat) (L2 D2 N2 B2 S2 F2 : Nat → Int) (W3 H3 : Int) (am : Option Addr) (nm cm : Nat) (M : Nat → Int) (w : World) (hf : FAt w (⟨W, H, nl, nd, nn, nb, ns, nf, L, D, N, B, S, F⟩ : Flm) (⟨al, cl, ad, cd, an, cn, ab, cb, ax, cx, af, cf⟩ : Pl)) (hg : FAt w (⟨W2, H2, nl2, nd2, nn2, nb2, ns2, nf2, L2, D2, N2, B2, S2, F2⟩ : Flm) (⟨al2, cl2, ad2, cd2, an2, cn2, ab2, cb2, ax2, cx2, af2, cf2⟩ : Pl)) (hm : Rw 3 w am nm M) (ho : okF (⟨W, H, nl, nd, nn, nb, ns, nf, L, D, N, B, S, F⟩ : Flm)) (ho2 : okF (⟨W2, H2, nl2, nd2, nn2, nb2, ns2, nf2, L2, D2, N2, B2, S2, F2⟩ : Flm)) (ho3 : okSh W3 H3 nm) (hw : W3 = W2) (hh : H3 = H2) : Calls Try.prog 10 #[.agg #[.int .i64 W, .int .i64 H, .slice al nl cl, .slice ad nd cd, .slice an nn cn, .slice ab nb cb, .slice ax ns cx, .slice af nf cf], .agg #[.int .i64 W2, .int .i64 H2, .slice al2 nl2 cl2, .slice ad2 nd2 cd2, .slice an2 nn2 cn2, .slice ab2 nb2 cb2, .slice ax2 ns2 cx2, .slice af2 nf2 cf2], .agg #[.int .i64 W3, .int .i64 H3, .slice am nm cm]] w fun e' w' => (∃ a' c', e' = .returned (.tuple #[.agg #[.int .i64 W, .int .i64 H, .slice a' nl c'], .int .i64 0]) ∧ RwP (fun b => w.heap.size ≤ b) 3 w' a' nl (blend (⟨W, H, nl, nd, nn, nb, ns, nf, L, D, N, B, S, F⟩ : Flm) (⟨W2, H2, nl2, nd2, nn2, nb2, ns2, nf2, L2, D2, N2, B2, S2, F2⟩ : Flm) M)) ∧ Below w.heap.size w w' := by
  have HF := Lib.hid hf
  have HG := Lib.hid hg
  have HM := Lib.hid hm
  clear hf hg hm
  have HO := Lib.hid ho
  clear ho
  have HO2 := Lib.hid ho2
  clear ho2
  have HO3 := Lib.hid ho3
  clear ho3
  have dw : (W3 != W2) = false := by simpa using hw
  have dh : (H3 != H2) = false := by simpa using hh
  have HN := Lib.hid (show 0 < nl ∧ nl * 24 ≤ 140737488351232 ∧ nl ≤ 5000 ∧ nf = nl by have h1 := okSz_mul HO.out.1.1; have h2 := HO.out.1.2; have h3 := HO.out.2.2.2.2.2.1; simp only [] at h1 h2 h3; omega)
  have HNM := Lib.hid (show (nm : Int) = ns2 by have h1 := HO3.out.2; have h2 := HO2.out.2.2.2.2.1.1; simp only [] at h1 h2; rw [h1, h2, hw, hh])
  clear hw hh
  go_enter Try.func10, Try.ntmps10
  go_upto_region 1 with fail
  have hR := Au.rows4 w (.cells #[.int .i64 W, .int .i64 H, .slice al nl cl, .slice ad nd cd, .slice an nn cn, .slice ab nb cb, .slice ax ns cx, .slice af nf cf] 29) (.cells #[.int .i64 W2, .int .i64 H2, .slice al2 nl2 cl2, .slice ad2 nd2 cd2, .slice an2 nn2 cn2, .slice ab2 nb2 cb2, .slice ax2 ns2 cx2, .slice af2 nf2 cf2] 29) (.cells #[.int .i64 W3, .int .i64 H3, .slice am nm cm] 24) (.cells #[.int .i64 0, .int .i64 0, .slice none 0 0] 24)
  have HUx := Ve.below_n4 w (.cells #[.int .i64 W, .int .i64 H, .slice al nl cl, .slice ad nd cd, .slice an nn cn, .slice ab nb cb, .slice ax ns cx, .slice af nf cf] 29) (.cells #[.int .i64 W2, .int .i64 H2, .slice al2 nl2 cl2, .slice ad2 nd2 cd2, .slice an2 nn2 cn2, .slice ab2 nb2 cb2, .slice ax2 ns2 cx2, .slice af2 nf2 cf2] 29) (.cells #[.int .i64 W3, .int .i64 H3, .slice am nm cm] 24) (.cells #[.int .i64 0, .int .i64 0, .slice none 0 0] 24)
  obtain ⟨y0, hy0⟩ : ∃ y0, (((w.alloc (.cells #[.int .i64 W, .int .i64 H, .slice al nl cl, .slice ad nd cd, .slice an nn cn, .slice ab nb cb, .slice ax ns cx, .slice af nf cf] 29)).alloc (.cells #[.int .i64 W2, .int .i64 H2, .slice al2 nl2 cl2, .slice ad2 nd2 cd2, .slice an2 nn2 cn2, .slice ab2 nb2 cb2, .slice ax2 ns2 cx2, .slice af2 nf2 cf2] 29)).alloc (.cells #[.int .i64 W3, .int .i64 H3, .slice am nm cm] 24)).alloc (.cells #[.int .i64 0, .int .i64 0, .slice none 0 0] 24) = y0 := ⟨_, rfl⟩
  rw [hy0] at hR HUx ⊢
  clear hy0
  have HU0 := Lib.hid HUx
  clear HUx
  obtain ⟨hr0_0, hr0_1, hr0_2, hr0_3⟩ := hR
  have c0_0 := cell_of_row _ _ 0 _ _ _ hr0_0
  have c0_1 := cell_of_row _ _ 1 _ _ _ hr0_0
  have c0_2 := cell_of_row _ _ 2 _ _ _ hr0_0
  have c0_3 := cell_of_row _ _ 3 _ _ _ hr0_0
  have c0_4 := cell_of_row _ _ 4 _ _ _ hr0_0
  have c0_5 := cell_of_row _ _ 5 _ _ _ hr0_0
  have c0_6 := cell_of_row _ _ 6 _ _ _ hr0_0
  have c0_7 := cell_of_row _ _ 7 _ _ _ hr0_0
  simp at c0_0 c0_1 c0_2 c0_3 c0_4 c0_5 c0_6 c0_7
  go_wp2_with fail
  refine (dright_any (⟨W, H, nl, nd, nn, nb, ns, nf, L, D, N, B, S, F⟩ : Flm) (⟨al, cl, ad, cd, an, cn, ab, cb, ax, cx, af, cf⟩ : Pl) _ (HF.out.on HU0.out)).mono ?_
  rintro e y1 ⟨rfl, hb1⟩
  clear c0_0 c0_1 c0_2 c0_3 c0_4 c0_5 c0_6 c0_7
  have hr1_0 := (hb1.block _ (lt_heap hr0_0)).trans hr0_0
  have hr1_1 := (hb1.block _ (lt_heap hr0_1)).trans hr0_1
  have hr1_2 := (hb1.block _ (lt_heap hr0_2)).trans hr0_2
  have hr1_3 := (hb1.block _ (lt_heap hr0_3)).trans hr0_3
  have HU1 := Lib.hid (HU0.out.trans (hb1.mono HU0.out.size))
  clear hr0_0 hr0_1 hr0_2 hr0_3 HU0
  rw [decide_eq_true HO.out]
  have c1_0 := cell_of_row _ _ 0 _ _ _ hr1_1
  have c1_1 := cell_of_row _ _ 1 _ _ _ hr1_1
  have c1_2 := cell_of_row _ _ 2 _ _ _ hr1_1
  have c1_3 := cell_of_row _ _ 3 _ _ _ hr1_1
  have c1_4 := cell_of_row _ _ 4 _ _ _ hr1_1
  have c1_5 := cell_of_row _ _ 5 _ _ _ hr1_1
  have c1_6 := cell_of_row _ _ 6 _ _ _ hr1_1
  have c1_7 := cell_of_row _ _ 7 _ _ _ hr1_1
  simp at c1_0 c1_1 c1_2 c1_3 c1_4 c1_5 c1_6 c1_7
  go_wp2_with fail
  refine (dright_any (⟨W2, H2, nl2, nd2, nn2, nb2, ns2, nf2, L2, D2, N2, B2, S2, F2⟩ : Flm) (⟨al2, cl2, ad2, cd2, an2, cn2, ab2, cb2, ax2, cx2, af2, cf2⟩ : Pl) _ (HG.out.on HU1.out)).mono ?_
  rintro e y2 ⟨rfl, hb2⟩
  clear c1_0 c1_1 c1_2 c1_3 c1_4 c1_5 c1_6 c1_7
  have hr2_0 := (hb2.block _ (lt_heap hr1_0)).trans hr1_0
  have hr2_1 := (hb2.block _ (lt_heap hr1_1)).trans hr1_1
  have hr2_2 := (hb2.block _ (lt_heap hr1_2)).trans hr1_2
  have hr2_3 := (hb2.block _ (lt_heap hr1_3)).trans hr1_3
  have HU2 := Lib.hid (HU1.out.trans (hb2.mono HU1.out.size))
  clear hr1_0 hr1_1 hr1_2 hr1_3 HU1
  rw [decide_eq_true HO2.out]
  have c2_0 := cell_of_row _ _ 0 _ _ _ hr2_2
  have c2_1 := cell_of_row _ _ 1 _ _ _ hr2_2
  have c2_2 := cell_of_row _ _ 2 _ _ _ hr2_2
  simp at c2_0 c2_1 c2_2
  go_wp2_with fail
  refine (drsheet_any W3 H3 am nm cm _).mono ?_
  rintro e y3 ⟨rfl, hb3⟩
  clear c2_0 c2_1 c2_2
  have hr3_0 := (hb3.block _ (lt_heap hr2_0)).trans hr2_0
  have hr3_1 := (hb3.block _ (lt_heap hr2_1)).trans hr2_1
  have hr3_2 := (hb3.block _ (lt_heap hr2_2)).trans hr2_2
  have hr3_3 := (hb3.block _ (lt_heap hr2_3)).trans hr2_3
  have HU3 := Lib.hid (HU2.out.trans (hb3.mono HU2.out.size))
  clear hr2_0 hr2_1 hr2_2 hr2_3 HU2
  rw [decide_eq_true HO3.out]
  have c0_0 := cell_of_row _ _ 0 _ _ _ hr3_0
  have c0_1 := cell_of_row _ _ 1 _ _ _ hr3_0
  have c0_2 := cell_of_row _ _ 2 _ _ _ hr3_0
  have c0_3 := cell_of_row _ _ 3 _ _ _ hr3_0
  have c0_4 := cell_of_row _ _ 4 _ _ _ hr3_0
  have c0_5 := cell_of_row _ _ 5 _ _ _ hr3_0
  have c0_6 := cell_of_row _ _ 6 _ _ _ hr3_0
  have c0_7 := cell_of_row _ _ 7 _ _ _ hr3_0
  have c1_0 := cell_of_row _ _ 0 _ _ _ hr3_1
  have c1_1 := cell_of_row _ _ 1 _ _ _ hr3_1
  have c1_2 := cell_of_row _ _ 2 _ _ _ hr3_1
  have c1_3 := cell_of_row _ _ 3 _ _ _ hr3_1
  have c1_4 := cell_of_row _ _ 4 _ _ _ hr3_1
  have c1_5 := cell_of_row _ _ 5 _ _ _ hr3_1
  have c1_6 := cell_of_row _ _ 6 _ _ _ hr3_1
  have c1_7 := cell_of_row _ _ 7 _ _ _ hr3_1
  have c2_0 := cell_of_row _ _ 0 _ _ _ hr3_2
  have c2_1 := cell_of_row _ _ 1 _ _ _ hr3_2
  have c2_2 := cell_of_row _ _ 2 _ _ _ hr3_2
  simp at c0_0 c0_1 c0_2 c0_3 c0_4 c0_5 c0_6 c0_7 c1_0 c1_1 c1_2 c1_3 c1_4 c1_5 c1_6 c1_7 c2_0 c2_1 c2_2
  go_upto_region 3 with fail
  clear c0_0 c0_1 c0_2 c0_3 c0_4 c0_5 c0_6 c0_7 c1_0 c1_1 c1_2 c1_3 c1_4 c1_5 c1_6 c1_7 c2_0 c2_1 c2_2
  have c0_0 := cell_of_row _ _ 0 _ _ _ hr3_0
  have c0_1 := cell_of_row _ _ 1 _ _ _ hr3_0
  have c0_2 := cell_of_row _ _ 2 _ _ _ hr3_0
  have c0_3 := cell_of_row _ _ 3 _ _ _ hr3_0
  have c0_4 := cell_of_row _ _ 4 _ _ _ hr3_0
  have c0_5 := cell_of_row _ _ 5 _ _ _ hr3_0
  have c0_6 := cell_of_row _ _ 6 _ _ _ hr3_0
  have c0_7 := cell_of_row _ _ 7 _ _ _ hr3_0
  simp at c0_0 c0_1 c0_2 c0_3 c0_4 c0_5 c0_6 c0_7
  have HA := Lib.hid (heap_alloc_last y3 (.cells #[.int .i64 0, .int .i64 0, .slice none 0 0] 24))
  have hHi := Lib.hid (show (Try.prog.info? 24).map (·.size) = some (#[.int .i64 W, .int .i64 H, .slice none 0 0] : Array Value).size by kernel_rfl)
  have hHz := Lib.hid (show (#[.int .i64 0, .int .i64 0, .slice none 0 0] : Array Value).size = (#[.int .i64 W, .int .i64 H, .slice none 0 0] : Array Value).size from rfl)
  have hHo := Lib.hid (show (#[.int .i64 W, .int .i64 H, .slice none 0 0] : Array Value).all (·.oneCell') = true by simp [Value.oneCell'])
  go_upto_region 4 with (refine Au.wpList_store_row rfl 24 (.tmp 8) (.tmp 48) rfl (y3.alloc (.cells #[.int .i64 0, .int .i64 0, .slice none 0 0] 24)) #[.int .i64 0, .int .i64 0, .slice none 0 0] #[.int .i64 W, .int .i64 H, .slice none 0 0] (y3.heap.size) 24 HA.out rfl rfl hHi.out hHz.out hHo.out ?_)
  clear c0_0 c0_1 c0_2 c0_3 c0_4 c0_5 c0_6 c0_7
  clear hHi hHz hHo
  have hN := setRow_heap _ (y3.heap.size) _ #[.int .i64 W, .int .i64 H, .slice none 0 0] _ _ HA.out
  clear HA
  have hsz := HU3.out.size
  have hb := Ve.below_n1 y3 (.cells #[.int .i64 0, .int .i64 0, .slice none 0 0] 24)
  have HUx := below_setRow (g := y3.heap.size) (HU3.out.trans (hb.mono HU3.out.size)) (by omega) #[.int .i64 W, .int .i64 H, .slice none 0 0]
  have hO : ∀ kk, kk < y3.heap.size → ((y3.alloc (.cells #[.int .i64 0, .int .i64 0, .slice none 0 0] 24)).setRow (y3.heap.size) #[.int .i64 W, .int .i64 H, .slice none 0 0]).heap[kk]? = y3.heap[kk]? := fun kk hk => (setRow_other _ _ _ _ (by omega)).trans (hb.block _ hk)
  obtain ⟨y4, hy4⟩ : ∃ y, (y3.alloc (.cells #[.int .i64 0, .int .i64 0, .slice none 0 0] 24)).setRow (y3.heap.size) #[.int .i64 W, .int .i64 H, .slice none 0 0] = y := ⟨_, rfl⟩
  have hs4 : y4.heap.size = y3.heap.size + 1 := by rw [← hy4]; simp [World.setRow]
  rw [hy4] at hN HUx hO ⊢
  clear hy4 hsz hb
  have HU4 := Lib.hid HUx
  clear HUx
  have hl4_0 := lt_heap hr3_0
  have hr4_0 := (hO _ hl4_0).trans hr3_0
  have hl4_1 := lt_heap hr3_1
  have hr4_1 := (hO _ hl4_1).trans hr3_1
  have hl4_2 := lt_heap hr3_2
  have hr4_2 := (hO _ hl4_2).trans hr3_2
  have hl4_3 := lt_heap hr3_3
  have hr4_3 := (hO _ hl4_3).trans hr3_3
  have hr4_4 := hN
  clear hN hO
  clear hr3_0 hr3_1 hr3_2 hr3_3 HU3
  obtain ⟨q, hq⟩ : ∃ q, q = y3.heap.size := ⟨_, rfl⟩
  rw [← hq] at hr4_4 ⊢
  have hql := lt_heap hr4_4
  have hqw : w.heap.size + 3 < q := by have := hl4_3; omega
  clear hq hs4
  go_upto_region 5 with fail
  obtain ⟨bl, hbl⟩ : ∃ b, b = y4.heap.size := ⟨_, rfl⟩
  have hblq : q < bl := by omega
  have hble : bl ≤ y4.heap.size := by omega
  have hblf : y4.heap.size ≤ bl := by omega
  clear hbl
  go_loopw [9] (fun ix wr => ∃ (k : Nat) (v : Value), k ≤ nl ∧ ix = .int .i64 k ∧ wr.heap[q]? = some (.cells #[.int .i64 W, .int .i64 H, v] 24 (0, 0)) ∧ Hid (wr.ownsRow bl 56 3 v k (flatc 3 (blend (⟨W, H, nl, nd, nn, nb, ns, nf, L, D, N, B, S, F⟩ : Flm) (⟨W2, H2, nl2, nd2, nn2, nb2, ns2, nf2, L2, D2, N2, B2, S2, F2⟩ : Flm) M) k)) ∧ Hid (Aw (fun z => z < bl ∧ z ≠ q) y4 wr)) (fun ix _ => nl - (intOf ix).toNat)
  case atStart => exact ⟨0, _, Nat.zero_le _, rfl, hr4_4, Lib.hid (by simpa [flatc] using World.ownsRow_nil _ _ _ _), Lib.hid (Aw.refl _ _)⟩
  case round =>
    obtain ⟨k, v, hk, rfl, hrq, HX, HA⟩ := hrel
    have hn5 := HN.out.2.2.1
    obtain ⟨i0, hi, hz0, hz1, hz2⟩ := info_parts info_dhue
    have hr5_0 := (HA.out.block _ ⟨by omega, by omega⟩ (lt_heap hr4_0)).trans hr4_0
    have hr5_1 := (HA.out.block _ ⟨by omega, by omega⟩ (lt_heap hr4_1)).trans hr4_1
    have hr5_2 := (HA.out.block _ ⟨by omega, by omega⟩ (lt_heap hr4_2)).trans hr4_2
    have hr5_3 := (HA.out.block _ ⟨by omega, by omega⟩ (lt_heap hr4_3)).trans hr4_3
    have hr5_4 := hrq
    clear hrq
    have HU5 := Lib.hid (HU4.out.trans (aw_low HA.out (b := w.heap.size) (by have := HU4.out.size; omega) (by omega) (HU4.out.size)))
    have hsw := HA.out.size
    obtain ⟨y5, hy_⟩ : ∃ y, y = wr := ⟨_, rfl⟩
    rw [← hy_] at HX HA hsw HU5 hr5_0 hr5_1 hr5_2 hr5_3 hr5_4 ⊢
    clear hy_
    clear hr4_0 hr4_1 hr4_2 hr4_3 hr4_4 HU4
    by_cases hlt : k < nl
    · have hlt' : (k : Int) < nl := by omega
      have hkf : k < nf := by have := HN.out; omega
      obtain ⟨lb, lo, hla, e0, e1, e2⟩ := (HF.out.l.on HU5.out).at3 hlt
      simp only [] at hla e0 e1 e2
      subst hla
      obtain ⟨x0, hx0⟩ : ∃ x, x = L (k * 3) := ⟨_, rfl⟩
      rw [← hx0] at e0
      obtain ⟨x1, hx1⟩ : ∃ x, x = L (k * 3 + 1) := ⟨_, rfl⟩
      rw [← hx1] at e1
      obtain ⟨x2, hx2⟩ : ∃ x, x = L (k * 3 + 2) := ⟨_, rfl⟩
      rw [← hx2] at e2
      have c0_0 := cell_of_row _ _ 0 _ _ _ hr5_0
      have c0_1 := cell_of_row _ _ 1 _ _ _ hr5_0
      have c0_2 := cell_of_row _ _ 2 _ _ _ hr5_0
      have c0_3 := cell_of_row _ _ 3 _ _ _ hr5_0
      have c0_4 := cell_of_row _ _ 4 _ _ _ hr5_0
      have c0_5 := cell_of_row _ _ 5 _ _ _ hr5_0
      have c0_6 := cell_of_row _ _ 6 _ _ _ hr5_0
      have c0_7 := cell_of_row _ _ 7 _ _ _ hr5_0
      simp at c0_0 c0_1 c0_2 c0_3 c0_4 c0_5 c0_6 c0_7
      go_upto_region 7 with fail
      clear c0_0 c0_1 c0_2 c0_3 c0_4 c0_5 c0_6 c0_7
      have HL0 := Lib.hid hx0
      clear hx0
      have HL1 := Lib.hid hx1
      clear hx1
      have HL2 := Lib.hid hx2
      clear hx2
      have c0_0 := cell_of_row _ _ 0 _ _ _ hr5_0
      have c0_1 := cell_of_row _ _ 1 _ _ _ hr5_0
      have c0_2 := cell_of_row _ _ 2 _ _ _ hr5_0
      have c0_3 := cell_of_row _ _ 3 _ _ _ hr5_0
      have c0_4 := cell_of_row _ _ 4 _ _ _ hr5_0
      have c0_5 := cell_of_row _ _ 5 _ _ _ hr5_0
      have c0_6 := cell_of_row _ _ 6 _ _ _ hr5_0
      have c0_7 := cell_of_row _ _ 7 _ _ _ hr5_0
      simp at c0_0 c0_1 c0_2 c0_3 c0_4 c0_5 c0_6 c0_7
      go_upto_region 8 with fail
      have hXlt := fun q' hq' => (HX.out.lt q' hq').2
      clear c0_0 c0_1 c0_2 c0_3 c0_4 c0_5 c0_6 c0_7
      have hb6 := Ve.below_n1 y5 (.cells #[.int .i64 x0, .int .i64 x1, .int .i64 x2] 56)
      have hN := heap_alloc_last y5 (.cells #[.int .i64 x0, .int .i64 x1, .int .i64 x2] 56)
      obtain ⟨y6, hy6⟩ : ∃ y, y5.alloc (.cells #[.int .i64 x0, .int .i64 x1, .int .i64 x2] 56) = y := ⟨_, rfl⟩
      have hs6 : y6.heap.size = y5.heap.size + 1 := by rw [← hy6]; simp
      rw [hy6] at hb6 hN ⊢
      clear hy6
      have hl6_0 := lt_heap hr5_0
      have hl6_1 := lt_heap hr5_1
      have hl6_2 := lt_heap hr5_2
      have hl6_3 := lt_heap hr5_3
      have hl6_4 := lt_heap hr5_4
      have hr6_0 := (hb6.block _ (lt_heap hr5_0)).trans hr5_0
      have hr6_1 := (hb6.block _ (lt_heap hr5_1)).trans hr5_1
      have hr6_2 := (hb6.block _ (lt_heap hr5_2)).trans hr5_2
      have hr6_3 := (hb6.block _ (lt_heap hr5_3)).trans hr5_3
      have hr6_4 := (hb6.block _ (lt_heap hr5_4)).trans hr5_4
      have HU6 := Lib.hid (HU5.out.trans (hb6.mono HU5.out.size))
      clear hr5_0 hr5_1 hr5_2 hr5_3 hr5_4 HU5
      have hr6_5 := hN
      clear hN
      have HX6 := Lib.hid (Ls.own_below HX.out hb6)
      have HA6 := Lib.hid (HA.out.trans (Aw.of hb6))
      clear HX HA
      obtain ⟨p5, hp5⟩ : ∃ q, q = y5.heap.size := ⟨_, rfl⟩
      rw [← hp5] at hr6_5 ⊢
      have hp5l := lt_heap hr6_5
      have hp5w : bl ≤ p5 := by omega
      have hp5o : ∀ q', v.ownBlock = some q' → q' < p5 := fun q' hq' => by rw [hp5]; exact hXlt q' hq'
      clear hp5 hs6
      have c0_0 := cell_of_row _ _ 0 _ _ _ hr6_0
      have c0_1 := cell_of_row _ _ 1 _ _ _ hr6_0
      have c0_2 := cell_of_row _ _ 2 _ _ _ hr6_0
      have c0_3 := cell_of_row _ _ 3 _ _ _ hr6_0
      have c0_4 := cell_of_row _ _ 4 _ _ _ hr6_0
      have c0_5 := cell_of_row _ _ 5 _ _ _ hr6_0
      have c0_6 := cell_of_row _ _ 6 _ _ _ hr6_0
      have c0_7 := cell_of_row _ _ 7 _ _ _ hr6_0
      have c1_0 := cell_of_row _ _ 0 _ _ _ hr6_1
      have c1_1 := cell_of_row _ _ 1 _ _ _ hr6_1
      have c1_2 := cell_of_row _ _ 2 _ _ _ hr6_1
      have c1_3 := cell_of_row _ _ 3 _ _ _ hr6_1
      have c1_4 := cell_of_row _ _ 4 _ _ _ hr6_1
      have c1_5 := cell_of_row _ _ 5 _ _ _ hr6_1
      have c1_6 := cell_of_row _ _ 6 _ _ _ hr6_1
      have c1_7 := cell_of_row _ _ 7 _ _ _ hr6_1
      simp at c0_0 c0_1 c0_2 c0_3 c0_4 c0_5 c0_6 c0_7 c1_0 c1_1 c1_2 c1_3 c1_4 c1_5 c1_6 c1_7
      clear e0 e1 e2
      go_wp2_with fail
      by_cases hp : hasPast (⟨W, H, nl, nd, nn, nb, ns, nf, L, D, N, B, S, F⟩ : Flm) (⟨W2, H2, nl2, nd2, nn2, nb2, ns2, nf2, L2, D2, N2, B2, S2, F2⟩ : Flm) k
      case neg =>
        have HXX := Lib.hid (flatc_blend_no (⟨W, H, nl, nd, nn, nb, ns, nf, L, D, N, B, S, F⟩ : Flm) (⟨W2, H2, nl2, nd2, nn2, nb2, ns2, nf2, L2, D2, N2, B2, S2, F2⟩ : Flm) M k hp x0 x1 x2 HL0.out HL1.out HL2.out)
        clear HL0 HL1 HL2
        refine (dpast_n (⟨W, H, nl, nd, nn, nb, ns, nf, L, D, N, B, S, F⟩ : Flm) (⟨W2, H2, nl2, nd2, nn2, nb2, ns2, nf2, L2, D2, N2, B2, S2, F2⟩ : Flm) (⟨some ⟨lb, lo, none⟩, cl, ad, cd, an, cn, ab, cb, ax, cx, af, cf⟩ : Pl) (⟨al2, cl2, ad2, cd2, an2, cn2, ab2, cb2, ax2, cx2, af2, cf2⟩ : Pl) _ k (HF.out.on HU6.out) (HG.out.on HU6.out) HO.out HO2.out hkf hp).mono ?_
        rintro e y7 ⟨rfl, hb7⟩
        clear c0_0 c0_1 c0_2 c0_3 c0_4 c0_5 c0_6 c0_7 c1_0 c1_1 c1_2 c1_3 c1_4 c1_5 c1_6 c1_7
        have hr7_0 := (hb7.block _ (lt_heap hr6_0)).trans hr6_0
        have hr7_1 := (hb7.block _ (lt_heap hr6_1)).trans hr6_1
        have hr7_2 := (hb7.block _ (lt_heap hr6_2)).trans hr6_2
        have hr7_3 := (hb7.block _ (lt_heap hr6_3)).trans hr6_3
        have hr7_4 := (hb7.block _ (lt_heap hr6_4)).trans hr6_4
        have hr7_5 := (hb7.block _ (lt_heap hr6_5)).trans hr6_5
        have HU7 := Lib.hid (HU6.out.trans (hb7.mono HU6.out.size))
        clear hr6_0 hr6_1 hr6_2 hr6_3 hr6_4 hr6_5 HU6
        have HX7 := Lib.hid (Ls.own_below HX6.out hb7)
        have HA7 := Lib.hid (HA6.out.trans (Aw.of hb7))
        clear HX6 HA6 hp
        have c5_0 := cell_of_row _ _ 0 _ _ _ hr7_5
        have c5_1 := cell_of_row _ _ 1 _ _ _ hr7_5
        have c5_2 := cell_of_row _ _ 2 _ _ _ hr7_5
        simp at c5_0 c5_1 c5_2
        have hb2 := Ve.below_n1 y7 (.cells #[.int .i64 x0, .int .i64 x1, .int .i64 x2] 56)
        have hN2 := heap_alloc_last y7 (.cells #[.int .i64 x0, .int .i64 x1, .int .i64 x2] 56)
        have HO2 := Lib.hid (Ls.own_below HX7.out hb2)
        have hs2 := hb2.size
        have hqz_ := lt_heap hr7_4
        have hzb_ : bl ≤ y7.heap.size := by have := (HA7.out).size; omega
        have cq_ := cell_of_row _ _ 2 _ _ _ hr7_4
        simp at cq_
        have hx1 := Lib.hid (World.news_of_block hN2)
        go_upto_region 11 with fail
        go_wp2_with (first | (at_builtin; refine wpList_append_lies _ rfl _ _ 22 rfl bl 56 i0 (.agg #[.int .i64 0, .int .i64 0, .int .i64 0]) 3 24 Try.underlying22 hi hz0 hz1 hz2 rfl (by decide) _ _ _ rfl HO2.out ⟨y7.heap.size, 0, none⟩ 1 1 [.int .i64 x0, .int .i64 x1, .int .i64 x2] rfl rfl hx1.out (by intro u hu; simp at hu; rcases hu with rfl | rfl | rfl <;> rfl) (by omega) ?c3 ?c4 ?c5 _ rfl ?_))
        case c3 => unfold maxLen; omega
        case c4 => omega
        case c5 => (first | omega | (simp; omega))
        intro g9 cg z3 hown hgrow hgk hlt2
        have hqo := fun r hr => (HO2.out.lt r hr).1
        have HA3 := Lib.hid ((HA7.out.trans (Aw.of hb2)).step hgrow (fun r hr => by have := hqo r hr; omega))
        rw [← HXX.out] at hown
        have hq2 := (hb2.block _ (lt_heap hr7_4)).trans hr7_4
        have hq3 := (hgrow.block q (lt_heap hq2) (fun e => by have := hqo _ e.symm; omega)).trans hq2
        have hs3 := hgrow.size
        have hqn : q ≠ g9 := by rcases hgk with h | h <;> first | omega | (have := hqo _ h; omega) | (simp at h; omega)
        clear cq_
        have p0 := cell_of_row _ _ 2 _ _ _ hq3
        simp at p0
        have fz : ∀ j, z3.frozen? ⟨q, j, none⟩ = false := fun j => by simp [World.frozen?, hq3]
        have hN : (z3.setCell ⟨q, 2, none⟩ (.slice (some ⟨g9, 0, none⟩) (k + 1) cg)).heap[q]? = some (.cells #[.int .i64 W, .int .i64 H, .slice (some ⟨g9, 0, none⟩) (k + 1) cg] 24 (0, 0)) := heap_setCell_same _ _ 2 _ _ _ hq3
        have HA4 := Lib.hid (HA3.out.set (b := q) (fun h => h.2 rfl) 2 (.slice (some ⟨g9, 0, none⟩) (k + 1) cg))
        have HO4 := Lib.hid (own_via (w' := (z3.setCell ⟨q, 2, none⟩ (.slice (some ⟨g9, 0, none⟩) (k + 1) cg))) hown (fun r hr => Below.heap_setCell _ _ _ _ (by simp [Value.ownBlock] at hr; show r ≠ q; omega)))
        go_wp2_with fail
        go_roundw
        case rel => exact ⟨k + 1, _, by omega, by go_num, hN, HO4, HA4⟩
        case measure => simp [intOf]; omega
      obtain ⟨p, hpk⟩ : ∃ p : Nat, F k = p := ⟨(F k).toNat, by have := hp.1; simp only [] at this; omega⟩
      have hpn : p < nm := by have h1 := hp.2.1; have h2 := HNM.out; simp only [] at h1; omega
      have hpn' : (p : Int) < nm := by omega
      have hp0 : decide ((0 : Int) ≤ (p : Int)) = true := decide_eq_true (by omega)
      refine (dpast_y (⟨W, H, nl, nd, nn, nb, ns, nf, L, D, N, B, S, F⟩ : Flm) (⟨W2, H2, nl2, nd2, nn2, nb2, ns2, nf2, L2, D2, N2, B2, S2, F2⟩ : Flm) (⟨some ⟨lb, lo, none⟩, cl, ad, cd, an, cn, ab, cb, ax, cx, af, cf⟩ : Pl) (⟨al2, cl2, ad2, cd2, an2, cn2, ab2, cb2, ax2, cx2, af2, cf2⟩ : Pl) _ k p (HF.out.on HU6.out) (HG.out.on HU6.out) HO.out HO2.out hkf hp hpk).mono ?_
      rintro e y7 ⟨rfl, hb7⟩
      clear c0_0 c0_1 c0_2 c0_3 c0_4 c0_5 c0_6 c0_7 c1_0 c1_1 c1_2 c1_3 c1_4 c1_5 c1_6 c1_7
      have hr7_0 := (hb7.block _ (lt_heap hr6_0)).trans hr6_0
      have hr7_1 := (hb7.block _ (lt_heap hr6_1)).trans hr6_1
      have hr7_2 := (hb7.block _ (lt_heap hr6_2)).trans hr6_2
      have hr7_3 := (hb7.block _ (lt_heap hr6_3)).trans hr6_3
      have hr7_4 := (hb7.block _ (lt_heap hr6_4)).trans hr6_4
      have hr7_5 := (hb7.block _ (lt_heap hr6_5)).trans hr6_5
      have HU7 := Lib.hid (HU6.out.trans (hb7.mono HU6.out.size))
      clear hr6_0 hr6_1 hr6_2 hr6_3 hr6_4 hr6_5 HU6
      have HX7 := Lib.hid (Ls.own_below HX6.out hb7)
      have HA7 := Lib.hid (HA6.out.trans (Aw.of hb7))
      clear HX6 HA6
      obtain ⟨mb, mo, hma, em0, em1, em2⟩ := (HM.out.on HU7.out).at3 hpn
      subst hma
      obtain ⟨m0, hm0⟩ : ∃ x, x = M (p * 3) := ⟨_, rfl⟩
      rw [← hm0] at em0
      obtain ⟨r0, hr0⟩ : ∃ x, x = Pl.lerp x0 m0 32768 := ⟨_, rfl⟩
      obtain ⟨m1, hm1⟩ : ∃ x, x = M (p * 3 + 1) := ⟨_, rfl⟩
      rw [← hm1] at em1
      obtain ⟨r1, hr1⟩ : ∃ x, x = Pl.lerp x1 m1 32768 := ⟨_, rfl⟩
      obtain ⟨m2, hm2⟩ : ∃ x, x = M (p * 3 + 2) := ⟨_, rfl⟩
      rw [← hm2] at em2
      obtain ⟨r2, hr2⟩ : ∃ x, x = Pl.lerp x2 m2 32768 := ⟨_, rfl⟩
      have HXX := Lib.hid (flatc_blend_yes (⟨W, H, nl, nd, nn, nb, ns, nf, L, D, N, B, S, F⟩ : Flm) (⟨W2, H2, nl2, nd2, nn2, nb2, ns2, nf2, L2, D2, N2, B2, S2, F2⟩ : Flm) M k p hp hpk r0 r1 r2 (by simp only []; rw [hr0, HL0.out, hm0]) (by simp only []; rw [hr1, HL1.out, hm1]) (by simp only []; rw [hr2, HL2.out, hm2]))
      have HMX := Lib.hid (show ∀ W : World, Calls Try.prog 29 #[.agg #[.int .i64 x0, .int .i64 x1, .int .i64 x2], .agg #[.int .i64 m0, .int .i64 m1, .int .i64 m2], .int .i64 32768] W fun e w' => e = .returned (.agg #[.int .i64 r0, .int .i64 r1, .int .i64 r2]) ∧ Below W.heap.size W w' from fun W => by rw [hr0, hr1, hr2]; exact He.rhmix_any x0 x1 x2 m0 m1 m2 32768 W)
      clear HL0 HL1 HL2 hm0 hm1 hm2 hr0 hr1 hr2 hp hpk
      go_upto_region 10 with fail
      refine Ol.way_drew (S := fun y => y.heap[w.heap.size + 1 + 1]? = some (.cells #[.int .i64 W3, .int .i64 H3, .slice (some ⟨mb, mo, none⟩) nm cm] 24 (0, 0)) ∧ y.heap[p5]? = some (.cells #[.int .i64 x0, .int .i64 x1, .int .i64 x2] 56 (0, 0)) ∧ y.cell? ⟨mb, mo + p * 3, none⟩ = some (.int .i64 m0) ∧ y.cell? ⟨mb, mo + p * 3 + 1, none⟩ = some (.int .i64 m1) ∧ y.cell? ⟨mb, mo + p * 3 + 2, none⟩ = some (.int .i64 m2)) (stop := 7) (by kernel_rfl) (⟨hr7_2, hr7_5, em0, em1, em2⟩) (fun hS0 => ?_)
      obtain ⟨y8, hy8⟩ : ∃ y, y7.drew = y := ⟨_, rfl⟩
      have HU8 := Lib.hid (show Below w.heap.size w y8 by rw [← hy8]; exact HU7.out.drew)
      have hr8_0 : y8.heap[w.heap.size]? = some (.cells #[.int .i64 W, .int .i64 H, .slice (some ⟨lb, lo, none⟩) nl cl, .slice ad nd cd, .slice an nn cn, .slice ab nb cb, .slice ax ns cx, .slice af nf cf] 29 (0, 0)) := by rw [← hy8]; exact hr7_0
      have hr8_1 : y8.heap[w.heap.size + 1]? = some (.cells #[.int .i64 W2, .int .i64 H2, .slice al2 nl2 cl2, .slice ad2 nd2 cd2, .slice an2 nn2 cn2, .slice ab2 nb2 cb2, .slice ax2 ns2 cx2, .slice af2 nf2 cf2] 29 (0, 0)) := by rw [← hy8]; exact hr7_1
      have hr8_2 : y8.heap[w.heap.size + 1 + 1]? = some (.cells #[.int .i64 W3, .int .i64 H3, .slice (some ⟨mb, mo, none⟩) nm cm] 24 (0, 0)) := by rw [← hy8]; exact hr7_2
      have hr8_3 : y8.heap[w.heap.size + 1 + 1 + 1]? = some (.cells #[.int .i64 0, .int .i64 0, .slice none 0 0] 24 (0, 0)) := by rw [← hy8]; exact hr7_3
      have hr8_4 : y8.heap[q]? = some (.cells #[.int .i64 W, .int .i64 H, v] 24 (0, 0)) := by rw [← hy8]; exact hr7_4
      have hr8_5 : y8.heap[p5]? = some (.cells #[.int .i64 x0, .int .i64 x1, .int .i64 x2] 56 (0, 0)) := by rw [← hy8]; exact hr7_5
      have HX8 := Lib.hid (show y8.ownsRow _ _ _ _ _ _ by rw [← hy8]; exact HX7.out)
      have HA8 := Lib.hid (show Aw _ _ y8 by rw [← hy8]; exact HA7.out.trans (Aw.of (Below.refl _ _).drew))
      rw [hy8] at hS0 ⊢
      clear hy8
      refine Ol.way_take (i := 0) (v := ?_) rfl (by kernel_rfl) (by kernel_rfl) (by kernel_rfl) (fun _ _ _ h => h) (by decide) (by kernel_rfl) (by kernel_rfl) (Or.inl ⟨by kernel_rfl, by (intro wz hSz; have c2_0 := cell_of_row _ _ 0 _ _ _ hSz.1; have c2_1 := cell_of_row _ _ 1 _ _ _ hSz.1; have c2_2 := cell_of_row _ _ 2 _ _ _ hSz.1; have c5_0 := cell_of_row _ _ 0 _ _ _ hSz.2.1; have c5_1 := cell_of_row _ _ 1 _ _ _ hSz.2.1; have c5_2 := cell_of_row _ _ 2 _ _ _ hSz.2.1; simp at c2_0 c2_1 c2_2 c5_0 c5_1 c5_2; have em0z := hSz.2.2.1; have em1z := hSz.2.2.2.1; have em2z := hSz.2.2.2.2; go_simp; try with_reducible rfl)⟩) hS0 ?_
      go_simp
      refine Ol.way_plain (i := 1) (v := ?_) rfl (by kernel_rfl) (by kernel_rfl) (by kernel_rfl) (fun _ _ _ h => h) (by decide) (Or.inl ⟨by kernel_rfl, by (intro wz _; go_simp; try with_reducible rfl)⟩) (Ol.on hS0) ?_
      go_simp
      refine Ol.way_take (i := 2) (v := ?_) rfl (by kernel_rfl) (by kernel_rfl) (by kernel_rfl) (fun _ _ _ h => h) (by decide) (by kernel_rfl) (by kernel_rfl) (Or.inl ⟨by kernel_rfl, by (intro wz hSz; have c2_0 := cell_of_row _ _ 0 _ _ _ hSz.1; have c2_1 := cell_of_row _ _ 1 _ _ _ hSz.1; have c2_2 := cell_of_row _ _ 2 _ _ _ hSz.1; have c5_0 := cell_of_row _ _ 0 _ _ _ hSz.2.1; have c5_1 := cell_of_row _ _ 1 _ _ _ hSz.2.1; have c5_2 := cell_of_row _ _ 2 _ _ _ hSz.2.1; simp at c2_0 c2_1 c2_2 c5_0 c5_1 c5_2; have em0z := hSz.2.2.1; have em1z := hSz.2.2.2.1; have em2z := hSz.2.2.2.2; go_simp; try with_reducible rfl)⟩) hS0 ?_
      go_simp
      refine Ol.way_plain (i := 3) (v := ?_) rfl (by kernel_rfl) (by kernel_rfl) (by kernel_rfl) (fun _ _ _ h => h) (by decide) (Or.inl ⟨by kernel_rfl, by (intro wz _; go_simp; try with_reducible rfl)⟩) (Ol.on hS0) ?_
      go_simp
      refine Ol.way_plain (i := 4) (v := ?_) rfl (by kernel_rfl) (by kernel_rfl) (by kernel_rfl) (fun _ _ _ h => h) (by decide) (Or.inl ⟨by kernel_rfl, by (intro wz _; go_simp; try with_reducible rfl)⟩) (Ol.on hS0) ?_
      go_simp
      refine Ol.way_take (i := 5) (v := ?_) rfl (by kernel_rfl) (by kernel_rfl) (by kernel_rfl) (fun _ _ _ h => h) (by decide) (by kernel_rfl) (by kernel_rfl) (Or.inl ⟨by kernel_rfl, by (intro wz hSz; have c2_0 := cell_of_row _ _ 0 _ _ _ hSz.1; have c2_1 := cell_of_row _ _ 1 _ _ _ hSz.1; have c2_2 := cell_of_row _ _ 2 _ _ _ hSz.1; have c5_0 := cell_of_row _ _ 0 _ _ _ hSz.2.1; have c5_1 := cell_of_row _ _ 1 _ _ _ hSz.2.1; have c5_2 := cell_of_row _ _ 2 _ _ _ hSz.2.1; simp at c2_0 c2_1 c2_2 c5_0 c5_1 c5_2; have em0z := hSz.2.2.1; have em1z := hSz.2.2.2.1; have em2z := hSz.2.2.2.2; go_simp; try with_reducible rfl)⟩) hS0 ?_
      go_simp
      refine Ol.way_ready (rs := [6]) (by kernel_rfl) (by simp) ?_
      refine Ol.Each.cons rfl (fun K hK => ?_) Ol.Each.nil
      go_simp
      go_wp2_with (go_at_call 29; refine (HMX.out _).mono ?_; rintro e y9 ⟨rfl, hb9⟩; have HX9 := Lib.hid (Ls.own_below HX8.out hb9); have HA9 := Lib.hid (HA8.out.trans (Aw.of hb9)))
      have hr9_0 := (hb9.block _ (lt_heap hr8_0)).trans hr8_0
      have hr9_1 := (hb9.block _ (lt_heap hr8_1)).trans hr8_1
      have hr9_2 := (hb9.block _ (lt_heap hr8_2)).trans hr8_2
      have hr9_3 := (hb9.block _ (lt_heap hr8_3)).trans hr8_3
      have hr9_4 := (hb9.block _ (lt_heap hr8_4)).trans hr8_4
      have hr9_5 := (hb9.block _ (lt_heap hr8_5)).trans hr8_5
      have HU9 := Lib.hid (HU8.out.trans (hb9.mono HU8.out.size))
      refine Ol.keep hK _ _ (⟨(hb9.block _ (lt_heap hS0.1)).trans hS0.1, (hb9.block _ (lt_heap hS0.2.1)).trans hS0.2.1, (hb9.cell (p := ⟨mb, mo + p * 3, none⟩) (World.block_lt_of_cell? _ _ (hS0.2.2.1))).trans hS0.2.2.1, (hb9.cell (p := ⟨mb, mo + p * 3 + 1, none⟩) (World.block_lt_of_cell? _ _ (hS0.2.2.2.1))).trans hS0.2.2.2.1, (hb9.cell (p := ⟨mb, mo + p * 3 + 2, none⟩) (World.block_lt_of_cell? _ _ (hS0.2.2.2.2))).trans hS0.2.2.2.2⟩) (fun hS9c => ?_)
      clear hK K
      refine Ol.way_ready (rs := [7]) (by kernel_rfl) (by simp) ?_
      refine Ol.Each.cons rfl (fun K hK => ?_) Ol.Each.nil
      refine step_store_row rfl 56 (.tmp 10) (.tmp 75) rfl #[.int .i64 x0, .int .i64 x1, .int .i64 x2] #[.int .i64 r0, .int .i64 r1, .int .i64 r2] _ 56 hr9_5 rfl (by first | rfl | (go_simp; done) | (go_simp; rfl)) (by kernel_rfl) rfl (by simp [Value.oneCell']) ?_
      have hN := setRow_heap _ (p5) _ #[.int .i64 r0, .int .i64 r1, .int .i64 r2] _ _ hr9_5
      have hsz := HU9.out.size
      have HUx := below_setRow (g := p5) HU9.out (by first | omega | (simp at *; omega)) #[.int .i64 r0, .int .i64 r1, .int .i64 r2]
      obtain ⟨y10, hy10⟩ : ∃ y, y9.setRow (p5) #[.int .i64 r0, .int .i64 r1, .int .i64 r2] = y := ⟨_, rfl⟩
      have hO : ∀ k, k ≠ p5 → y10.heap[k]? = y9.heap[k]? := fun k hk => by rw [← hy10]; exact setRow_other _ _ _ _ hk
      have hSo : y10.os = y9.os ∧ y10.tape = y9.tape ∧ y10.output = y9.output ∧ y9.heap.size ≤ y10.heap.size := by rw [← hy10]; exact ⟨rfl, rfl, rfl, by simp [World.setRow]⟩
      rw [hy10] at hN HUx ⊢
      clear hy10
      have HU10 := Lib.hid HUx
      clear HUx
      have hr10_0 := (hO _ (by omega)).trans hr9_0
      have hr10_1 := (hO _ (by omega)).trans hr9_1
      have hr10_2 := (hO _ (by omega)).trans hr9_2
      have hr10_3 := (hO _ (by omega)).trans hr9_3
      have hr10_4 := (hO _ (by omega)).trans hr9_4
      have hr10_5 := hN
      clear hN
      refine Ol.past hK (by kernel_rfl) _ _ ?_
      clear hK K
      refine Ol.way_done (by kernel_rfl) ?_ _
      have HX10 := Lib.hid (own_via HX9.out (fun q' hq' => hO q' (by have := hp5o q' hq'; omega)))
      have HA10 := Lib.hid (show Aw (fun z => z < bl ∧ z ≠ q) y4 y10 from ⟨hSo.1.trans HA9.out.os, hSo.2.1.trans HA9.out.tape, hSo.2.2.1.trans HA9.out.output, Nat.le_trans HA9.out.size hSo.2.2.2, fun k' h1 h2 => (hO k' (by omega)).trans (HA9.out.block k' h1 h2)⟩)
      have c5_0 := cell_of_row _ _ 0 _ _ _ hr10_5
      have c5_1 := cell_of_row _ _ 1 _ _ _ hr10_5
      have c5_2 := cell_of_row _ _ 2 _ _ _ hr10_5
      simp at c5_0 c5_1 c5_2
      have hb2 := Ve.below_n1 y10 (.cells #[.int .i64 r0, .int .i64 r1, .int .i64 r2] 56)
      have hN2 := heap_alloc_last y10 (.cells #[.int .i64 r0, .int .i64 r1, .int .i64 r2] 56)
      have HO2 := Lib.hid (Ls.own_below HX10.out hb2)
      have hs2 := hb2.size
      have hqz_ := lt_heap hr10_4
      have hzb_ : bl ≤ y10.heap.size := by have := (HA10.out).size; omega
      have cq_ := cell_of_row _ _ 2 _ _ _ hr10_4
      simp at cq_
      have hx1 := Lib.hid (World.news_of_block hN2)
      go_upto_region 11 with fail
      go_wp2_with (first | (at_builtin; refine wpList_append_lies _ rfl _ _ 22 rfl bl 56 i0 (.agg #[.int .i64 0, .int .i64 0, .int .i64 0]) 3 24 Try.underlying22 hi hz0 hz1 hz2 rfl (by decide) _ _ _ rfl HO2.out ⟨y10.heap.size, 0, none⟩ 1 1 [.int .i64 r0, .int .i64 r1, .int .i64 r2] rfl rfl hx1.out (by intro u hu; simp at hu; rcases hu with rfl | rfl | rfl <;> rfl) (by omega) ?c3 ?c4 ?c5 _ rfl ?_))
      case c3 => unfold maxLen; omega
      case c4 => omega
      case c5 => (first | omega | (simp; omega))
      intro g9 cg z3 hown hgrow hgk hlt2
      have hqo := fun r hr => (HO2.out.lt r hr).1
      have HA3 := Lib.hid ((HA10.out.trans (Aw.of hb2)).step hgrow (fun r hr => by have := hqo r hr; omega))
      rw [← HXX.out] at hown
      have hq2 := (hb2.block _ (lt_heap hr10_4)).trans hr10_4
      have hq3 := (hgrow.block q (lt_heap hq2) (fun e => by have := hqo _ e.symm; omega)).trans hq2
      have hs3 := hgrow.size
      have hqn : q ≠ g9 := by rcases hgk with h | h <;> first | omega | (have := hqo _ h; omega) | (simp at h; omega)
      clear cq_
      have p0 := cell_of_row _ _ 2 _ _ _ hq3
      simp at p0
      have fz : ∀ j, z3.frozen? ⟨q, j, none⟩ = false := fun j => by simp [World.frozen?, hq3]
      have hN : (z3.setCell ⟨q, 2, none⟩ (.slice (some ⟨g9, 0, none⟩) (k + 1) cg)).heap[q]? = some (.cells #[.int .i64 W, .int .i64 H, .slice (some ⟨g9, 0, none⟩) (k + 1) cg] 24 (0, 0)) := heap_setCell_same _ _ 2 _ _ _ hq3
      have HA4 := Lib.hid (HA3.out.set (b := q) (fun h => h.2 rfl) 2 (.slice (some ⟨g9, 0, none⟩) (k + 1) cg))
      have HO4 := Lib.hid (own_via (w' := (z3.setCell ⟨q, 2, none⟩ (.slice (some ⟨g9, 0, none⟩) (k + 1) cg))) hown (fun r hr => Below.heap_setCell _ _ _ _ (by simp [Value.ownBlock] at hr; show r ≠ q; omega)))
      go_wp2_with fail
      go_roundw
      case rel => exact ⟨k + 1, _, by omega, by go_num, hN, HO4, HA4⟩
      case measure => simp [intOf]; omega
    · have hge : ¬ (k : Int) < nl := by omega
      obtain rfl : k = nl := by omega
      obtain ⟨a9, c9, hv⟩ := own_slice HX.out
      subst hv
      have HXE := Lib.hid (rwp_own (fun b => w.heap.size ≤ b ∧ b ≠ w.heap.size + 3) HX.out (fun b h1 _ _ => ⟨by omega, by omega⟩))
      have c0_0 := cell_of_row _ _ 0 _ _ _ hr5_0
      have c0_1 := cell_of_row _ _ 1 _ _ _ hr5_0
      have c0_2 := cell_of_row _ _ 2 _ _ _ hr5_0
      have c0_3 := cell_of_row _ _ 3 _ _ _ hr5_0
      have c0_4 := cell_of_row _ _ 4 _ _ _ hr5_0
      have c0_5 := cell_of_row _ _ 5 _ _ _ hr5_0
      have c0_6 := cell_of_row _ _ 6 _ _ _ hr5_0
      have c0_7 := cell_of_row _ _ 7 _ _ _ hr5_0
      have c4_0 := cell_of_row _ _ 0 _ _ _ hr5_4
      have c4_1 := cell_of_row _ _ 1 _ _ _ hr5_4
      have c4_2 := cell_of_row _ _ 2 _ _ _ hr5_4
      simp at c0_0 c0_1 c0_2 c0_3 c0_4 c0_5 c0_6 c0_7 c4_0 c4_1 c4_2
      go_upto_region 12 with fail
      have hHr := Lib.hid hr5_3
      have hHi := Lib.hid (show (Try.prog.info? 24).map (·.size) = some (#[.int .i64 W, .int .i64 H, .slice a9 k c9] : Array Value).size by kernel_rfl)
      have hHz := Lib.hid (show (#[.int .i64 0, .int .i64 0, .slice none 0 0] : Array Value).size = (#[.int .i64 W, .int .i64 H, .slice a9 k c9] : Array Value).size from rfl)
      have hHo := Lib.hid (show (#[.int .i64 W, .int .i64 H, .slice a9 k c9] : Array Value).all (·.oneCell') = true by simp [Value.oneCell'])
      go_wp2_with (first | (refine Au.wpList_store_row rfl 24 (.tmp 6) (.tmp 82) rfl y5 #[.int .i64 0, .int .i64 0, .slice none 0 0] #[.int .i64 W, .int .i64 H, .slice a9 k c9] (w.heap.size + 1 + 1 + 1) 24 hHr.out rfl rfl hHi.out hHz.out hHo.out ?_))
      clear c0_0 c0_1 c0_2 c0_3 c0_4 c0_5 c0_6 c0_7 c4_0 c4_1 c4_2
      clear hHr hHi hHz hHo
      have hN := setRow_heap _ (w.heap.size + 1 + 1 + 1) _ #[.int .i64 W, .int .i64 H, .slice a9 k c9] _ _ hr5_3
      have hsz := HU5.out.size
      have HUx := below_setRow (g := w.heap.size + 1 + 1 + 1) HU5.out (by first | omega | (simp at *; omega)) #[.int .i64 W, .int .i64 H, .slice a9 k c9]
      have hO : ∀ kk, kk ≠ w.heap.size + 1 + 1 + 1 → (y5.setRow (w.heap.size + 1 + 1 + 1) #[.int .i64 W, .int .i64 H, .slice a9 k c9]).heap[kk]? = y5.heap[kk]? := fun kk hk => setRow_other _ _ _ _ hk
      obtain ⟨y6, hy6⟩ : ∃ y, y5.setRow (w.heap.size + 1 + 1 + 1) #[.int .i64 W, .int .i64 H, .slice a9 k c9] = y := ⟨_, rfl⟩
      rw [hy6] at hN HUx hO ⊢
      clear hy6 hsz
      have HU6 := Lib.hid HUx
      clear HUx
      have hr6_0 := (hO _ (by omega)).trans hr5_0
      have hr6_1 := (hO _ (by omega)).trans hr5_1
      have hr6_2 := (hO _ (by omega)).trans hr5_2
      have hr6_3 := hN
      have hr6_4 := (hO _ (by omega)).trans hr5_4
      have HXF := Lib.hid ((HXE.out.keep (fun b hb => hO b (by omega))).weak (P' := fun b => w.heap.size ≤ b) (fun b hb => hb.1))
      clear hN hO
      clear hr5_0 hr5_1 hr5_2 hr5_3 hr5_4 HU5
      have c3_0 := cell_of_row _ _ 0 _ _ _ hr6_3
      have c3_1 := cell_of_row _ _ 1 _ _ _ hr6_3
      have c3_2 := cell_of_row _ _ 2 _ _ _ hr6_3
      simp at c3_0 c3_1 c3_2
      go_wp2
      exact bodyPost_ret (v := .tuple #[.agg #[.int .i64 W, .int .i64 H, .slice a9 k c9], .int .i64 0]) (by simp [results, Try.results10, go_sem, c3_0, c3_1, c3_2]) rfl (by first | exact ⟨⟨a9, c9, rfl, HXF.out⟩, HU6.out⟩ | exact ⟨⟨a9, ⟨c9, rfl⟩, HXF.out⟩, HU6.out⟩)

set_option maxHeartbeats 8000000 in
set_option maxRecDepth 100000 in
theorem dkept_f (W H : Int) (al ad an ab ax af : Option Addr) (cl cd cn cb cx cf nl nd nn nb ns nf : Nat) (L D N B S F : Nat → Int) (W2 H2 : Int) (al2 ad2 an2 ab2 ax2 af2 : Option Addr) (cl2 cd2 cn2 cb2 cx2 cf2 nl2 nd2 nn2 nb2 ns2 nf2 : Nat) (L2 D2 N2 B2 S2 F2 : Nat → Int) (w : World) (hf : FAt w (⟨W, H, nl, nd, nn, nb, ns, nf, L, D, N, B, S, F⟩ : Flm) (⟨al, cl, ad, cd, an, cn, ab, cb, ax, cx, af, cf⟩ : Pl)) (hg : FAt w (⟨W2, H2, nl2, nd2, nn2, nb2, ns2, nf2, L2, D2, N2, B2, S2, F2⟩ : Flm) (⟨al2, cl2, ad2, cd2, an2, cn2, ab2, cb2, ax2, cx2, af2, cf2⟩ : Pl)) (ho : ¬ okF (⟨W, H, nl, nd, nn, nb, ns, nf, L, D, N, B, S, F⟩ : Flm)) : Calls Try.prog 16 #[.agg #[.int .i64 W, .int .i64 H, .slice al nl cl, .slice ad nd cd, .slice an nn cn, .slice ab nb cb, .slice ax ns cx, .slice af nf cf], .agg #[.int .i64 W2, .int .i64 H2, .slice al2 nl2 cl2, .slice ad2 nd2 cd2, .slice an2 nn2 cn2, .slice ab2 nb2 cb2, .slice ax2 ns2 cx2, .slice af2 nf2 cf2]] w fun e' w' => e' = .returned (.int .i64 0) ∧ Below w.heap.size w w' := by
  have HF := Lib.hid hf
  have HG := Lib.hid hg
  clear hf hg
  have HO := Lib.hid ho
  clear ho
  go_enter Try.func16, Try.ntmps16
  go_upto_region 1 with fail
  have hR := Au.rows2 w (.cells #[.int .i64 W, .int .i64 H, .slice al nl cl, .slice ad nd cd, .slice an nn cn, .slice ab nb cb, .slice ax ns cx, .slice af nf cf] 29) (.cells #[.int .i64 W2, .int .i64 H2, .slice al2 nl2 cl2, .slice ad2 nd2 cd2, .slice an2 nn2 cn2, .slice ab2 nb2 cb2, .slice ax2 ns2 cx2, .slice af2 nf2 cf2] 29)
  have HUx := Ve.below_n2 w (.cells #[.int .i64 W, .int .i64 H, .slice al nl cl, .slice ad nd cd, .slice an nn cn, .slice ab nb cb, .slice ax ns cx, .slice af nf cf] 29) (.cells #[.int .i64 W2, .int .i64 H2, .slice al2 nl2 cl2, .slice ad2 nd2 cd2, .slice an2 nn2 cn2, .slice ab2 nb2 cb2, .slice ax2 ns2 cx2, .slice af2 nf2 cf2] 29)
  obtain ⟨y0, hy0⟩ : ∃ y0, (w.alloc (.cells #[.int .i64 W, .int .i64 H, .slice al nl cl, .slice ad nd cd, .slice an nn cn, .slice ab nb cb, .slice ax ns cx, .slice af nf cf] 29)).alloc (.cells #[.int .i64 W2, .int .i64 H2, .slice al2 nl2 cl2, .slice ad2 nd2 cd2, .slice an2 nn2 cn2, .slice ab2 nb2 cb2, .slice ax2 ns2 cx2, .slice af2 nf2 cf2] 29) = y0 := ⟨_, rfl⟩
  rw [hy0] at hR HUx ⊢
  clear hy0
  have HU0 := Lib.hid HUx
  clear HUx
  obtain ⟨hr0_0, hr0_1⟩ := hR
  have c0_0 := cell_of_row _ _ 0 _ _ _ hr0_0
  have c0_1 := cell_of_row _ _ 1 _ _ _ hr0_0
  have c0_2 := cell_of_row _ _ 2 _ _ _ hr0_0
  have c0_3 := cell_of_row _ _ 3 _ _ _ hr0_0
  have c0_4 := cell_of_row _ _ 4 _ _ _ hr0_0
  have c0_5 := cell_of_row _ _ 5 _ _ _ hr0_0
  have c0_6 := cell_of_row _ _ 6 _ _ _ hr0_0
  have c0_7 := cell_of_row _ _ 7 _ _ _ hr0_0
  simp at c0_0 c0_1 c0_2 c0_3 c0_4 c0_5 c0_6 c0_7
  go_wp2_with fail
  refine (dright_any (⟨W, H, nl, nd, nn, nb, ns, nf, L, D, N, B, S, F⟩ : Flm) (⟨al, cl, ad, cd, an, cn, ab, cb, ax, cx, af, cf⟩ : Pl) _ (HF.out.on HU0.out)).mono ?_
  rintro e y1 ⟨rfl, hb1⟩
  clear c0_0 c0_1 c0_2 c0_3 c0_4 c0_5 c0_6 c0_7
  have hr1_0 := (hb1.block _ (lt_heap hr0_0)).trans hr0_0
  have hr1_1 := (hb1.block _ (lt_heap hr0_1)).trans hr0_1
  have HU1 := Lib.hid (HU0.out.trans (hb1.mono HU0.out.size))
  clear hr0_0 hr0_1 HU0
  rw [decide_eq_false HO.out]
  go_wp2
  go_ret
  exact ⟨rfl, HU1.out⟩

set_option maxHeartbeats 8000000 in
set_option maxRecDepth 100000 in
theorem dkept_g (W H : Int) (al ad an ab ax af : Option Addr) (cl cd cn cb cx cf nl nd nn nb ns nf : Nat) (L D N B S F : Nat → Int) (W2 H2 : Int) (al2 ad2 an2 ab2 ax2 af2 : Option Addr) (cl2 cd2 cn2 cb2 cx2 cf2 nl2 nd2 nn2 nb2 ns2 nf2 : Nat) (L2 D2 N2 B2 S2 F2 : Nat → Int) (w : World) (hf : FAt w (⟨W, H, nl, nd, nn, nb, ns, nf, L, D, N, B, S, F⟩ : Flm) (⟨al, cl, ad, cd, an, cn, ab, cb, ax, cx, af, cf⟩ : Pl)) (hg : FAt w (⟨W2, H2, nl2, nd2, nn2, nb2, ns2, nf2, L2, D2, N2, B2, S2, F2⟩ : Flm) (⟨al2, cl2, ad2, cd2, an2, cn2, ab2, cb2, ax2, cx2, af2, cf2⟩ : Pl)) (ho : okF (⟨W, H, nl, nd, nn, nb, ns, nf, L, D, N, B, S, F⟩ : Flm)) (ho2 : ¬ okF (⟨W2, H2, nl2, nd2, nn2, nb2, ns2, nf2, L2, D2, N2, B2, S2, F2⟩ : Flm)) : Calls Try.prog 16 #[.agg #[.int .i64 W, .int .i64 H, .slice al nl cl, .slice ad nd cd, .slice an nn cn, .slice ab nb cb, .slice ax ns cx, .slice af nf cf], .agg #[.int .i64 W2, .int .i64 H2, .slice al2 nl2 cl2, .slice ad2 nd2 cd2, .slice an2 nn2 cn2, .slice ab2 nb2 cb2, .slice ax2 ns2 cx2, .slice af2 nf2 cf2]] w fun e' w' => e' = .returned (.int .i64 0) ∧ Below w.heap.size w w' := by
  have HF := Lib.hid hf
  have HG := Lib.hid hg
  clear hf hg
  have HO := Lib.hid ho
  clear ho
  have HO2 := Lib.hid ho2
  clear ho2
  go_enter Try.func16, Try.ntmps16
  go_upto_region 1 with fail
  have hR := Au.rows2 w (.cells #[.int .i64 W, .int .i64 H, .slice al nl cl, .slice ad nd cd, .slice an nn cn, .slice ab nb cb, .slice ax ns cx, .slice af nf cf] 29) (.cells #[.int .i64 W2, .int .i64 H2, .slice al2 nl2 cl2, .slice ad2 nd2 cd2, .slice an2 nn2 cn2, .slice ab2 nb2 cb2, .slice ax2 ns2 cx2, .slice af2 nf2 cf2] 29)
  have HUx := Ve.below_n2 w (.cells #[.int .i64 W, .int .i64 H, .slice al nl cl, .slice ad nd cd, .slice an nn cn, .slice ab nb cb, .slice ax ns cx, .slice af nf cf] 29) (.cells #[.int .i64 W2, .int .i64 H2, .slice al2 nl2 cl2, .slice ad2 nd2 cd2, .slice an2 nn2 cn2, .slice ab2 nb2 cb2, .slice ax2 ns2 cx2, .slice af2 nf2 cf2] 29)
  obtain ⟨y0, hy0⟩ : ∃ y0, (w.alloc (.cells #[.int .i64 W, .int .i64 H, .slice al nl cl, .slice ad nd cd, .slice an nn cn, .slice ab nb cb, .slice ax ns cx, .slice af nf cf] 29)).alloc (.cells #[.int .i64 W2, .int .i64 H2, .slice al2 nl2 cl2, .slice ad2 nd2 cd2, .slice an2 nn2 cn2, .slice ab2 nb2 cb2, .slice ax2 ns2 cx2, .slice af2 nf2 cf2] 29) = y0 := ⟨_, rfl⟩
  rw [hy0] at hR HUx ⊢
  clear hy0
  have HU0 := Lib.hid HUx
  clear HUx
  obtain ⟨hr0_0, hr0_1⟩ := hR
  have c0_0 := cell_of_row _ _ 0 _ _ _ hr0_0
  have c0_1 := cell_of_row _ _ 1 _ _ _ hr0_0
  have c0_2 := cell_of_row _ _ 2 _ _ _ hr0_0
  have c0_3 := cell_of_row _ _ 3 _ _ _ hr0_0
  have c0_4 := cell_of_row _ _ 4 _ _ _ hr0_0
  have c0_5 := cell_of_row _ _ 5 _ _ _ hr0_0
  have c0_6 := cell_of_row _ _ 6 _ _ _ hr0_0
  have c0_7 := cell_of_row _ _ 7 _ _ _ hr0_0
  simp at c0_0 c0_1 c0_2 c0_3 c0_4 c0_5 c0_6 c0_7
  go_wp2_with fail
  refine (dright_any (⟨W, H, nl, nd, nn, nb, ns, nf, L, D, N, B, S, F⟩ : Flm) (⟨al, cl, ad, cd, an, cn, ab, cb, ax, cx, af, cf⟩ : Pl) _ (HF.out.on HU0.out)).mono ?_
  rintro e y1 ⟨rfl, hb1⟩
  clear c0_0 c0_1 c0_2 c0_3 c0_4 c0_5 c0_6 c0_7
  have hr1_0 := (hb1.block _ (lt_heap hr0_0)).trans hr0_0
  have hr1_1 := (hb1.block _ (lt_heap hr0_1)).trans hr0_1
  have HU1 := Lib.hid (HU0.out.trans (hb1.mono HU0.out.size))
  clear hr0_0 hr0_1 HU0
  rw [decide_eq_true HO.out]
  have c1_0 := cell_of_row _ _ 0 _ _ _ hr1_1
  have c1_1 := cell_of_row _ _ 1 _ _ _ hr1_1
  have c1_2 := cell_of_row _ _ 2 _ _ _ hr1_1
  have c1_3 := cell_of_row _ _ 3 _ _ _ hr1_1
  have c1_4 := cell_of_row _ _ 4 _ _ _ hr1_1
  have c1_5 := cell_of_row _ _ 5 _ _ _ hr1_1
  have c1_6 := cell_of_row _ _ 6 _ _ _ hr1_1
  have c1_7 := cell_of_row _ _ 7 _ _ _ hr1_1
  simp at c1_0 c1_1 c1_2 c1_3 c1_4 c1_5 c1_6 c1_7
  go_wp2_with fail
  refine (dright_any (⟨W2, H2, nl2, nd2, nn2, nb2, ns2, nf2, L2, D2, N2, B2, S2, F2⟩ : Flm) (⟨al2, cl2, ad2, cd2, an2, cn2, ab2, cb2, ax2, cx2, af2, cf2⟩ : Pl) _ (HG.out.on HU1.out)).mono ?_
  rintro e y2 ⟨rfl, hb2⟩
  clear c1_0 c1_1 c1_2 c1_3 c1_4 c1_5 c1_6 c1_7
  have hr2_0 := (hb2.block _ (lt_heap hr1_0)).trans hr1_0
  have hr2_1 := (hb2.block _ (lt_heap hr1_1)).trans hr1_1
  have HU2 := Lib.hid (HU1.out.trans (hb2.mono HU1.out.size))
  clear hr1_0 hr1_1 HU1
  rw [decide_eq_false HO2.out]
  go_wp2
  go_ret
  exact ⟨rfl, HU2.out⟩

set_option maxHeartbeats 8000000 in
set_option maxRecDepth 100000 in
theorem dkept_yes (W H : Int) (al ad an ab ax af : Option Addr) (cl cd cn cb cx cf nl nd nn nb ns nf : Nat) (L D N B S F : Nat → Int) (W2 H2 : Int) (al2 ad2 an2 ab2 ax2 af2 : Option Addr) (cl2 cd2 cn2 cb2 cx2 cf2 nl2 nd2 nn2 nb2 ns2 nf2 : Nat) (L2 D2 N2 B2 S2 F2 : Nat → Int) (w : World) (hf : FAt w (⟨W, H, nl, nd, nn, nb, ns, nf, L, D, N, B, S, F⟩ : Flm) (⟨al, cl, ad, cd, an, cn, ab, cb, ax, cx, af, cf⟩ : Pl)) (hg : FAt w (⟨W2, H2, nl2, nd2, nn2, nb2, ns2, nf2, L2, D2, N2, B2, S2, F2⟩ : Flm) (⟨al2, cl2, ad2, cd2, an2, cn2, ab2, cb2, ax2, cx2, af2, cf2⟩ : Pl)) (ho : okF (⟨W, H, nl, nd, nn, nb, ns, nf, L, D, N, B, S, F⟩ : Flm)) (ho2 : okF (⟨W2, H2, nl2, nd2, nn2, nb2, ns2, nf2, L2, D2, N2, B2, S2, F2⟩ : Flm)) : Calls Try.prog 16 #[.agg #[.int .i64 W, .int .i64 H, .slice al nl cl, .slice ad nd cd, .slice an nn cn, .slice ab nb cb, .slice ax ns cx, .slice af nf cf], .agg #[.int .i64 W2, .int .i64 H2, .slice al2 nl2 cl2, .slice ad2 nd2 cd2, .slice an2 nn2 cn2, .slice ab2 nb2 cb2, .slice ax2 ns2 cx2, .slice af2 nf2 cf2]] w fun e' w' => e' = .returned (.int .i64 (keptN (⟨W, H, nl, nd, nn, nb, ns, nf, L, D, N, B, S, F⟩ : Flm) (⟨W2, H2, nl2, nd2, nn2, nb2, ns2, nf2, L2, D2, N2, B2, S2, F2⟩ : Flm) nf)) ∧ Below w.heap.size w w' := by
  have HF := Lib.hid hf
  have HG := Lib.hid hg
  clear hf hg
  have HO := Lib.hid ho
  clear ho
  have HO2 := Lib.hid ho2
  clear ho2
  have hnf : nf ≤ 5000 := by have h1 := okSz_mul HO.out.1.1; have h2 := HO.out.2.2.2.2.2.1; simp only [] at h1 h2; omega
  go_enter Try.func16, Try.ntmps16
  go_upto_region 1 with fail
  have hR := Au.rows2 w (.cells #[.int .i64 W, .int .i64 H, .slice al nl cl, .slice ad nd cd, .slice an nn cn, .slice ab nb cb, .slice ax ns cx, .slice af nf cf] 29) (.cells #[.int .i64 W2, .int .i64 H2, .slice al2 nl2 cl2, .slice ad2 nd2 cd2, .slice an2 nn2 cn2, .slice ab2 nb2 cb2, .slice ax2 ns2 cx2, .slice af2 nf2 cf2] 29)
  have HUx := Ve.below_n2 w (.cells #[.int .i64 W, .int .i64 H, .slice al nl cl, .slice ad nd cd, .slice an nn cn, .slice ab nb cb, .slice ax ns cx, .slice af nf cf] 29) (.cells #[.int .i64 W2, .int .i64 H2, .slice al2 nl2 cl2, .slice ad2 nd2 cd2, .slice an2 nn2 cn2, .slice ab2 nb2 cb2, .slice ax2 ns2 cx2, .slice af2 nf2 cf2] 29)
  obtain ⟨y0, hy0⟩ : ∃ y0, (w.alloc (.cells #[.int .i64 W, .int .i64 H, .slice al nl cl, .slice ad nd cd, .slice an nn cn, .slice ab nb cb, .slice ax ns cx, .slice af nf cf] 29)).alloc (.cells #[.int .i64 W2, .int .i64 H2, .slice al2 nl2 cl2, .slice ad2 nd2 cd2, .slice an2 nn2 cn2, .slice ab2 nb2 cb2, .slice ax2 ns2 cx2, .slice af2 nf2 cf2] 29) = y0 := ⟨_, rfl⟩
  rw [hy0] at hR HUx ⊢
  clear hy0
  have HU0 := Lib.hid HUx
  clear HUx
  obtain ⟨hr0_0, hr0_1⟩ := hR
  have c0_0 := cell_of_row _ _ 0 _ _ _ hr0_0
  have c0_1 := cell_of_row _ _ 1 _ _ _ hr0_0
  have c0_2 := cell_of_row _ _ 2 _ _ _ hr0_0
  have c0_3 := cell_of_row _ _ 3 _ _ _ hr0_0
  have c0_4 := cell_of_row _ _ 4 _ _ _ hr0_0
  have c0_5 := cell_of_row _ _ 5 _ _ _ hr0_0
  have c0_6 := cell_of_row _ _ 6 _ _ _ hr0_0
  have c0_7 := cell_of_row _ _ 7 _ _ _ hr0_0
  simp at c0_0 c0_1 c0_2 c0_3 c0_4 c0_5 c0_6 c0_7
  go_wp2_with fail
  refine (dright_any (⟨W, H, nl, nd, nn, nb, ns, nf, L, D, N, B, S, F⟩ : Flm) (⟨al, cl, ad, cd, an, cn, ab, cb, ax, cx, af, cf⟩ : Pl) _ (HF.out.on HU0.out)).mono ?_
  rintro e y1 ⟨rfl, hb1⟩
  clear c0_0 c0_1 c0_2 c0_3 c0_4 c0_5 c0_6 c0_7
  have hr1_0 := (hb1.block _ (lt_heap hr0_0)).trans hr0_0
  have hr1_1 := (hb1.block _ (lt_heap hr0_1)).trans hr0_1
  have HU1 := Lib.hid (HU0.out.trans (hb1.mono HU0.out.size))
  clear hr0_0 hr0_1 HU0
  rw [decide_eq_true HO.out]
  have c1_0 := cell_of_row _ _ 0 _ _ _ hr1_1
  have c1_1 := cell_of_row _ _ 1 _ _ _ hr1_1
  have c1_2 := cell_of_row _ _ 2 _ _ _ hr1_1
  have c1_3 := cell_of_row _ _ 3 _ _ _ hr1_1
  have c1_4 := cell_of_row _ _ 4 _ _ _ hr1_1
  have c1_5 := cell_of_row _ _ 5 _ _ _ hr1_1
  have c1_6 := cell_of_row _ _ 6 _ _ _ hr1_1
  have c1_7 := cell_of_row _ _ 7 _ _ _ hr1_1
  simp at c1_0 c1_1 c1_2 c1_3 c1_4 c1_5 c1_6 c1_7
  go_wp2_with fail
  refine (dright_any (⟨W2, H2, nl2, nd2, nn2, nb2, ns2, nf2, L2, D2, N2, B2, S2, F2⟩ : Flm) (⟨al2, cl2, ad2, cd2, an2, cn2, ab2, cb2, ax2, cx2, af2, cf2⟩ : Pl) _ (HG.out.on HU1.out)).mono ?_
  rintro e y2 ⟨rfl, hb2⟩
  clear c1_0 c1_1 c1_2 c1_3 c1_4 c1_5 c1_6 c1_7
  have hr2_0 := (hb2.block _ (lt_heap hr1_0)).trans hr1_0
  have hr2_1 := (hb2.block _ (lt_heap hr1_1)).trans hr1_1
  have HU2 := Lib.hid (HU1.out.trans (hb2.mono HU1.out.size))
  clear hr1_0 hr1_1 HU1
  rw [decide_eq_true HO2.out]
  go_upto_region 5 with fail
  go_loopw [6, 5] (fun ix c wr => ∃ k : Nat, k ≤ nf ∧ ix = .int .i64 k ∧ Hid (c = .int .i64 (keptN (⟨W, H, nl, nd, nn, nb, ns, nf, L, D, N, B, S, F⟩ : Flm) (⟨W2, H2, nl2, nd2, nn2, nb2, ns2, nf2, L2, D2, N2, B2, S2, F2⟩ : Flm) k)) ∧ Hid (Below y2.heap.size y2 wr)) (fun ix _ _ => nf - (intOf ix).toNat)
  case atStart => exact ⟨0, Nat.zero_le _, rfl, Lib.hid rfl, Lib.hid (Below.refl _ _)⟩
  case round =>
    obtain ⟨k, hk, rfl, HC, HB⟩ := hrel
    obtain ⟨c, hc⟩ : ∃ c, c = keptN (⟨W, H, nl, nd, nn, nb, ns, nf, L, D, N, B, S, F⟩ : Flm) (⟨W2, H2, nl2, nd2, nn2, nb2, ns2, nf2, L2, D2, N2, B2, S2, F2⟩ : Flm) k := ⟨_, rfl⟩
    have HCC := Lib.hid hc
    have hcl : c ≤ 5000 := by rw [hc]; have := keptN_le (⟨W, H, nl, nd, nn, nb, ns, nf, L, D, N, B, S, F⟩ : Flm) (⟨W2, H2, nl2, nd2, nn2, nb2, ns2, nf2, L2, D2, N2, B2, S2, F2⟩ : Flm) k; omega
    have hcv := HC.out
    rw [← hc] at hcv
    subst hcv
    clear HC hc
    have hr3_0 := (HB.out.block _ (lt_heap hr2_0)).trans hr2_0
    have hr3_1 := (HB.out.block _ (lt_heap hr2_1)).trans hr2_1
    have HU3 := Lib.hid (HU2.out.trans (HB.out.mono HU2.out.size))
    obtain ⟨y3, hy_⟩ : ∃ y, y = wr := ⟨_, rfl⟩
    rw [← hy_] at HB HU3 hr3_0 hr3_1 ⊢
    clear hy_
    clear hr2_0 hr2_1 HU2
    by_cases hlt : k < nf
    · have hlt' : (k : Int) < nf := by omega
      have c0_0 := cell_of_row _ _ 0 _ _ _ hr3_0
      have c0_1 := cell_of_row _ _ 1 _ _ _ hr3_0
      have c0_2 := cell_of_row _ _ 2 _ _ _ hr3_0
      have c0_3 := cell_of_row _ _ 3 _ _ _ hr3_0
      have c0_4 := cell_of_row _ _ 4 _ _ _ hr3_0
      have c0_5 := cell_of_row _ _ 5 _ _ _ hr3_0
      have c0_6 := cell_of_row _ _ 6 _ _ _ hr3_0
      have c0_7 := cell_of_row _ _ 7 _ _ _ hr3_0
      have c1_0 := cell_of_row _ _ 0 _ _ _ hr3_1
      have c1_1 := cell_of_row _ _ 1 _ _ _ hr3_1
      have c1_2 := cell_of_row _ _ 2 _ _ _ hr3_1
      have c1_3 := cell_of_row _ _ 3 _ _ _ hr3_1
      have c1_4 := cell_of_row _ _ 4 _ _ _ hr3_1
      have c1_5 := cell_of_row _ _ 5 _ _ _ hr3_1
      have c1_6 := cell_of_row _ _ 6 _ _ _ hr3_1
      have c1_7 := cell_of_row _ _ 7 _ _ _ hr3_1
      simp at c0_0 c0_1 c0_2 c0_3 c0_4 c0_5 c0_6 c0_7 c1_0 c1_1 c1_2 c1_3 c1_4 c1_5 c1_6 c1_7
      go_wp2_with fail
      by_cases hp : hasPast (⟨W, H, nl, nd, nn, nb, ns, nf, L, D, N, B, S, F⟩ : Flm) (⟨W2, H2, nl2, nd2, nn2, nb2, ns2, nf2, L2, D2, N2, B2, S2, F2⟩ : Flm) k
      case neg =>
        refine (dpast_n (⟨W, H, nl, nd, nn, nb, ns, nf, L, D, N, B, S, F⟩ : Flm) (⟨W2, H2, nl2, nd2, nn2, nb2, ns2, nf2, L2, D2, N2, B2, S2, F2⟩ : Flm) (⟨al, cl, ad, cd, an, cn, ab, cb, ax, cx, af, cf⟩ : Pl) (⟨al2, cl2, ad2, cd2, an2, cn2, ab2, cb2, ax2, cx2, af2, cf2⟩ : Pl) _ k (HF.out.on HU3.out) (HG.out.on HU3.out) HO.out HO2.out hlt hp).mono ?_
        rintro e z1 ⟨rfl, hb1⟩
        have HC2 := Lib.hid (show (c : Int) = (keptN (⟨W, H, nl, nd, nn, nb, ns, nf, L, D, N, B, S, F⟩ : Flm) (⟨W2, H2, nl2, nd2, nn2, nb2, ns2, nf2, L2, D2, N2, B2, S2, F2⟩ : Flm) (k + 1) : Nat) by rw [keptN, if_neg hp, HCC.out]; rfl)
        have HB2 := Lib.hid (HB.out.trans (hb1.mono HB.out.size))
        clear hp
        go_wp2_with fail
        go_roundw
        case rel => exact ⟨k + 1, by omega, by go_num, Lib.hid (by rw [HC2.out]), HB2⟩
        case measure => simp [intOf]; omega
      obtain ⟨p, hpk⟩ : ∃ p : Nat, F k = p := ⟨(F k).toNat, by have := hp.1; simp only [] at this; omega⟩
      have hp0 : decide ((0 : Int) ≤ (p : Int)) = true := decide_eq_true (by omega)
      refine (dpast_y (⟨W, H, nl, nd, nn, nb, ns, nf, L, D, N, B, S, F⟩ : Flm) (⟨W2, H2, nl2, nd2, nn2, nb2, ns2, nf2, L2, D2, N2, B2, S2, F2⟩ : Flm) (⟨al, cl, ad, cd, an, cn, ab, cb, ax, cx, af, cf⟩ : Pl) (⟨al2, cl2, ad2, cd2, an2, cn2, ab2, cb2, ax2, cx2, af2, cf2⟩ : Pl) _ k p (HF.out.on HU3.out) (HG.out.on HU3.out) HO.out HO2.out hlt hp hpk).mono ?_
      rintro e z1 ⟨rfl, hb1⟩
      have HC2 := Lib.hid (show ((c : Int) + 1) = (keptN (⟨W, H, nl, nd, nn, nb, ns, nf, L, D, N, B, S, F⟩ : Flm) (⟨W2, H2, nl2, nd2, nn2, nb2, ns2, nf2, L2, D2, N2, B2, S2, F2⟩ : Flm) (k + 1) : Nat) by rw [keptN, if_pos hp, ← HCC.out]; push_cast; rfl)
      have HB2 := Lib.hid (HB.out.trans (hb1.mono HB.out.size))
      clear hp hpk
      go_wp2_with fail
      go_roundw
      case rel => exact ⟨k + 1, by omega, by go_num, Lib.hid (by rw [← HC2.out]), HB2⟩
      case measure => simp [intOf]; omega
    · have hge : ¬ (k : Int) < nf := by omega
      have c0_0 := cell_of_row _ _ 0 _ _ _ hr3_0
      have c0_1 := cell_of_row _ _ 1 _ _ _ hr3_0
      have c0_2 := cell_of_row _ _ 2 _ _ _ hr3_0
      have c0_3 := cell_of_row _ _ 3 _ _ _ hr3_0
      have c0_4 := cell_of_row _ _ 4 _ _ _ hr3_0
      have c0_5 := cell_of_row _ _ 5 _ _ _ hr3_0
      have c0_6 := cell_of_row _ _ 6 _ _ _ hr3_0
      have c0_7 := cell_of_row _ _ 7 _ _ _ hr3_0
      simp at c0_0 c0_1 c0_2 c0_3 c0_4 c0_5 c0_6 c0_7
      have HKE := Lib.hid (show k = nf by omega)
      clear hlt
      have HFE := Lib.hid (show c = keptN (⟨W, H, nl, nd, nn, nb, ns, nf, L, D, N, B, S, F⟩ : Flm) (⟨W2, H2, nl2, nd2, nn2, nb2, ns2, nf2, L2, D2, N2, B2, S2, F2⟩ : Flm) nf by rw [HCC.out, HKE.out])
      go_wp2
      go_ret
      exact ⟨by rw [← HFE.out]; rfl, HU3.out⟩

end Go.Proofs.Ytgpbnpnnbipfpaa.Fm
