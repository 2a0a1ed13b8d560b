/- Films mixed, by the program: Blend, Kept. -/
import Derived.Test.YtgpbnpnnbipfpaaE47
import Derived.Test.YtgpbnpnnbipfpaaE21
import Derived.Laws.StructEq
namespace Go.Proofs.Ytgpbnpnnbipfpaa.Fm
open Go Go.RowKit Go.Proofs.Ytgpbnpnnbipfpaa Go.Proofs.Ytgpbnpnnbipfpaa.Rp Go.Proofs.Ytgpbnpnnbipfpaa.Re Go.Proofs.Ytgpbnpnnbipfpaa.Au Go.Proofs.Ytgpbnpnnbipfpaa.Jw
set_option linter.unusedVariables false
set_option linter.unusedSimpArgs false

theorem eq_size (W H W2 H2 : Int) (r : Bool) (hr : r = decide (W = W2 ∧ H = H2)) (w : World) : (Op.equalIn 10000 33 (.agg #[.int .i64 W, .int .i64 H]) (.agg #[.int .i64 W2, .int .i64 H2])).run Try.prog w = .ok r w := by
  rw [run_equalIn_struct w 9999 33 _ _ (by kernel_rfl) (by kernel_rfl)]
  simp only [Program.fieldsOf, Try.underlying33, Op.eqFields]
  subst hr
  by_cases h1 : W = W2
  · by_cases h2 : H = H2
    · simp [go_sem, h1, h2]
    · simp [go_sem, h1, h2]
  · simp [go_sem, h1]

theorem past_y (f g : Flm) (p q : Pl) (w : World) (bn bw i k : Nat) (hn : w.heap[bn]? = some (.cells (FC f p) 40 (0, 0))) (hw : w.heap[bw]? = some (.cells (FC g q) 40 (0, 0))) (hf : FAt w f p) (hg : FAt w g q) (of : okF f) (og : okF g) (hi : i < f.nf) (hp : hasPast f g i) (hk : f.F i = k) :
    Calls Try.prog 25 #[.pointer (some ⟨bn, 0, none⟩), .pointer (some ⟨bw, 0, none⟩), .int .i64 i] w fun e w' => e = .returned (.tuple #[.int .i64 k, .bool true]) ∧ Below w.heap.size w w' := by
  have h := past_any f g p q w bn bw i hn hw hf hg of og hi
  rwa [if_pos hp, decide_eq_true hp, hk] at h

theorem past_n (f g : Flm) (p q : Pl) (w : World) (bn bw i : Nat) (hn : w.heap[bn]? = some (.cells (FC f p) 40 (0, 0))) (hw : w.heap[bw]? = some (.cells (FC g q) 40 (0, 0))) (hf : FAt w f p) (hg : FAt w g q) (of : okF f) (og : okF g) (hi : i < f.nf) (hp : ¬ hasPast f g i) :
    Calls Try.prog 25 #[.pointer (some ⟨bn, 0, none⟩), .pointer (some ⟨bw, 0, none⟩), .int .i64 i] w fun e w' => e = .returned (.tuple #[.int .i64 0, .bool false]) ∧ Below w.heap.size w w' := by
  have h := past_any f g p q w bn bw i hn hw hf hg of og hi
  rwa [if_neg hp, decide_eq_false hp] at h

theorem flatc_set (c : Nat) (L : Nat → Int) (n j : Nat) (v : Int) : (flatc c L n).set j (.int .i64 v) = flatc c (fun i => if i = j then v else L i) n := by
  apply List.ext_getElem?
  intro i
  rw [List.getElem?_set, flatc_len]
  by_cases hi : i < n * c
  · rw [flatc_at c _ n i hi, flatc_at c _ n i hi]
    by_cases hij : j = i
    · subst hij; simp [hi]
    · rw [if_neg hij, if_neg (fun e => hij e.symm)]
  · rw [List.getElem?_eq_none (by rw [flatc_len]; omega), List.getElem?_eq_none (by rw [flatc_len]; omega)]
    by_cases hij : j = i
    · subst hij; simp [hi]
    · rw [if_neg hij]

theorem flatc_congr (c : Nat) (L L' : Nat → Int) (n : Nat) (h : ∀ j, j < n * c → L j = L' j) : flatc c L n = flatc c L' n := by
  apply List.ext_getElem?
  intro i
  by_cases hi : i < n * c
  · rw [flatc_at c _ n i hi, flatc_at c _ n i hi, h i hi]
  · rw [List.getElem?_eq_none (by rw [flatc_len]; omega), List.getElem?_eq_none (by rw [flatc_len]; omega)]

theorem flat_blend (f g : Flm) (M : Nat → Int) (n i k : Nat) (hp : hasPast f g i) (hk : f.F i = k) (r0 r1 r2 : Int) (h0 : r0 = Pl.lerp (f.L (i * 3)) (M (k * 3)) 32768) (h1 : r1 = Pl.lerp (f.L (i * 3 + 1)) (M (k * 3 + 1)) 32768) (h2 : r2 = Pl.lerp (f.L (i * 3 + 2)) (M (k * 3 + 2)) 32768) :
    (((flatc 3 (blendTo f g M i) n).set (i * 3) (.int .i64 r0)).set (i * 3 + 1) (.int .i64 r1)).set (i * 3 + 2) (.int .i64 r2) = flatc 3 (blendTo f g M (i + 1)) n := by
  rw [flatc_set, flatc_set, flatc_set]
  refine flatc_congr 3 _ _ n (fun j hj => ?_)
  rw [blendTo_yes f g M i hp k hk j, ← h0, ← h1, ← h2]
  by_cases e0 : j = i * 3
  · rw [if_neg (by omega), if_neg (by omega), if_pos e0, if_pos e0]
  · rw [if_neg e0]
    by_cases e1 : j = i * 3 + 1
    · simp only [if_neg e0, if_pos e1, if_neg (show ¬ j = i * 3 + 2 by omega)]
    · simp only [if_neg e0, if_neg e1]

theorem blendTo_past (f g : Flm) (M : Nat → Int) (i c : Nat) : blendTo f g M i (i * 3 + c) = f.L (i * 3 + c) := by
  unfold blendTo
  rw [if_neg (by omega)]

set_option maxHeartbeats 8000000 in
set_option maxRecDepth 100000 in
theorem blend_f (W H : Int) (al ad an ab ax af : Option Addr) (cl cd cn cb cx cf nl nd nn nb ns nf : Nat) (L D N B S F : Nat → Int) (W2 H2 : Int) (al2 ad2 an2 ab2 ax2 af2 : Option Addr) (cl2 cd2 cn2 cb2 cx2 cf2 nl2 nd2 nn2 nb2 ns2 nf2 : Nat) (L2 D2 N2 B2 S2 F2 : Nat → Int) (W3 H3 : Int) (am : Option Addr) (nm cm : Nat) (M : Nat → Int) (w : World) (hf : FAt w (⟨W, H, nl, nd, nn, nb, ns, nf, L, D, N, B, S, F⟩ : Flm) (⟨al, cl, ad, cd, an, cn, ab, cb, ax, cx, af, cf⟩ : Pl)) (hg : FAt w (⟨W2, H2, nl2, nd2, nn2, nb2, ns2, nf2, L2, D2, N2, B2, S2, F2⟩ : Flm) (⟨al2, cl2, ad2, cd2, an2, cn2, ab2, cb2, ax2, cx2, af2, cf2⟩ : Pl)) (hm : Rw 3 w am nm M) (ho : ¬ okF (⟨W, H, nl, nd, nn, nb, ns, nf, L, D, N, B, S, F⟩ : Flm)) : Calls Try.prog 8 #[.agg #[.int .i64 W, .int .i64 H, .slice al nl cl, .slice ad nd cd, .slice an nn cn, .slice ab nb cb, .slice ax ns cx, .slice af nf cf], .agg #[.int .i64 W2, .int .i64 H2, .slice al2 nl2 cl2, .slice ad2 nd2 cd2, .slice an2 nn2 cn2, .slice ab2 nb2 cb2, .slice ax2 ns2 cx2, .slice af2 nf2 cf2], .agg #[.int .i64 W3, .int .i64 H3, .slice am nm cm]] w fun e' w' => e' = .returned (.tuple #[.agg #[.int .i64 0, .int .i64 0, .slice none 0 0], .int .i64 1]) ∧ Below w.heap.size w w' := by
  have HF := Lib.hid hf
  have HG := Lib.hid hg
  have HM := Lib.hid hm
  clear hf hg hm
  have HO := Lib.hid ho
  clear ho
  go_enter Try.func8, Try.ntmps8
  go_upto_region 1 with fail
  have hR := Au.rows4 w (.cells #[.int .i64 W, .int .i64 H, .slice al nl cl, .slice ad nd cd, .slice an nn cn, .slice ab nb cb, .slice ax ns cx, .slice af nf cf] 40) (.cells #[.int .i64 W2, .int .i64 H2, .slice al2 nl2 cl2, .slice ad2 nd2 cd2, .slice an2 nn2 cn2, .slice ab2 nb2 cb2, .slice ax2 ns2 cx2, .slice af2 nf2 cf2] 40) (.cells #[.int .i64 W3, .int .i64 H3, .slice am nm cm] 36) (.cells #[.int .i64 0, .int .i64 0, .slice none 0 0] 36)
  have HUx := Ve.below_n4 w (.cells #[.int .i64 W, .int .i64 H, .slice al nl cl, .slice ad nd cd, .slice an nn cn, .slice ab nb cb, .slice ax ns cx, .slice af nf cf] 40) (.cells #[.int .i64 W2, .int .i64 H2, .slice al2 nl2 cl2, .slice ad2 nd2 cd2, .slice an2 nn2 cn2, .slice ab2 nb2 cb2, .slice ax2 ns2 cx2, .slice af2 nf2 cf2] 40) (.cells #[.int .i64 W3, .int .i64 H3, .slice am nm cm] 36) (.cells #[.int .i64 0, .int .i64 0, .slice none 0 0] 36)
  obtain ⟨y0, hy0⟩ : ∃ y0, (((w.alloc (.cells #[.int .i64 W, .int .i64 H, .slice al nl cl, .slice ad nd cd, .slice an nn cn, .slice ab nb cb, .slice ax ns cx, .slice af nf cf] 40)).alloc (.cells #[.int .i64 W2, .int .i64 H2, .slice al2 nl2 cl2, .slice ad2 nd2 cd2, .slice an2 nn2 cn2, .slice ab2 nb2 cb2, .slice ax2 ns2 cx2, .slice af2 nf2 cf2] 40)).alloc (.cells #[.int .i64 W3, .int .i64 H3, .slice am nm cm] 36)).alloc (.cells #[.int .i64 0, .int .i64 0, .slice none 0 0] 36) = y0 := ⟨_, rfl⟩
  rw [hy0] at hR HUx ⊢
  clear hy0
  have HU0 := Lib.hid HUx
  clear HUx
  obtain ⟨hr0_0, hr0_1, hr0_2, hr0_3⟩ := hR
  have c0_0 := cell_of_row _ _ 0 _ _ _ hr0_0
  have c0_1 := cell_of_row _ _ 1 _ _ _ hr0_0
  have c0_2 := cell_of_row _ _ 2 _ _ _ hr0_0
  have c0_3 := cell_of_row _ _ 3 _ _ _ hr0_0
  have c0_4 := cell_of_row _ _ 4 _ _ _ hr0_0
  have c0_5 := cell_of_row _ _ 5 _ _ _ hr0_0
  have c0_6 := cell_of_row _ _ 6 _ _ _ hr0_0
  have c0_7 := cell_of_row _ _ 7 _ _ _ hr0_0
  simp at c0_0 c0_1 c0_2 c0_3 c0_4 c0_5 c0_6 c0_7
  go_wp2_with fail
  refine (fright_any (⟨W, H, nl, nd, nn, nb, ns, nf, L, D, N, B, S, F⟩ : Flm) (⟨al, cl, ad, cd, an, cn, ab, cb, ax, cx, af, cf⟩ : Pl) _ (HF.out.on HU0.out)).mono ?_
  rintro e y1 ⟨rfl, hb1⟩
  clear c0_0 c0_1 c0_2 c0_3 c0_4 c0_5 c0_6 c0_7
  have hr1_0 := (hb1.block _ (lt_heap hr0_0)).trans hr0_0
  have hr1_1 := (hb1.block _ (lt_heap hr0_1)).trans hr0_1
  have hr1_2 := (hb1.block _ (lt_heap hr0_2)).trans hr0_2
  have hr1_3 := (hb1.block _ (lt_heap hr0_3)).trans hr0_3
  have HU1 := Lib.hid (HU0.out.trans (hb1.mono HU0.out.size))
  clear hr0_0 hr0_1 hr0_2 hr0_3 HU0
  rw [decide_eq_false HO.out]
  have c0_0 := cell_of_row _ _ 0 _ _ _ hr1_0
  have c0_1 := cell_of_row _ _ 1 _ _ _ hr1_0
  have c0_2 := cell_of_row _ _ 2 _ _ _ hr1_0
  have c0_3 := cell_of_row _ _ 3 _ _ _ hr1_0
  have c0_4 := cell_of_row _ _ 4 _ _ _ hr1_0
  have c0_5 := cell_of_row _ _ 5 _ _ _ hr1_0
  have c0_6 := cell_of_row _ _ 6 _ _ _ hr1_0
  have c0_7 := cell_of_row _ _ 7 _ _ _ hr1_0
  have c1_0 := cell_of_row _ _ 0 _ _ _ hr1_1
  have c1_1 := cell_of_row _ _ 1 _ _ _ hr1_1
  have c1_2 := cell_of_row _ _ 2 _ _ _ hr1_1
  have c1_3 := cell_of_row _ _ 3 _ _ _ hr1_1
  have c1_4 := cell_of_row _ _ 4 _ _ _ hr1_1
  have c1_5 := cell_of_row _ _ 5 _ _ _ hr1_1
  have c1_6 := cell_of_row _ _ 6 _ _ _ hr1_1
  have c1_7 := cell_of_row _ _ 7 _ _ _ hr1_1
  have c2_0 := cell_of_row _ _ 0 _ _ _ hr1_2
  have c2_1 := cell_of_row _ _ 1 _ _ _ hr1_2
  have c2_2 := cell_of_row _ _ 2 _ _ _ hr1_2
  have c3_0 := cell_of_row _ _ 0 _ _ _ hr1_3
  have c3_1 := cell_of_row _ _ 1 _ _ _ hr1_3
  have c3_2 := cell_of_row _ _ 2 _ _ _ hr1_3
  simp at c0_0 c0_1 c0_2 c0_3 c0_4 c0_5 c0_6 c0_7 c1_0 c1_1 c1_2 c1_3 c1_4 c1_5 c1_6 c1_7 c2_0 c2_1 c2_2 c3_0 c3_1 c3_2
  go_upto_region 2 with fail
  have hHr := Lib.hid hr1_3
  have hHi := Lib.hid (show (Try.prog.info? 36).map (·.size) = some (#[.int .i64 0, .int .i64 0, .slice none 0 0] : Array Value).size by kernel_rfl)
  have hHz := Lib.hid (show (#[.int .i64 0, .int .i64 0, .slice none 0 0] : Array Value).size = (#[.int .i64 0, .int .i64 0, .slice none 0 0] : Array Value).size from rfl)
  have hHo := Lib.hid (show (#[.int .i64 0, .int .i64 0, .slice none 0 0] : Array Value).all (·.oneCell') = true by simp [Value.oneCell'])
  go_wp2_with (first | (refine Au.wpList_store_row rfl 36 (.tmp 6) (.tmp 33) rfl y1 #[.int .i64 0, .int .i64 0, .slice none 0 0] #[.int .i64 0, .int .i64 0, .slice none 0 0] (w.heap.size + 1 + 1 + 1) 36 hHr.out rfl rfl hHi.out hHz.out hHo.out ?_))
  clear c0_0 c0_1 c0_2 c0_3 c0_4 c0_5 c0_6 c0_7 c1_0 c1_1 c1_2 c1_3 c1_4 c1_5 c1_6 c1_7 c2_0 c2_1 c2_2 c3_0 c3_1 c3_2
  clear hHr hHi hHz hHo
  have hN := setRow_heap _ (w.heap.size + 1 + 1 + 1) _ #[.int .i64 0, .int .i64 0, .slice none 0 0] _ _ hr1_3
  have hsz := HU1.out.size
  have HUx := below_setRow (g := w.heap.size + 1 + 1 + 1) HU1.out (by first | omega | (simp at *; omega)) #[.int .i64 0, .int .i64 0, .slice none 0 0]
  have hO : ∀ kk, kk ≠ w.heap.size + 1 + 1 + 1 → (y1.setRow (w.heap.size + 1 + 1 + 1) #[.int .i64 0, .int .i64 0, .slice none 0 0]).heap[kk]? = y1.heap[kk]? := fun kk hk => setRow_other _ _ _ _ hk
  obtain ⟨y2, hy2⟩ : ∃ y, y1.setRow (w.heap.size + 1 + 1 + 1) #[.int .i64 0, .int .i64 0, .slice none 0 0] = y := ⟨_, rfl⟩
  rw [hy2] at hN HUx hO ⊢
  clear hy2 hsz
  have HU2 := Lib.hid HUx
  clear HUx
  have hr2_0 := (hO _ (by omega)).trans hr1_0
  have hr2_1 := (hO _ (by omega)).trans hr1_1
  have hr2_2 := (hO _ (by omega)).trans hr1_2
  have hr2_3 := hN
  clear hN hO
  clear hr1_0 hr1_1 hr1_2 hr1_3 HU1
  have c3_0 := cell_of_row _ _ 0 _ _ _ hr2_3
  have c3_1 := cell_of_row _ _ 1 _ _ _ hr2_3
  have c3_2 := cell_of_row _ _ 2 _ _ _ hr2_3
  simp at c3_0 c3_1 c3_2
  go_wp2
  exact bodyPost_ret (v := .tuple #[.agg #[.int .i64 0, .int .i64 0, .slice none 0 0], .int .i64 1]) (by simp [results, Try.results8, go_sem, c3_0, c3_1, c3_2]) rfl ⟨rfl, HU2.out⟩

set_option maxHeartbeats 8000000 in
set_option maxRecDepth 100000 in
theorem blend_g (W H : Int) (al ad an ab ax af : Option Addr) (cl cd cn cb cx cf nl nd nn nb ns nf : Nat) (L D N B S F : Nat → Int) (W2 H2 : Int) (al2 ad2 an2 ab2 ax2 af2 : Option Addr) (cl2 cd2 cn2 cb2 cx2 cf2 nl2 nd2 nn2 nb2 ns2 nf2 : Nat) (L2 D2 N2 B2 S2 F2 : Nat → Int) (W3 H3 : Int) (am : Option Addr) (nm cm : Nat) (M : Nat → Int) (w : World) (hf : FAt w (⟨W, H, nl, nd, nn, nb, ns, nf, L, D, N, B, S, F⟩ : Flm) (⟨al, cl, ad, cd, an, cn, ab, cb, ax, cx, af, cf⟩ : Pl)) (hg : FAt w (⟨W2, H2, nl2, nd2, nn2, nb2, ns2, nf2, L2, D2, N2, B2, S2, F2⟩ : Flm) (⟨al2, cl2, ad2, cd2, an2, cn2, ab2, cb2, ax2, cx2, af2, cf2⟩ : Pl)) (hm : Rw 3 w am nm M) (ho : okF (⟨W, H, nl, nd, nn, nb, ns, nf, L, D, N, B, S, F⟩ : Flm)) (ho2 : ¬ okF (⟨W2, H2, nl2, nd2, nn2, nb2, ns2, nf2, L2, D2, N2, B2, S2, F2⟩ : Flm)) : Calls Try.prog 8 #[.agg #[.int .i64 W, .int .i64 H, .slice al nl cl, .slice ad nd cd, .slice an nn cn, .slice ab nb cb, .slice ax ns cx, .slice af nf cf], .agg #[.int .i64 W2, .int .i64 H2, .slice al2 nl2 cl2, .slice ad2 nd2 cd2, .slice an2 nn2 cn2, .slice ab2 nb2 cb2, .slice ax2 ns2 cx2, .slice af2 nf2 cf2], .agg #[.int .i64 W3, .int .i64 H3, .slice am nm cm]] w fun e' w' => e' = .returned (.tuple #[.agg #[.int .i64 0, .int .i64 0, .slice none 0 0], .int .i64 1]) ∧ Below w.heap.size w w' := by
  have HF := Lib.hid hf
  have HG := Lib.hid hg
  have HM := Lib.hid hm
  clear hf hg hm
  have HO := Lib.hid ho
  clear ho
  have HO2 := Lib.hid ho2
  clear ho2
  go_enter Try.func8, Try.ntmps8
  go_upto_region 1 with fail
  have hR := Au.rows4 w (.cells #[.int .i64 W, .int .i64 H, .slice al nl cl, .slice ad nd cd, .slice an nn cn, .slice ab nb cb, .slice ax ns cx, .slice af nf cf] 40) (.cells #[.int .i64 W2, .int .i64 H2, .slice al2 nl2 cl2, .slice ad2 nd2 cd2, .slice an2 nn2 cn2, .slice ab2 nb2 cb2, .slice ax2 ns2 cx2, .slice af2 nf2 cf2] 40) (.cells #[.int .i64 W3, .int .i64 H3, .slice am nm cm] 36) (.cells #[.int .i64 0, .int .i64 0, .slice none 0 0] 36)
  have HUx := Ve.below_n4 w (.cells #[.int .i64 W, .int .i64 H, .slice al nl cl, .slice ad nd cd, .slice an nn cn, .slice ab nb cb, .slice ax ns cx, .slice af nf cf] 40) (.cells #[.int .i64 W2, .int .i64 H2, .slice al2 nl2 cl2, .slice ad2 nd2 cd2, .slice an2 nn2 cn2, .slice ab2 nb2 cb2, .slice ax2 ns2 cx2, .slice af2 nf2 cf2] 40) (.cells #[.int .i64 W3, .int .i64 H3, .slice am nm cm] 36) (.cells #[.int .i64 0, .int .i64 0, .slice none 0 0] 36)
  obtain ⟨y0, hy0⟩ : ∃ y0, (((w.alloc (.cells #[.int .i64 W, .int .i64 H, .slice al nl cl, .slice ad nd cd, .slice an nn cn, .slice ab nb cb, .slice ax ns cx, .slice af nf cf] 40)).alloc (.cells #[.int .i64 W2, .int .i64 H2, .slice al2 nl2 cl2, .slice ad2 nd2 cd2, .slice an2 nn2 cn2, .slice ab2 nb2 cb2, .slice ax2 ns2 cx2, .slice af2 nf2 cf2] 40)).alloc (.cells #[.int .i64 W3, .int .i64 H3, .slice am nm cm] 36)).alloc (.cells #[.int .i64 0, .int .i64 0, .slice none 0 0] 36) = y0 := ⟨_, rfl⟩
  rw [hy0] at hR HUx ⊢
  clear hy0
  have HU0 := Lib.hid HUx
  clear HUx
  obtain ⟨hr0_0, hr0_1, hr0_2, hr0_3⟩ := hR
  have c0_0 := cell_of_row _ _ 0 _ _ _ hr0_0
  have c0_1 := cell_of_row _ _ 1 _ _ _ hr0_0
  have c0_2 := cell_of_row _ _ 2 _ _ _ hr0_0
  have c0_3 := cell_of_row _ _ 3 _ _ _ hr0_0
  have c0_4 := cell_of_row _ _ 4 _ _ _ hr0_0
  have c0_5 := cell_of_row _ _ 5 _ _ _ hr0_0
  have c0_6 := cell_of_row _ _ 6 _ _ _ hr0_0
  have c0_7 := cell_of_row _ _ 7 _ _ _ hr0_0
  simp at c0_0 c0_1 c0_2 c0_3 c0_4 c0_5 c0_6 c0_7
  go_wp2_with fail
  refine (fright_any (⟨W, H, nl, nd, nn, nb, ns, nf, L, D, N, B, S, F⟩ : Flm) (⟨al, cl, ad, cd, an, cn, ab, cb, ax, cx, af, cf⟩ : Pl) _ (HF.out.on HU0.out)).mono ?_
  rintro e y1 ⟨rfl, hb1⟩
  clear c0_0 c0_1 c0_2 c0_3 c0_4 c0_5 c0_6 c0_7
  have hr1_0 := (hb1.block _ (lt_heap hr0_0)).trans hr0_0
  have hr1_1 := (hb1.block _ (lt_heap hr0_1)).trans hr0_1
  have hr1_2 := (hb1.block _ (lt_heap hr0_2)).trans hr0_2
  have hr1_3 := (hb1.block _ (lt_heap hr0_3)).trans hr0_3
  have HU1 := Lib.hid (HU0.out.trans (hb1.mono HU0.out.size))
  clear hr0_0 hr0_1 hr0_2 hr0_3 HU0
  rw [decide_eq_true HO.out]
  have c1_0 := cell_of_row _ _ 0 _ _ _ hr1_1
  have c1_1 := cell_of_row _ _ 1 _ _ _ hr1_1
  have c1_2 := cell_of_row _ _ 2 _ _ _ hr1_1
  have c1_3 := cell_of_row _ _ 3 _ _ _ hr1_1
  have c1_4 := cell_of_row _ _ 4 _ _ _ hr1_1
  have c1_5 := cell_of_row _ _ 5 _ _ _ hr1_1
  have c1_6 := cell_of_row _ _ 6 _ _ _ hr1_1
  have c1_7 := cell_of_row _ _ 7 _ _ _ hr1_1
  simp at c1_0 c1_1 c1_2 c1_3 c1_4 c1_5 c1_6 c1_7
  go_wp2_with fail
  refine (fright_any (⟨W2, H2, nl2, nd2, nn2, nb2, ns2, nf2, L2, D2, N2, B2, S2, F2⟩ : Flm) (⟨al2, cl2, ad2, cd2, an2, cn2, ab2, cb2, ax2, cx2, af2, cf2⟩ : Pl) _ (HG.out.on HU1.out)).mono ?_
  rintro e y2 ⟨rfl, hb2⟩
  clear c1_0 c1_1 c1_2 c1_3 c1_4 c1_5 c1_6 c1_7
  have hr2_0 := (hb2.block _ (lt_heap hr1_0)).trans hr1_0
  have hr2_1 := (hb2.block _ (lt_heap hr1_1)).trans hr1_1
  have hr2_2 := (hb2.block _ (lt_heap hr1_2)).trans hr1_2
  have hr2_3 := (hb2.block _ (lt_heap hr1_3)).trans hr1_3
  have HU2 := Lib.hid (HU1.out.trans (hb2.mono HU1.out.size))
  clear hr1_0 hr1_1 hr1_2 hr1_3 HU1
  rw [decide_eq_false HO2.out]
  have c0_0 := cell_of_row _ _ 0 _ _ _ hr2_0
  have c0_1 := cell_of_row _ _ 1 _ _ _ hr2_0
  have c0_2 := cell_of_row _ _ 2 _ _ _ hr2_0
  have c0_3 := cell_of_row _ _ 3 _ _ _ hr2_0
  have c0_4 := cell_of_row _ _ 4 _ _ _ hr2_0
  have c0_5 := cell_of_row _ _ 5 _ _ _ hr2_0
  have c0_6 := cell_of_row _ _ 6 _ _ _ hr2_0
  have c0_7 := cell_of_row _ _ 7 _ _ _ hr2_0
  have c1_0 := cell_of_row _ _ 0 _ _ _ hr2_1
  have c1_1 := cell_of_row _ _ 1 _ _ _ hr2_1
  have c1_2 := cell_of_row _ _ 2 _ _ _ hr2_1
  have c1_3 := cell_of_row _ _ 3 _ _ _ hr2_1
  have c1_4 := cell_of_row _ _ 4 _ _ _ hr2_1
  have c1_5 := cell_of_row _ _ 5 _ _ _ hr2_1
  have c1_6 := cell_of_row _ _ 6 _ _ _ hr2_1
  have c1_7 := cell_of_row _ _ 7 _ _ _ hr2_1
  have c2_0 := cell_of_row _ _ 0 _ _ _ hr2_2
  have c2_1 := cell_of_row _ _ 1 _ _ _ hr2_2
  have c2_2 := cell_of_row _ _ 2 _ _ _ hr2_2
  have c3_0 := cell_of_row _ _ 0 _ _ _ hr2_3
  have c3_1 := cell_of_row _ _ 1 _ _ _ hr2_3
  have c3_2 := cell_of_row _ _ 2 _ _ _ hr2_3
  simp at c0_0 c0_1 c0_2 c0_3 c0_4 c0_5 c0_6 c0_7 c1_0 c1_1 c1_2 c1_3 c1_4 c1_5 c1_6 c1_7 c2_0 c2_1 c2_2 c3_0 c3_1 c3_2
  go_upto_region 2 with fail
  have hHr := Lib.hid hr2_3
  have hHi := Lib.hid (show (Try.prog.info? 36).map (·.size) = some (#[.int .i64 0, .int .i64 0, .slice none 0 0] : Array Value).size by kernel_rfl)
  have hHz := Lib.hid (show (#[.int .i64 0, .int .i64 0, .slice none 0 0] : Array Value).size = (#[.int .i64 0, .int .i64 0, .slice none 0 0] : Array Value).size from rfl)
  have hHo := Lib.hid (show (#[.int .i64 0, .int .i64 0, .slice none 0 0] : Array Value).all (·.oneCell') = true by simp [Value.oneCell'])
  go_wp2_with (first | (refine Au.wpList_store_row rfl 36 (.tmp 6) (.tmp 33) rfl y2 #[.int .i64 0, .int .i64 0, .slice none 0 0] #[.int .i64 0, .int .i64 0, .slice none 0 0] (w.heap.size + 1 + 1 + 1) 36 hHr.out rfl rfl hHi.out hHz.out hHo.out ?_))
  clear c0_0 c0_1 c0_2 c0_3 c0_4 c0_5 c0_6 c0_7 c1_0 c1_1 c1_2 c1_3 c1_4 c1_5 c1_6 c1_7 c2_0 c2_1 c2_2 c3_0 c3_1 c3_2
  clear hHr hHi hHz hHo
  have hN := setRow_heap _ (w.heap.size + 1 + 1 + 1) _ #[.int .i64 0, .int .i64 0, .slice none 0 0] _ _ hr2_3
  have hsz := HU2.out.size
  have HUx := below_setRow (g := w.heap.size + 1 + 1 + 1) HU2.out (by first | omega | (simp at *; omega)) #[.int .i64 0, .int .i64 0, .slice none 0 0]
  have hO : ∀ kk, kk ≠ w.heap.size + 1 + 1 + 1 → (y2.setRow (w.heap.size + 1 + 1 + 1) #[.int .i64 0, .int .i64 0, .slice none 0 0]).heap[kk]? = y2.heap[kk]? := fun kk hk => setRow_other _ _ _ _ hk
  obtain ⟨y3, hy3⟩ : ∃ y, y2.setRow (w.heap.size + 1 + 1 + 1) #[.int .i64 0, .int .i64 0, .slice none 0 0] = y := ⟨_, rfl⟩
  rw [hy3] at hN HUx hO ⊢
  clear hy3 hsz
  have HU3 := Lib.hid HUx
  clear HUx
  have hr3_0 := (hO _ (by omega)).trans hr2_0
  have hr3_1 := (hO _ (by omega)).trans hr2_1
  have hr3_2 := (hO _ (by omega)).trans hr2_2
  have hr3_3 := hN
  clear hN hO
  clear hr2_0 hr2_1 hr2_2 hr2_3 HU2
  have c3_0 := cell_of_row _ _ 0 _ _ _ hr3_3
  have c3_1 := cell_of_row _ _ 1 _ _ _ hr3_3
  have c3_2 := cell_of_row _ _ 2 _ _ _ hr3_3
  simp at c3_0 c3_1 c3_2
  go_wp2
  exact bodyPost_ret (v := .tuple #[.agg #[.int .i64 0, .int .i64 0, .slice none 0 0], .int .i64 1]) (by simp [results, Try.results8, go_sem, c3_0, c3_1, c3_2]) rfl ⟨rfl, HU3.out⟩

set_option maxHeartbeats 8000000 in
set_option maxRecDepth 100000 in
theorem blend_m (W H : Int) (al ad an ab ax af : Option Addr) (cl cd cn cb cx cf nl nd nn nb ns nf : Nat) (L D N B S F : Nat → Int) (W2 H2 : Int) (al2 ad2 an2 ab2 ax2 af2 : Option Addr) (cl2 cd2 cn2 cb2 cx2 cf2 nl2 nd2 nn2 nb2 ns2 nf2 : Nat) (L2 D2 N2 B2 S2 F2 : Nat → Int) (W3 H3 : Int) (am : Option Addr) (nm cm : Nat) (M : Nat → Int) (w : World) (hf : FAt w (⟨W, H, nl, nd, nn, nb, ns, nf, L, D, N, B, S, F⟩ : Flm) (⟨al, cl, ad, cd, an, cn, ab, cb, ax, cx, af, cf⟩ : Pl)) (hg : FAt w (⟨W2, H2, nl2, nd2, nn2, nb2, ns2, nf2, L2, D2, N2, B2, S2, F2⟩ : Flm) (⟨al2, cl2, ad2, cd2, an2, cn2, ab2, cb2, ax2, cx2, af2, cf2⟩ : Pl)) (hm : Rw 3 w am nm M) (ho : okF (⟨W, H, nl, nd, nn, nb, ns, nf, L, D, N, B, S, F⟩ : Flm)) (ho2 : okF (⟨W2, H2, nl2, nd2, nn2, nb2, ns2, nf2, L2, D2, N2, B2, S2, F2⟩ : Flm)) (ho3 : ¬ okSh W3 H3 nm) : Calls Try.prog 8 #[.agg #[.int .i64 W, .int .i64 H, .slice al nl cl, .slice ad nd cd, .slice an nn cn, .slice ab nb cb, .slice ax ns cx, .slice af nf cf], .agg #[.int .i64 W2, .int .i64 H2, .slice al2 nl2 cl2, .slice ad2 nd2 cd2, .slice an2 nn2 cn2, .slice ab2 nb2 cb2, .slice ax2 ns2 cx2, .slice af2 nf2 cf2], .agg #[.int .i64 W3, .int .i64 H3, .slice am nm cm]] w fun e' w' => e' = .returned (.tuple #[.agg #[.int .i64 0, .int .i64 0, .slice none 0 0], .int .i64 1]) ∧ Below w.heap.size w w' := by
  have HF := Lib.hid hf
  have HG := Lib.hid hg
  have HM := Lib.hid hm
  clear hf hg hm
  have HO := Lib.hid ho
  clear ho
  have HO2 := Lib.hid ho2
  clear ho2
  have HO3 := Lib.hid ho3
  clear ho3
  go_enter Try.func8, Try.ntmps8
  go_upto_region 1 with fail
  have hR := Au.rows4 w (.cells #[.int .i64 W, .int .i64 H, .slice al nl cl, .slice ad nd cd, .slice an nn cn, .slice ab nb cb, .slice ax ns cx, .slice af nf cf] 40) (.cells #[.int .i64 W2, .int .i64 H2, .slice al2 nl2 cl2, .slice ad2 nd2 cd2, .slice an2 nn2 cn2, .slice ab2 nb2 cb2, .slice ax2 ns2 cx2, .slice af2 nf2 cf2] 40) (.cells #[.int .i64 W3, .int .i64 H3, .slice am nm cm] 36) (.cells #[.int .i64 0, .int .i64 0, .slice none 0 0] 36)
  have HUx := Ve.below_n4 w (.cells #[.int .i64 W, .int .i64 H, .slice al nl cl, .slice ad nd cd, .slice an nn cn, .slice ab nb cb, .slice ax ns cx, .slice af nf cf] 40) (.cells #[.int .i64 W2, .int .i64 H2, .slice al2 nl2 cl2, .slice ad2 nd2 cd2, .slice an2 nn2 cn2, .slice ab2 nb2 cb2, .slice ax2 ns2 cx2, .slice af2 nf2 cf2] 40) (.cells #[.int .i64 W3, .int .i64 H3, .slice am nm cm] 36) (.cells #[.int .i64 0, .int .i64 0, .slice none 0 0] 36)
  obtain ⟨y0, hy0⟩ : ∃ y0, (((w.alloc (.cells #[.int .i64 W, .int .i64 H, .slice al nl cl, .slice ad nd cd, .slice an nn cn, .slice ab nb cb, .slice ax ns cx, .slice af nf cf] 40)).alloc (.cells #[.int .i64 W2, .int .i64 H2, .slice al2 nl2 cl2, .slice ad2 nd2 cd2, .slice an2 nn2 cn2, .slice ab2 nb2 cb2, .slice ax2 ns2 cx2, .slice af2 nf2 cf2] 40)).alloc (.cells #[.int .i64 W3, .int .i64 H3, .slice am nm cm] 36)).alloc (.cells #[.int .i64 0, .int .i64 0, .slice none 0 0] 36) = y0 := ⟨_, rfl⟩
  rw [hy0] at hR HUx ⊢
  clear hy0
  have HU0 := Lib.hid HUx
  clear HUx
  obtain ⟨hr0_0, hr0_1, hr0_2, hr0_3⟩ := hR
  have c0_0 := cell_of_row _ _ 0 _ _ _ hr0_0
  have c0_1 := cell_of_row _ _ 1 _ _ _ hr0_0
  have c0_2 := cell_of_row _ _ 2 _ _ _ hr0_0
  have c0_3 := cell_of_row _ _ 3 _ _ _ hr0_0
  have c0_4 := cell_of_row _ _ 4 _ _ _ hr0_0
  have c0_5 := cell_of_row _ _ 5 _ _ _ hr0_0
  have c0_6 := cell_of_row _ _ 6 _ _ _ hr0_0
  have c0_7 := cell_of_row _ _ 7 _ _ _ hr0_0
  simp at c0_0 c0_1 c0_2 c0_3 c0_4 c0_5 c0_6 c0_7
  go_wp2_with fail
  refine (fright_any (⟨W, H, nl, nd, nn, nb, ns, nf, L, D, N, B, S, F⟩ : Flm) (⟨al, cl, ad, cd, an, cn, ab, cb, ax, cx, af, cf⟩ : Pl) _ (HF.out.on HU0.out)).mono ?_
  rintro e y1 ⟨rfl, hb1⟩
  clear c0_0 c0_1 c0_2 c0_3 c0_4 c0_5 c0_6 c0_7
  have hr1_0 := (hb1.block _ (lt_heap hr0_0)).trans hr0_0
  have hr1_1 := (hb1.block _ (lt_heap hr0_1)).trans hr0_1
  have hr1_2 := (hb1.block _ (lt_heap hr0_2)).trans hr0_2
  have hr1_3 := (hb1.block _ (lt_heap hr0_3)).trans hr0_3
  have HU1 := Lib.hid (HU0.out.trans (hb1.mono HU0.out.size))
  clear hr0_0 hr0_1 hr0_2 hr0_3 HU0
  rw [decide_eq_true HO.out]
  have c1_0 := cell_of_row _ _ 0 _ _ _ hr1_1
  have c1_1 := cell_of_row _ _ 1 _ _ _ hr1_1
  have c1_2 := cell_of_row _ _ 2 _ _ _ hr1_1
  have c1_3 := cell_of_row _ _ 3 _ _ _ hr1_1
  have c1_4 := cell_of_row _ _ 4 _ _ _ hr1_1
  have c1_5 := cell_of_row _ _ 5 _ _ _ hr1_1
  have c1_6 := cell_of_row _ _ 6 _ _ _ hr1_1
  have c1_7 := cell_of_row _ _ 7 _ _ _ hr1_1
  simp at c1_0 c1_1 c1_2 c1_3 c1_4 c1_5 c1_6 c1_7
  go_wp2_with fail
  refine (fright_any (⟨W2, H2, nl2, nd2, nn2, nb2, ns2, nf2, L2, D2, N2, B2, S2, F2⟩ : Flm) (⟨al2, cl2, ad2, cd2, an2, cn2, ab2, cb2, ax2, cx2, af2, cf2⟩ : Pl) _ (HG.out.on HU1.out)).mono ?_
  rintro e y2 ⟨rfl, hb2⟩
  clear c1_0 c1_1 c1_2 c1_3 c1_4 c1_5 c1_6 c1_7
  have hr2_0 := (hb2.block _ (lt_heap hr1_0)).trans hr1_0
  have hr2_1 := (hb2.block _ (lt_heap hr1_1)).trans hr1_1
  have hr2_2 := (hb2.block _ (lt_heap hr1_2)).trans hr1_2
  have hr2_3 := (hb2.block _ (lt_heap hr1_3)).trans hr1_3
  have HU2 := Lib.hid (HU1.out.trans (hb2.mono HU1.out.size))
  clear hr1_0 hr1_1 hr1_2 hr1_3 HU1
  rw [decide_eq_true HO2.out]
  have c2_0 := cell_of_row _ _ 0 _ _ _ hr2_2
  have c2_1 := cell_of_row _ _ 1 _ _ _ hr2_2
  have c2_2 := cell_of_row _ _ 2 _ _ _ hr2_2
  simp at c2_0 c2_1 c2_2
  go_wp2_with fail
  refine (shright_any W3 H3 am nm cm _).mono ?_
  rintro e y3 ⟨rfl, hb3⟩
  clear c2_0 c2_1 c2_2
  have hr3_0 := (hb3.block _ (lt_heap hr2_0)).trans hr2_0
  have hr3_1 := (hb3.block _ (lt_heap hr2_1)).trans hr2_1
  have hr3_2 := (hb3.block _ (lt_heap hr2_2)).trans hr2_2
  have hr3_3 := (hb3.block _ (lt_heap hr2_3)).trans hr2_3
  have HU3 := Lib.hid (HU2.out.trans (hb3.mono HU2.out.size))
  clear hr2_0 hr2_1 hr2_2 hr2_3 HU2
  rw [decide_eq_false HO3.out]
  have c0_0 := cell_of_row _ _ 0 _ _ _ hr3_0
  have c0_1 := cell_of_row _ _ 1 _ _ _ hr3_0
  have c0_2 := cell_of_row _ _ 2 _ _ _ hr3_0
  have c0_3 := cell_of_row _ _ 3 _ _ _ hr3_0
  have c0_4 := cell_of_row _ _ 4 _ _ _ hr3_0
  have c0_5 := cell_of_row _ _ 5 _ _ _ hr3_0
  have c0_6 := cell_of_row _ _ 6 _ _ _ hr3_0
  have c0_7 := cell_of_row _ _ 7 _ _ _ hr3_0
  have c1_0 := cell_of_row _ _ 0 _ _ _ hr3_1
  have c1_1 := cell_of_row _ _ 1 _ _ _ hr3_1
  have c1_2 := cell_of_row _ _ 2 _ _ _ hr3_1
  have c1_3 := cell_of_row _ _ 3 _ _ _ hr3_1
  have c1_4 := cell_of_row _ _ 4 _ _ _ hr3_1
  have c1_5 := cell_of_row _ _ 5 _ _ _ hr3_1
  have c1_6 := cell_of_row _ _ 6 _ _ _ hr3_1
  have c1_7 := cell_of_row _ _ 7 _ _ _ hr3_1
  have c2_0 := cell_of_row _ _ 0 _ _ _ hr3_2
  have c2_1 := cell_of_row _ _ 1 _ _ _ hr3_2
  have c2_2 := cell_of_row _ _ 2 _ _ _ hr3_2
  have c3_0 := cell_of_row _ _ 0 _ _ _ hr3_3
  have c3_1 := cell_of_row _ _ 1 _ _ _ hr3_3
  have c3_2 := cell_of_row _ _ 2 _ _ _ hr3_3
  simp at c0_0 c0_1 c0_2 c0_3 c0_4 c0_5 c0_6 c0_7 c1_0 c1_1 c1_2 c1_3 c1_4 c1_5 c1_6 c1_7 c2_0 c2_1 c2_2 c3_0 c3_1 c3_2
  go_upto_region 2 with fail
  have hHr := Lib.hid hr3_3
  have hHi := Lib.hid (show (Try.prog.info? 36).map (·.size) = some (#[.int .i64 0, .int .i64 0, .slice none 0 0] : Array Value).size by kernel_rfl)
  have hHz := Lib.hid (show (#[.int .i64 0, .int .i64 0, .slice none 0 0] : Array Value).size = (#[.int .i64 0, .int .i64 0, .slice none 0 0] : Array Value).size from rfl)
  have hHo := Lib.hid (show (#[.int .i64 0, .int .i64 0, .slice none 0 0] : Array Value).all (·.oneCell') = true by simp [Value.oneCell'])
  go_wp2_with (first | (refine Au.wpList_store_row rfl 36 (.tmp 6) (.tmp 33) rfl y3 #[.int .i64 0, .int .i64 0, .slice none 0 0] #[.int .i64 0, .int .i64 0, .slice none 0 0] (w.heap.size + 1 + 1 + 1) 36 hHr.out rfl rfl hHi.out hHz.out hHo.out ?_))
  clear c0_0 c0_1 c0_2 c0_3 c0_4 c0_5 c0_6 c0_7 c1_0 c1_1 c1_2 c1_3 c1_4 c1_5 c1_6 c1_7 c2_0 c2_1 c2_2 c3_0 c3_1 c3_2
  clear hHr hHi hHz hHo
  have hN := setRow_heap _ (w.heap.size + 1 + 1 + 1) _ #[.int .i64 0, .int .i64 0, .slice none 0 0] _ _ hr3_3
  have hsz := HU3.out.size
  have HUx := below_setRow (g := w.heap.size + 1 + 1 + 1) HU3.out (by first | omega | (simp at *; omega)) #[.int .i64 0, .int .i64 0, .slice none 0 0]
  have hO : ∀ kk, kk ≠ w.heap.size + 1 + 1 + 1 → (y3.setRow (w.heap.size + 1 + 1 + 1) #[.int .i64 0, .int .i64 0, .slice none 0 0]).heap[kk]? = y3.heap[kk]? := fun kk hk => setRow_other _ _ _ _ hk
  obtain ⟨y4, hy4⟩ : ∃ y, y3.setRow (w.heap.size + 1 + 1 + 1) #[.int .i64 0, .int .i64 0, .slice none 0 0] = y := ⟨_, rfl⟩
  rw [hy4] at hN HUx hO ⊢
  clear hy4 hsz
  have HU4 := Lib.hid HUx
  clear HUx
  have hr4_0 := (hO _ (by omega)).trans hr3_0
  have hr4_1 := (hO _ (by omega)).trans hr3_1
  have hr4_2 := (hO _ (by omega)).trans hr3_2
  have hr4_3 := hN
  clear hN hO
  clear hr3_0 hr3_1 hr3_2 hr3_3 HU3
  have c3_0 := cell_of_row _ _ 0 _ _ _ hr4_3
  have c3_1 := cell_of_row _ _ 1 _ _ _ hr4_3
  have c3_2 := cell_of_row _ _ 2 _ _ _ hr4_3
  simp at c3_0 c3_1 c3_2
  go_wp2
  exact bodyPost_ret (v := .tuple #[.agg #[.int .i64 0, .int .i64 0, .slice none 0 0], .int .i64 1]) (by simp [results, Try.results8, go_sem, c3_0, c3_1, c3_2]) rfl ⟨rfl, HU4.out⟩

set_option maxHeartbeats 8000000 in
set_option maxRecDepth 100000 in
theorem blend_sz (W H : Int) (al ad an ab ax af : Option Addr) (cl cd cn cb cx cf nl nd nn nb ns nf : Nat) (L D N B S F : Nat → Int) (W2 H2 : Int) (al2 ad2 an2 ab2 ax2 af2 : Option Addr) (cl2 cd2 cn2 cb2 cx2 cf2 nl2 nd2 nn2 nb2 ns2 nf2 : Nat) (L2 D2 N2 B2 S2 F2 : Nat → Int) (W3 H3 : Int) (am : Option Addr) (nm cm : Nat) (M : Nat → Int) (w : World) (hf : FAt w (⟨W, H, nl, nd, nn, nb, ns, nf, L, D, N, B, S, F⟩ : Flm) (⟨al, cl, ad, cd, an, cn, ab, cb, ax, cx, af, cf⟩ : Pl)) (hg : FAt w (⟨W2, H2, nl2, nd2, nn2, nb2, ns2, nf2, L2, D2, N2, B2, S2, F2⟩ : Flm) (⟨al2, cl2, ad2, cd2, an2, cn2, ab2, cb2, ax2, cx2, af2, cf2⟩ : Pl)) (hm : Rw 3 w am nm M) (ho : okF (⟨W, H, nl, nd, nn, nb, ns, nf, L, D, N, B, S, F⟩ : Flm)) (ho2 : okF (⟨W2, H2, nl2, nd2, nn2, nb2, ns2, nf2, L2, D2, N2, B2, S2, F2⟩ : Flm)) (ho3 : okSh W3 H3 nm) (hs : ¬ (W3 = W2 ∧ H3 = H2)) : Calls Try.prog 8 #[.agg #[.int .i64 W, .int .i64 H, .slice al nl cl, .slice ad nd cd, .slice an nn cn, .slice ab nb cb, .slice ax ns cx, .slice af nf cf], .agg #[.int .i64 W2, .int .i64 H2, .slice al2 nl2 cl2, .slice ad2 nd2 cd2, .slice an2 nn2 cn2, .slice ab2 nb2 cb2, .slice ax2 ns2 cx2, .slice af2 nf2 cf2], .agg #[.int .i64 W3, .int .i64 H3, .slice am nm cm]] w fun e' w' => e' = .returned (.tuple #[.agg #[.int .i64 0, .int .i64 0, .slice none 0 0], .int .i64 1]) ∧ Below w.heap.size w w' := by
  have HF := Lib.hid hf
  have HG := Lib.hid hg
  have HM := Lib.hid hm
  clear hf hg hm
  have HO := Lib.hid ho
  clear ho
  have HO2 := Lib.hid ho2
  clear ho2
  have HO3 := Lib.hid ho3
  clear ho3
  have heq := fun W => eq_size W3 H3 W2 H2 false (decide_eq_false hs).symm W
  have HS := Lib.hid hs
  clear hs
  go_enter Try.func8, Try.ntmps8
  go_upto_region 1 with fail
  have hR := Au.rows4 w (.cells #[.int .i64 W, .int .i64 H, .slice al nl cl, .slice ad nd cd, .slice an nn cn, .slice ab nb cb, .slice ax ns cx, .slice af nf cf] 40) (.cells #[.int .i64 W2, .int .i64 H2, .slice al2 nl2 cl2, .slice ad2 nd2 cd2, .slice an2 nn2 cn2, .slice ab2 nb2 cb2, .slice ax2 ns2 cx2, .slice af2 nf2 cf2] 40) (.cells #[.int .i64 W3, .int .i64 H3, .slice am nm cm] 36) (.cells #[.int .i64 0, .int .i64 0, .slice none 0 0] 36)
  have HUx := Ve.below_n4 w (.cells #[.int .i64 W, .int .i64 H, .slice al nl cl, .slice ad nd cd, .slice an nn cn, .slice ab nb cb, .slice ax ns cx, .slice af nf cf] 40) (.cells #[.int .i64 W2, .int .i64 H2, .slice al2 nl2 cl2, .slice ad2 nd2 cd2, .slice an2 nn2 cn2, .slice ab2 nb2 cb2, .slice ax2 ns2 cx2, .slice af2 nf2 cf2] 40) (.cells #[.int .i64 W3, .int .i64 H3, .slice am nm cm] 36) (.cells #[.int .i64 0, .int .i64 0, .slice none 0 0] 36)
  obtain ⟨y0, hy0⟩ : ∃ y0, (((w.alloc (.cells #[.int .i64 W, .int .i64 H, .slice al nl cl, .slice ad nd cd, .slice an nn cn, .slice ab nb cb, .slice ax ns cx, .slice af nf cf] 40)).alloc (.cells #[.int .i64 W2, .int .i64 H2, .slice al2 nl2 cl2, .slice ad2 nd2 cd2, .slice an2 nn2 cn2, .slice ab2 nb2 cb2, .slice ax2 ns2 cx2, .slice af2 nf2 cf2] 40)).alloc (.cells #[.int .i64 W3, .int .i64 H3, .slice am nm cm] 36)).alloc (.cells #[.int .i64 0, .int .i64 0, .slice none 0 0] 36) = y0 := ⟨_, rfl⟩
  rw [hy0] at hR HUx ⊢
  clear hy0
  have HU0 := Lib.hid HUx
  clear HUx
  obtain ⟨hr0_0, hr0_1, hr0_2, hr0_3⟩ := hR
  have c0_0 := cell_of_row _ _ 0 _ _ _ hr0_0
  have c0_1 := cell_of_row _ _ 1 _ _ _ hr0_0
  have c0_2 := cell_of_row _ _ 2 _ _ _ hr0_0
  have c0_3 := cell_of_row _ _ 3 _ _ _ hr0_0
  have c0_4 := cell_of_row _ _ 4 _ _ _ hr0_0
  have c0_5 := cell_of_row _ _ 5 _ _ _ hr0_0
  have c0_6 := cell_of_row _ _ 6 _ _ _ hr0_0
  have c0_7 := cell_of_row _ _ 7 _ _ _ hr0_0
  simp at c0_0 c0_1 c0_2 c0_3 c0_4 c0_5 c0_6 c0_7
  go_wp2_with fail
  refine (fright_any (⟨W, H, nl, nd, nn, nb, ns, nf, L, D, N, B, S, F⟩ : Flm) (⟨al, cl, ad, cd, an, cn, ab, cb, ax, cx, af, cf⟩ : Pl) _ (HF.out.on HU0.out)).mono ?_
  rintro e y1 ⟨rfl, hb1⟩
  clear c0_0 c0_1 c0_2 c0_3 c0_4 c0_5 c0_6 c0_7
  have hr1_0 := (hb1.block _ (lt_heap hr0_0)).trans hr0_0
  have hr1_1 := (hb1.block _ (lt_heap hr0_1)).trans hr0_1
  have hr1_2 := (hb1.block _ (lt_heap hr0_2)).trans hr0_2
  have hr1_3 := (hb1.block _ (lt_heap hr0_3)).trans hr0_3
  have HU1 := Lib.hid (HU0.out.trans (hb1.mono HU0.out.size))
  clear hr0_0 hr0_1 hr0_2 hr0_3 HU0
  rw [decide_eq_true HO.out]
  have c1_0 := cell_of_row _ _ 0 _ _ _ hr1_1
  have c1_1 := cell_of_row _ _ 1 _ _ _ hr1_1
  have c1_2 := cell_of_row _ _ 2 _ _ _ hr1_1
  have c1_3 := cell_of_row _ _ 3 _ _ _ hr1_1
  have c1_4 := cell_of_row _ _ 4 _ _ _ hr1_1
  have c1_5 := cell_of_row _ _ 5 _ _ _ hr1_1
  have c1_6 := cell_of_row _ _ 6 _ _ _ hr1_1
  have c1_7 := cell_of_row _ _ 7 _ _ _ hr1_1
  simp at c1_0 c1_1 c1_2 c1_3 c1_4 c1_5 c1_6 c1_7
  go_wp2_with fail
  refine (fright_any (⟨W2, H2, nl2, nd2, nn2, nb2, ns2, nf2, L2, D2, N2, B2, S2, F2⟩ : Flm) (⟨al2, cl2, ad2, cd2, an2, cn2, ab2, cb2, ax2, cx2, af2, cf2⟩ : Pl) _ (HG.out.on HU1.out)).mono ?_
  rintro e y2 ⟨rfl, hb2⟩
  clear c1_0 c1_1 c1_2 c1_3 c1_4 c1_5 c1_6 c1_7
  have hr2_0 := (hb2.block _ (lt_heap hr1_0)).trans hr1_0
  have hr2_1 := (hb2.block _ (lt_heap hr1_1)).trans hr1_1
  have hr2_2 := (hb2.block _ (lt_heap hr1_2)).trans hr1_2
  have hr2_3 := (hb2.block _ (lt_heap hr1_3)).trans hr1_3
  have HU2 := Lib.hid (HU1.out.trans (hb2.mono HU1.out.size))
  clear hr1_0 hr1_1 hr1_2 hr1_3 HU1
  rw [decide_eq_true HO2.out]
  have c2_0 := cell_of_row _ _ 0 _ _ _ hr2_2
  have c2_1 := cell_of_row _ _ 1 _ _ _ hr2_2
  have c2_2 := cell_of_row _ _ 2 _ _ _ hr2_2
  simp at c2_0 c2_1 c2_2
  go_wp2_with fail
  refine (shright_any W3 H3 am nm cm _).mono ?_
  rintro e y3 ⟨rfl, hb3⟩
  clear c2_0 c2_1 c2_2
  have hr3_0 := (hb3.block _ (lt_heap hr2_0)).trans hr2_0
  have hr3_1 := (hb3.block _ (lt_heap hr2_1)).trans hr2_1
  have hr3_2 := (hb3.block _ (lt_heap hr2_2)).trans hr2_2
  have hr3_3 := (hb3.block _ (lt_heap hr2_3)).trans hr2_3
  have HU3 := Lib.hid (HU2.out.trans (hb3.mono HU2.out.size))
  clear hr2_0 hr2_1 hr2_2 hr2_3 HU2
  rw [decide_eq_true HO3.out]
  have c1_0 := cell_of_row _ _ 0 _ _ _ hr3_1
  have c1_1 := cell_of_row _ _ 1 _ _ _ hr3_1
  have c1_2 := cell_of_row _ _ 2 _ _ _ hr3_1
  have c1_3 := cell_of_row _ _ 3 _ _ _ hr3_1
  have c1_4 := cell_of_row _ _ 4 _ _ _ hr3_1
  have c1_5 := cell_of_row _ _ 5 _ _ _ hr3_1
  have c1_6 := cell_of_row _ _ 6 _ _ _ hr3_1
  have c1_7 := cell_of_row _ _ 7 _ _ _ hr3_1
  have c2_0 := cell_of_row _ _ 0 _ _ _ hr3_2
  have c2_1 := cell_of_row _ _ 1 _ _ _ hr3_2
  have c2_2 := cell_of_row _ _ 2 _ _ _ hr3_2
  simp at c1_0 c1_1 c1_2 c1_3 c1_4 c1_5 c1_6 c1_7 c2_0 c2_1 c2_2
  go_upto_region 2 with fail
  have hHr := Lib.hid hr3_3
  have hHi := Lib.hid (show (Try.prog.info? 36).map (·.size) = some (#[.int .i64 0, .int .i64 0, .slice none 0 0] : Array Value).size by kernel_rfl)
  have hHz := Lib.hid (show (#[.int .i64 0, .int .i64 0, .slice none 0 0] : Array Value).size = (#[.int .i64 0, .int .i64 0, .slice none 0 0] : Array Value).size from rfl)
  have hHo := Lib.hid (show (#[.int .i64 0, .int .i64 0, .slice none 0 0] : Array Value).all (·.oneCell') = true by simp [Value.oneCell'])
  go_wp2_with (first | (refine Au.wpList_store_row rfl 36 (.tmp 6) (.tmp 33) rfl y3 #[.int .i64 0, .int .i64 0, .slice none 0 0] #[.int .i64 0, .int .i64 0, .slice none 0 0] (w.heap.size + 1 + 1 + 1) 36 hHr.out rfl rfl hHi.out hHz.out hHo.out ?_))
  clear c1_0 c1_1 c1_2 c1_3 c1_4 c1_5 c1_6 c1_7 c2_0 c2_1 c2_2
  clear hHr hHi hHz hHo
  have hN := setRow_heap _ (w.heap.size + 1 + 1 + 1) _ #[.int .i64 0, .int .i64 0, .slice none 0 0] _ _ hr3_3
  have hsz := HU3.out.size
  have HUx := below_setRow (g := w.heap.size + 1 + 1 + 1) HU3.out (by first | omega | (simp at *; omega)) #[.int .i64 0, .int .i64 0, .slice none 0 0]
  have hO : ∀ kk, kk ≠ w.heap.size + 1 + 1 + 1 → (y3.setRow (w.heap.size + 1 + 1 + 1) #[.int .i64 0, .int .i64 0, .slice none 0 0]).heap[kk]? = y3.heap[kk]? := fun kk hk => setRow_other _ _ _ _ hk
  obtain ⟨y4, hy4⟩ : ∃ y, y3.setRow (w.heap.size + 1 + 1 + 1) #[.int .i64 0, .int .i64 0, .slice none 0 0] = y := ⟨_, rfl⟩
  rw [hy4] at hN HUx hO ⊢
  clear hy4 hsz
  have HU4 := Lib.hid HUx
  clear HUx
  have hr4_0 := (hO _ (by omega)).trans hr3_0
  have hr4_1 := (hO _ (by omega)).trans hr3_1
  have hr4_2 := (hO _ (by omega)).trans hr3_2
  have hr4_3 := hN
  clear hN hO
  clear hr3_0 hr3_1 hr3_2 hr3_3 HU3
  have c3_0 := cell_of_row _ _ 0 _ _ _ hr4_3
  have c3_1 := cell_of_row _ _ 1 _ _ _ hr4_3
  have c3_2 := cell_of_row _ _ 2 _ _ _ hr4_3
  simp at c3_0 c3_1 c3_2
  go_wp2
  exact bodyPost_ret (v := .tuple #[.agg #[.int .i64 0, .int .i64 0, .slice none 0 0], .int .i64 1]) (by simp [results, Try.results8, go_sem, c3_0, c3_1, c3_2]) rfl ⟨rfl, HU4.out⟩

set_option maxHeartbeats 8000000 in
set_option maxRecDepth 100000 in
theorem blend_yes (W H : Int) (al ad an ab ax af : Option Addr) (cl cd cn cb cx cf nl nd nn nb ns nf : Nat) (L D N B S F : Nat → Int) (W2 H2 : Int) (al2 ad2 an2 ab2 ax2 af2 : Option Addr) (cl2 cd2 cn2 cb2 cx2 cf2 nl2 nd2 nn2 nb2 ns2 nf2 : Nat) (L2 D2 N2 B2 S2 F2 : Nat → Int) (W3 H3 : Int) (am : Option Addr) (nm cm : Nat) (M : Nat → Int) (w : World) (hf : FAt w (⟨W, H, nl, nd, nn, nb, ns, nf, L, D, N, B, S, F⟩ : Flm) (⟨al, cl, ad, cd, an, cn, ab, cb, ax, cx, af, cf⟩ : Pl)) (hg : FAt w (⟨W2, H2, nl2, nd2, nn2, nb2, ns2, nf2, L2, D2, N2, B2, S2, F2⟩ : Flm) (⟨al2, cl2, ad2, cd2, an2, cn2, ab2, cb2, ax2, cx2, af2, cf2⟩ : Pl)) (hm : Rw 3 w am nm M) (ho : okF (⟨W, H, nl, nd, nn, nb, ns, nf, L, D, N, B, S, F⟩ : Flm)) (ho2 : okF (⟨W2, H2, nl2, nd2, nn2, nb2, ns2, nf2, L2, D2, N2, B2, S2, F2⟩ : Flm)) (ho3 : okSh W3 H3 nm) (hs : (W3 = W2 ∧ H3 = H2)) : Calls Try.prog 8 #[.agg #[.int .i64 W, .int .i64 H, .slice al nl cl, .slice ad nd cd, .slice an nn cn, .slice ab nb cb, .slice ax ns cx, .slice af nf cf], .agg #[.int .i64 W2, .int .i64 H2, .slice al2 nl2 cl2, .slice ad2 nd2 cd2, .slice an2 nn2 cn2, .slice ab2 nb2 cb2, .slice ax2 ns2 cx2, .slice af2 nf2 cf2], .agg #[.int .i64 W3, .int .i64 H3, .slice am nm cm]] w fun e' w' => (∃ g cap, e' = .returned (.tuple #[.agg #[.int .i64 W, .int .i64 H, .slice (some ⟨g, 0, none⟩) nl cap], .int .i64 0]) ∧ w'.ownsRow w.heap.size 62 3 (.slice (some ⟨g, 0, none⟩) nl cap) nl (flatc 3 (blend (⟨W, H, nl, nd, nn, nb, ns, nf, L, D, N, B, S, F⟩ : Flm) (⟨W2, H2, nl2, nd2, nn2, nb2, ns2, nf2, L2, D2, N2, B2, S2, F2⟩ : Flm) M) nl)) ∧ Below w.heap.size w w' := by
  have HF := Lib.hid hf
  have HG := Lib.hid hg
  have HM := Lib.hid hm
  clear hf hg hm
  have HO := Lib.hid ho
  clear ho
  have HO2 := Lib.hid ho2
  clear ho2
  have HO3 := Lib.hid ho3
  clear ho3
  have heq := fun W => eq_size W3 H3 W2 H2 true (decide_eq_true hs).symm W
  have HS := Lib.hid hs
  clear hs
  have HN := Lib.hid (show 0 < nl ∧ nl * 24 ≤ 140737488351232 ∧ nl ≤ 5000 ∧ nf = nl by have h1 := okSz_mul HO.out.1.1; have h2 := HO.out.1.2; have h3 := HO.out.2.2.2.2.2.1; simp only [] at h1 h2 h3; omega)
  have HNM := Lib.hid (show (nm : Int) = ns2 by have h1 := HO3.out.2; have h2 := HO2.out.2.2.2.2.1.1; have h3 := HS.out; simp only [] at h1 h2; rw [h1, h2, h3.1, h3.2])
  go_enter Try.func8, Try.ntmps8
  go_upto_region 1 with fail
  have hR := Au.rows4 w (.cells #[.int .i64 W, .int .i64 H, .slice al nl cl, .slice ad nd cd, .slice an nn cn, .slice ab nb cb, .slice ax ns cx, .slice af nf cf] 40) (.cells #[.int .i64 W2, .int .i64 H2, .slice al2 nl2 cl2, .slice ad2 nd2 cd2, .slice an2 nn2 cn2, .slice ab2 nb2 cb2, .slice ax2 ns2 cx2, .slice af2 nf2 cf2] 40) (.cells #[.int .i64 W3, .int .i64 H3, .slice am nm cm] 36) (.cells #[.int .i64 0, .int .i64 0, .slice none 0 0] 36)
  have HUx := Ve.below_n4 w (.cells #[.int .i64 W, .int .i64 H, .slice al nl cl, .slice ad nd cd, .slice an nn cn, .slice ab nb cb, .slice ax ns cx, .slice af nf cf] 40) (.cells #[.int .i64 W2, .int .i64 H2, .slice al2 nl2 cl2, .slice ad2 nd2 cd2, .slice an2 nn2 cn2, .slice ab2 nb2 cb2, .slice ax2 ns2 cx2, .slice af2 nf2 cf2] 40) (.cells #[.int .i64 W3, .int .i64 H3, .slice am nm cm] 36) (.cells #[.int .i64 0, .int .i64 0, .slice none 0 0] 36)
  obtain ⟨y0, hy0⟩ : ∃ y0, (((w.alloc (.cells #[.int .i64 W, .int .i64 H, .slice al nl cl, .slice ad nd cd, .slice an nn cn, .slice ab nb cb, .slice ax ns cx, .slice af nf cf] 40)).alloc (.cells #[.int .i64 W2, .int .i64 H2, .slice al2 nl2 cl2, .slice ad2 nd2 cd2, .slice an2 nn2 cn2, .slice ab2 nb2 cb2, .slice ax2 ns2 cx2, .slice af2 nf2 cf2] 40)).alloc (.cells #[.int .i64 W3, .int .i64 H3, .slice am nm cm] 36)).alloc (.cells #[.int .i64 0, .int .i64 0, .slice none 0 0] 36) = y0 := ⟨_, rfl⟩
  rw [hy0] at hR HUx ⊢
  clear hy0
  have HU0 := Lib.hid HUx
  clear HUx
  obtain ⟨hr0_0, hr0_1, hr0_2, hr0_3⟩ := hR
  have c0_0 := cell_of_row _ _ 0 _ _ _ hr0_0
  have c0_1 := cell_of_row _ _ 1 _ _ _ hr0_0
  have c0_2 := cell_of_row _ _ 2 _ _ _ hr0_0
  have c0_3 := cell_of_row _ _ 3 _ _ _ hr0_0
  have c0_4 := cell_of_row _ _ 4 _ _ _ hr0_0
  have c0_5 := cell_of_row _ _ 5 _ _ _ hr0_0
  have c0_6 := cell_of_row _ _ 6 _ _ _ hr0_0
  have c0_7 := cell_of_row _ _ 7 _ _ _ hr0_0
  simp at c0_0 c0_1 c0_2 c0_3 c0_4 c0_5 c0_6 c0_7
  go_wp2_with fail
  refine (fright_any (⟨W, H, nl, nd, nn, nb, ns, nf, L, D, N, B, S, F⟩ : Flm) (⟨al, cl, ad, cd, an, cn, ab, cb, ax, cx, af, cf⟩ : Pl) _ (HF.out.on HU0.out)).mono ?_
  rintro e y1 ⟨rfl, hb1⟩
  clear c0_0 c0_1 c0_2 c0_3 c0_4 c0_5 c0_6 c0_7
  have hr1_0 := (hb1.block _ (lt_heap hr0_0)).trans hr0_0
  have hr1_1 := (hb1.block _ (lt_heap hr0_1)).trans hr0_1
  have hr1_2 := (hb1.block _ (lt_heap hr0_2)).trans hr0_2
  have hr1_3 := (hb1.block _ (lt_heap hr0_3)).trans hr0_3
  have HU1 := Lib.hid (HU0.out.trans (hb1.mono HU0.out.size))
  clear hr0_0 hr0_1 hr0_2 hr0_3 HU0
  rw [decide_eq_true HO.out]
  have c1_0 := cell_of_row _ _ 0 _ _ _ hr1_1
  have c1_1 := cell_of_row _ _ 1 _ _ _ hr1_1
  have c1_2 := cell_of_row _ _ 2 _ _ _ hr1_1
  have c1_3 := cell_of_row _ _ 3 _ _ _ hr1_1
  have c1_4 := cell_of_row _ _ 4 _ _ _ hr1_1
  have c1_5 := cell_of_row _ _ 5 _ _ _ hr1_1
  have c1_6 := cell_of_row _ _ 6 _ _ _ hr1_1
  have c1_7 := cell_of_row _ _ 7 _ _ _ hr1_1
  simp at c1_0 c1_1 c1_2 c1_3 c1_4 c1_5 c1_6 c1_7
  go_wp2_with fail
  refine (fright_any (⟨W2, H2, nl2, nd2, nn2, nb2, ns2, nf2, L2, D2, N2, B2, S2, F2⟩ : Flm) (⟨al2, cl2, ad2, cd2, an2, cn2, ab2, cb2, ax2, cx2, af2, cf2⟩ : Pl) _ (HG.out.on HU1.out)).mono ?_
  rintro e y2 ⟨rfl, hb2⟩
  clear c1_0 c1_1 c1_2 c1_3 c1_4 c1_5 c1_6 c1_7
  have hr2_0 := (hb2.block _ (lt_heap hr1_0)).trans hr1_0
  have hr2_1 := (hb2.block _ (lt_heap hr1_1)).trans hr1_1
  have hr2_2 := (hb2.block _ (lt_heap hr1_2)).trans hr1_2
  have hr2_3 := (hb2.block _ (lt_heap hr1_3)).trans hr1_3
  have HU2 := Lib.hid (HU1.out.trans (hb2.mono HU1.out.size))
  clear hr1_0 hr1_1 hr1_2 hr1_3 HU1
  rw [decide_eq_true HO2.out]
  have c2_0 := cell_of_row _ _ 0 _ _ _ hr2_2
  have c2_1 := cell_of_row _ _ 1 _ _ _ hr2_2
  have c2_2 := cell_of_row _ _ 2 _ _ _ hr2_2
  simp at c2_0 c2_1 c2_2
  go_wp2_with fail
  refine (shright_any W3 H3 am nm cm _).mono ?_
  rintro e y3 ⟨rfl, hb3⟩
  clear c2_0 c2_1 c2_2
  have hr3_0 := (hb3.block _ (lt_heap hr2_0)).trans hr2_0
  have hr3_1 := (hb3.block _ (lt_heap hr2_1)).trans hr2_1
  have hr3_2 := (hb3.block _ (lt_heap hr2_2)).trans hr2_2
  have hr3_3 := (hb3.block _ (lt_heap hr2_3)).trans hr2_3
  have HU3 := Lib.hid (HU2.out.trans (hb3.mono HU2.out.size))
  clear hr2_0 hr2_1 hr2_2 hr2_3 HU2
  rw [decide_eq_true HO3.out]
  have c0_0 := cell_of_row _ _ 0 _ _ _ hr3_0
  have c0_1 := cell_of_row _ _ 1 _ _ _ hr3_0
  have c0_2 := cell_of_row _ _ 2 _ _ _ hr3_0
  have c0_3 := cell_of_row _ _ 3 _ _ _ hr3_0
  have c0_4 := cell_of_row _ _ 4 _ _ _ hr3_0
  have c0_5 := cell_of_row _ _ 5 _ _ _ hr3_0
  have c0_6 := cell_of_row _ _ 6 _ _ _ hr3_0
  have c0_7 := cell_of_row _ _ 7 _ _ _ hr3_0
  have c1_0 := cell_of_row _ _ 0 _ _ _ hr3_1
  have c1_1 := cell_of_row _ _ 1 _ _ _ hr3_1
  have c1_2 := cell_of_row _ _ 2 _ _ _ hr3_1
  have c1_3 := cell_of_row _ _ 3 _ _ _ hr3_1
  have c1_4 := cell_of_row _ _ 4 _ _ _ hr3_1
  have c1_5 := cell_of_row _ _ 5 _ _ _ hr3_1
  have c1_6 := cell_of_row _ _ 6 _ _ _ hr3_1
  have c1_7 := cell_of_row _ _ 7 _ _ _ hr3_1
  have c2_0 := cell_of_row _ _ 0 _ _ _ hr3_2
  have c2_1 := cell_of_row _ _ 1 _ _ _ hr3_2
  have c2_2 := cell_of_row _ _ 2 _ _ _ hr3_2
  simp at c0_0 c0_1 c0_2 c0_3 c0_4 c0_5 c0_6 c0_7 c1_0 c1_1 c1_2 c1_3 c1_4 c1_5 c1_6 c1_7 c2_0 c2_1 c2_2
  go_wp2_with fail
  have hOld := lt_heap hr3_3
  have hOl2 := HU3.out.size
  refine (copied_any W H al nl cl L _ (HF.out.l.on HU3.out) HN.out.1 HN.out.2.1).mono ?_
  rintro e y4 ⟨⟨g2, cap2, rfl, how⟩, hb4⟩
  clear c0_0 c0_1 c0_2 c0_3 c0_4 c0_5 c0_6 c0_7 c1_0 c1_1 c1_2 c1_3 c1_4 c1_5 c1_6 c1_7 c2_0 c2_1 c2_2
  have hr4_0 := (hb4.block _ (lt_heap hr3_0)).trans hr3_0
  have hr4_1 := (hb4.block _ (lt_heap hr3_1)).trans hr3_1
  have hr4_2 := (hb4.block _ (lt_heap hr3_2)).trans hr3_2
  have hr4_3 := (hb4.block _ (lt_heap hr3_3)).trans hr3_3
  have HU4 := Lib.hid (HU3.out.trans (hb4.mono HU3.out.size))
  clear hr3_0 hr3_1 hr3_2 hr3_3 HU3
  have hg2l := (how.lt g2 rfl).1
  have hg2u := (how.lt g2 rfl).2
  have HOW := Lib.hid (own_lower (b2 := w.heap.size) how (by omega))
  clear how
  have HA := Lib.hid (heap_alloc_last y4 (.cells #[.int .i64 0, .int .i64 0, .slice none 0 0] 36))
  have hHi := Lib.hid (show (Try.prog.info? 36).map (·.size) = some (#[.int .i64 W, .int .i64 H, .slice (some ⟨g2, 0, none⟩) nl cap2] : Array Value).size by kernel_rfl)
  have hHz := Lib.hid (show (#[.int .i64 0, .int .i64 0, .slice none 0 0] : Array Value).size = (#[.int .i64 W, .int .i64 H, .slice (some ⟨g2, 0, none⟩) nl cap2] : Array Value).size from rfl)
  have hHo := Lib.hid (show (#[.int .i64 W, .int .i64 H, .slice (some ⟨g2, 0, none⟩) nl cap2] : Array Value).all (·.oneCell') = true by simp [Value.oneCell'])
  go_upto_region 4 with (refine Au.wpList_store_row rfl 36 (.tmp 8) (.tmp 36) rfl (y4.alloc (.cells #[.int .i64 0, .int .i64 0, .slice none 0 0] 36)) #[.int .i64 0, .int .i64 0, .slice none 0 0] #[.int .i64 W, .int .i64 H, .slice (some ⟨g2, 0, none⟩) nl cap2] (y4.heap.size) 36 HA.out rfl rfl hHi.out hHz.out hHo.out ?_)
  clear hHi hHz hHo
  have hN := setRow_heap _ (y4.heap.size) _ #[.int .i64 W, .int .i64 H, .slice (some ⟨g2, 0, none⟩) nl cap2] _ _ HA.out
  clear HA
  have hsz := HU4.out.size
  have hb := Ve.below_n1 y4 (.cells #[.int .i64 0, .int .i64 0, .slice none 0 0] 36)
  have HUx := below_setRow (g := y4.heap.size) (HU4.out.trans (hb.mono HU4.out.size)) (by omega) #[.int .i64 W, .int .i64 H, .slice (some ⟨g2, 0, none⟩) nl cap2]
  have hO : ∀ kk, kk < y4.heap.size → ((y4.alloc (.cells #[.int .i64 0, .int .i64 0, .slice none 0 0] 36)).setRow (y4.heap.size) #[.int .i64 W, .int .i64 H, .slice (some ⟨g2, 0, none⟩) nl cap2]).heap[kk]? = y4.heap[kk]? := fun kk hk => (setRow_other _ _ _ _ (by omega)).trans (hb.block _ hk)
  obtain ⟨y5, hy5⟩ : ∃ y, (y4.alloc (.cells #[.int .i64 0, .int .i64 0, .slice none 0 0] 36)).setRow (y4.heap.size) #[.int .i64 W, .int .i64 H, .slice (some ⟨g2, 0, none⟩) nl cap2] = y := ⟨_, rfl⟩
  have hs5 : y5.heap.size = y4.heap.size + 1 := by rw [← hy5]; simp [World.setRow]
  rw [hy5] at hN HUx hO ⊢
  clear hy5 hsz hb
  have HU5 := Lib.hid HUx
  clear HUx
  have hl5_0 := lt_heap hr4_0
  have hr5_0 := (hO _ hl5_0).trans hr4_0
  have hl5_1 := lt_heap hr4_1
  have hr5_1 := (hO _ hl5_1).trans hr4_1
  have hl5_2 := lt_heap hr4_2
  have hr5_2 := (hO _ hl5_2).trans hr4_2
  have hl5_3 := lt_heap hr4_3
  have hr5_3 := (hO _ hl5_3).trans hr4_3
  have hr5_4 := hN
  have HOX := Lib.hid (own_via HOW.out (fun q hq => hO q (HOW.out.lt q hq).2))
  clear HOW hN hO
  clear hr4_0 hr4_1 hr4_2 hr4_3 HU4
  obtain ⟨q, hq⟩ : ∃ q, q = y4.heap.size := ⟨_, rfl⟩
  rw [← hq] at hr5_4 ⊢
  have hqg : g2 < q := by omega
  have hql := lt_heap hr5_4
  clear hq
  have hs_ : w.heap.size + 3 < g2 := by omega
  clear hs5 hg2l hg2u hOld hOl2
  have c4_0 := cell_of_row _ _ 0 _ _ _ hr5_4
  have c4_1 := cell_of_row _ _ 1 _ _ _ hr5_4
  have c4_2 := cell_of_row _ _ 2 _ _ _ hr5_4
  simp at c4_0 c4_1 c4_2
  go_upto_region 5 with fail
  clear c4_0 c4_1 c4_2
  obtain ⟨bl, hbl⟩ : ∃ b, b = y5.heap.size := ⟨_, rfl⟩
  have hblq : q < bl := by omega
  have hble : bl ≤ y5.heap.size := by omega
  clear hbl
  go_loopw [40] (fun ix wr => ∃ k : Nat, k ≤ nl ∧ ix = .int .i64 k ∧ Hid (wr.ownsRow w.heap.size 62 3 (.slice (some ⟨g2, 0, none⟩) nl cap2) nl (flatc 3 (blendTo (⟨W, H, nl, nd, nn, nb, ns, nf, L, D, N, B, S, F⟩ : Flm) (⟨W2, H2, nl2, nd2, nn2, nb2, ns2, nf2, L2, D2, N2, B2, S2, F2⟩ : Flm) M k) nl)) ∧ Hid (Aw (fun z => z < bl ∧ z ≠ g2) y5 wr)) (fun ix _ => nl - (intOf ix).toNat)
  case atStart => exact ⟨0, Nat.zero_le _, rfl, Lib.hid (by rw [blendTo_zero]; exact HOX.out), Lib.hid (Aw.refl _ _)⟩
  case round =>
    clear HOX
    obtain ⟨k, hk, rfl, HX, HA⟩ := hrel
    have hr6_0 := (HA.out.block _ ⟨by omega, by omega⟩ (lt_heap hr5_0)).trans hr5_0
    have hr6_1 := (HA.out.block _ ⟨by omega, by omega⟩ (lt_heap hr5_1)).trans hr5_1
    have hr6_2 := (HA.out.block _ ⟨by omega, by omega⟩ (lt_heap hr5_2)).trans hr5_2
    have hr6_3 := (HA.out.block _ ⟨by omega, by omega⟩ (lt_heap hr5_3)).trans hr5_3
    have hr6_4 := (HA.out.block _ ⟨by omega, by omega⟩ (lt_heap hr5_4)).trans hr5_4
    have HU6 := Lib.hid (HU5.out.trans (aw_low HA.out (b := w.heap.size) (by omega) (by omega) (HU5.out.size)))
    obtain ⟨y6, hy_⟩ : ∃ y, y = wr := ⟨_, rfl⟩
    rw [← hy_] at HX HA HU6 hr6_0 hr6_1 hr6_2 hr6_3 hr6_4 ⊢
    clear hy_
    clear hr5_0 hr5_1 hr5_2 hr5_3 hr5_4 HU5
    by_cases hlt : k < nl
    · have hlt' : (k : Int) < nl := by omega
      have hkf : k < nf := by have := HN.out; omega
      have hn5 := HN.out.2.2.1
      go_wp2_with fail
      by_cases hp : hasPast (⟨W, H, nl, nd, nn, nb, ns, nf, L, D, N, B, S, F⟩ : Flm) (⟨W2, H2, nl2, nd2, nn2, nb2, ns2, nf2, L2, D2, N2, B2, S2, F2⟩ : Flm) k
      case neg =>
        refine (past_n (⟨W, H, nl, nd, nn, nb, ns, nf, L, D, N, B, S, F⟩ : Flm) (⟨W2, H2, nl2, nd2, nn2, nb2, ns2, nf2, L2, D2, N2, B2, S2, F2⟩ : Flm) (⟨al, cl, ad, cd, an, cn, ab, cb, ax, cx, af, cf⟩ : Pl) (⟨al2, cl2, ad2, cd2, an2, cn2, ab2, cb2, ax2, cx2, af2, cf2⟩ : Pl) _ w.heap.size (w.heap.size + 1) k hr6_0 hr6_1 (HF.out.on HU6.out) (HG.out.on HU6.out) HO.out HO2.out hkf hp).mono ?_
        rintro e z1 ⟨rfl, hb1⟩
        have HX2 := Lib.hid (show z1.ownsRow w.heap.size 62 3 (.slice (some ⟨g2, 0, none⟩) nl cap2) nl (flatc 3 (blendTo (⟨W, H, nl, nd, nn, nb, ns, nf, L, D, N, B, S, F⟩ : Flm) (⟨W2, H2, nl2, nd2, nn2, nb2, ns2, nf2, L2, D2, N2, B2, S2, F2⟩ : Flm) M (k + 1)) nl) by rw [blendTo_no _ _ _ _ hp]; exact Ls.own_below HX.out hb1)
        have HA2 := Lib.hid (HA.out.trans (Aw.of hb1))
        clear hp HX HA
        go_wp2_with fail
        go_roundw
        case rel => exact ⟨k + 1, by omega, by go_num, HX2, HA2⟩
        case measure => simp [intOf]; omega
      obtain ⟨p, hpk⟩ : ∃ p : Nat, F k = p := ⟨(F k).toNat, by have := hp.1; simp only [] at this; omega⟩
      have hpn : p < nm := by have h1 := hp.2.1; have h2 := HNM.out; simp only [] at h1; omega
      have hpn' : (p : Int) < nm := by omega
      refine (past_y (⟨W, H, nl, nd, nn, nb, ns, nf, L, D, N, B, S, F⟩ : Flm) (⟨W2, H2, nl2, nd2, nn2, nb2, ns2, nf2, L2, D2, N2, B2, S2, F2⟩ : Flm) (⟨al, cl, ad, cd, an, cn, ab, cb, ax, cx, af, cf⟩ : Pl) (⟨al2, cl2, ad2, cd2, an2, cn2, ab2, cb2, ax2, cx2, af2, cf2⟩ : Pl) _ w.heap.size (w.heap.size + 1) k p hr6_0 hr6_1 (HF.out.on HU6.out) (HG.out.on HU6.out) HO.out HO2.out hkf hp hpk).mono ?_
      rintro e y7 ⟨rfl, hb7⟩
      have hr7_0 := (hb7.block _ (lt_heap hr6_0)).trans hr6_0
      have hr7_1 := (hb7.block _ (lt_heap hr6_1)).trans hr6_1
      have hr7_2 := (hb7.block _ (lt_heap hr6_2)).trans hr6_2
      have hr7_3 := (hb7.block _ (lt_heap hr6_3)).trans hr6_3
      have hr7_4 := (hb7.block _ (lt_heap hr6_4)).trans hr6_4
      have HU7 := Lib.hid (HU6.out.trans (hb7.mono HU6.out.size))
      clear hr6_0 hr6_1 hr6_2 hr6_3 hr6_4 HU6
      have HX7 := Lib.hid (Ls.own_below HX.out hb7)
      have HA7 := Lib.hid (HA.out.trans (Aw.of hb7))
      clear HX HA
      have el0 : y7.cell? ⟨g2, k * 3, none⟩ = some (.int .i64 (L (k * 3))) := by rw [HX7.out.cellAt _ (by omega), flatc_at _ _ _ _ (by omega)]; exact congrArg (fun x => some (Value.int .i64 x)) (blendTo_past _ _ _ k 0)
      have el1 : y7.cell? ⟨g2, k * 3 + 1, none⟩ = some (.int .i64 (L (k * 3 + 1))) := by rw [HX7.out.cellAt _ (by omega), flatc_at _ _ _ _ (by omega)]; exact congrArg (fun x => some (Value.int .i64 x)) (blendTo_past _ _ _ k 1)
      have el2 : y7.cell? ⟨g2, k * 3 + 2, none⟩ = some (.int .i64 (L (k * 3 + 2))) := by rw [HX7.out.cellAt _ (by omega), flatc_at _ _ _ _ (by omega)]; exact congrArg (fun x => some (Value.int .i64 x)) (blendTo_past _ _ _ k 2)
      obtain ⟨mb, mo, hma, em0, em1, em2⟩ := (HM.out.on HU7.out).at3 hpn
      subst hma
      have HFB := Lib.hid (fun r0 r1 r2 h0 h1 h2 => flat_blend (⟨W, H, nl, nd, nn, nb, ns, nf, L, D, N, B, S, F⟩ : Flm) (⟨W2, H2, nl2, nd2, nn2, nb2, ns2, nf2, L2, D2, N2, B2, S2, F2⟩ : Flm) M nl k p hp hpk r0 r1 r2 h0 h1 h2)
      obtain ⟨x0, hx0⟩ : ∃ x, x = L (k * 3) := ⟨_, rfl⟩
      obtain ⟨m0, hm0⟩ : ∃ x, x = M (p * 3) := ⟨_, rfl⟩
      rw [← hx0] at el0
      rw [← hm0] at em0
      obtain ⟨r0, hr0⟩ : ∃ x, x = Pl.lerp x0 m0 32768 := ⟨_, rfl⟩
      obtain ⟨x1, hx1⟩ : ∃ x, x = L (k * 3 + 1) := ⟨_, rfl⟩
      obtain ⟨m1, hm1⟩ : ∃ x, x = M (p * 3 + 1) := ⟨_, rfl⟩
      rw [← hx1] at el1
      rw [← hm1] at em1
      obtain ⟨r1, hr1⟩ : ∃ x, x = Pl.lerp x1 m1 32768 := ⟨_, rfl⟩
      obtain ⟨x2, hx2⟩ : ∃ x, x = L (k * 3 + 2) := ⟨_, rfl⟩
      obtain ⟨m2, hm2⟩ : ∃ x, x = M (p * 3 + 2) := ⟨_, rfl⟩
      rw [← hx2] at el2
      rw [← hm2] at em2
      obtain ⟨r2, hr2⟩ : ∃ x, x = Pl.lerp x2 m2 32768 := ⟨_, rfl⟩
      have HFC := Lib.hid (HFB.out r0 r1 r2 (by simp only []; rw [hr0, hx0, hm0]) (by simp only []; rw [hr1, hx1, hm1]) (by simp only []; rw [hr2, hx2, hm2]))
      have HMX := Lib.hid (show ∀ W : World, Calls Try.prog 26 #[.agg #[.int .i64 x0, .int .i64 x1, .int .i64 x2], .agg #[.int .i64 m0, .int .i64 m1, .int .i64 m2], .int .i64 32768] W fun e w' => e = .returned (.agg #[.int .i64 r0, .int .i64 r1, .int .i64 r2]) ∧ Below W.heap.size W w' from fun W => by rw [hr0, hr1, hr2]; exact He.hmix_any x0 x1 x2 m0 m1 m2 32768 W)
      clear HFB hx0 hx1 hx2 hm0 hm1 hm2 hr0 hr1 hr2 hp hpk
      go_upto_region 9 with fail
      refine Ol.way_drew (S := fun y => y.heap[q]? = some (.cells #[.int .i64 W, .int .i64 H, .slice (some ⟨g2, 0, none⟩) nl cap2] 36 (0, 0)) ∧ y.heap[w.heap.size + 1 + 1]? = some (.cells #[.int .i64 W3, .int .i64 H3, .slice (some ⟨mb, mo, none⟩) nm cm] 36 (0, 0)) ∧ y.cell? ⟨g2, k * 3, none⟩ = some (.int .i64 x0) ∧ y.cell? ⟨g2, k * 3 + 1, none⟩ = some (.int .i64 x1) ∧ y.cell? ⟨g2, k * 3 + 2, none⟩ = some (.int .i64 x2) ∧ y.cell? ⟨mb, mo + p * 3, none⟩ = some (.int .i64 m0) ∧ y.cell? ⟨mb, mo + p * 3 + 1, none⟩ = some (.int .i64 m1) ∧ y.cell? ⟨mb, mo + p * 3 + 2, none⟩ = some (.int .i64 m2)) (stop := 15) (by kernel_rfl) (⟨hr7_4, hr7_2, el0, el1, el2, em0, em1, em2⟩) (fun hS0 => ?_)
      obtain ⟨y8, hy8⟩ : ∃ y, y7.drew = y := ⟨_, rfl⟩
      have HU8 := Lib.hid (show Below w.heap.size w y8 by rw [← hy8]; exact HU7.out.drew)
      have hr8_0 : y8.heap[w.heap.size]? = some (.cells #[.int .i64 W, .int .i64 H, .slice al nl cl, .slice ad nd cd, .slice an nn cn, .slice ab nb cb, .slice ax ns cx, .slice af nf cf] 40 (0, 0)) := by rw [← hy8]; exact hr7_0
      have hr8_1 : y8.heap[w.heap.size + 1]? = some (.cells #[.int .i64 W2, .int .i64 H2, .slice al2 nl2 cl2, .slice ad2 nd2 cd2, .slice an2 nn2 cn2, .slice ab2 nb2 cb2, .slice ax2 ns2 cx2, .slice af2 nf2 cf2] 40 (0, 0)) := by rw [← hy8]; exact hr7_1
      have hr8_2 : y8.heap[w.heap.size + 1 + 1]? = some (.cells #[.int .i64 W3, .int .i64 H3, .slice (some ⟨mb, mo, none⟩) nm cm] 36 (0, 0)) := by rw [← hy8]; exact hr7_2
      have hr8_3 : y8.heap[w.heap.size + 1 + 1 + 1]? = some (.cells #[.int .i64 0, .int .i64 0, .slice none 0 0] 36 (0, 0)) := by rw [← hy8]; exact hr7_3
      have hr8_4 : y8.heap[q]? = some (.cells #[.int .i64 W, .int .i64 H, .slice (some ⟨g2, 0, none⟩) nl cap2] 36 (0, 0)) := by rw [← hy8]; exact hr7_4
      have HX8 := Lib.hid (show y8.ownsRow _ _ _ _ _ _ by rw [← hy8]; exact HX7.out)
      have HA8 := Lib.hid (show Aw _ _ y8 by rw [← hy8]; exact HA7.out.trans (Aw.of (Below.refl _ _).drew))
      rw [hy8] at hS0 ⊢
      clear hy8
      refine Ol.way_plain (i := 0) (v := ?_) rfl (by kernel_rfl) (by kernel_rfl) (by kernel_rfl) (fun _ _ _ h => h) (by decide) (Or.inl ⟨by kernel_rfl, by (intro wz _; go_simp; try with_reducible rfl)⟩) (Ol.on hS0) ?_
      go_simp
      refine Ol.way_take (i := 1) (v := ?_) rfl (by kernel_rfl) (by kernel_rfl) (by kernel_rfl) (fun _ _ _ h => h) (by decide) (by kernel_rfl) (by kernel_rfl) (Or.inl ⟨by kernel_rfl, by (intro wz hSz; have c4_0 := cell_of_row _ _ 0 _ _ _ hSz.1; have c4_1 := cell_of_row _ _ 1 _ _ _ hSz.1; have c4_2 := cell_of_row _ _ 2 _ _ _ hSz.1; have c2_0 := cell_of_row _ _ 0 _ _ _ hSz.2.1; have c2_1 := cell_of_row _ _ 1 _ _ _ hSz.2.1; have c2_2 := cell_of_row _ _ 2 _ _ _ hSz.2.1; simp at c4_0 c4_1 c4_2 c2_0 c2_1 c2_2; have el0z := hSz.2.2.1; have el1z := hSz.2.2.2.1; have el2z := hSz.2.2.2.2.1; have em0z := hSz.2.2.2.2.2.1; have em1z := hSz.2.2.2.2.2.2.1; have em2z := hSz.2.2.2.2.2.2.2; go_simp; try with_reducible rfl)⟩) hS0 ?_
      go_simp
      refine Ol.way_plain (i := 2) (v := ?_) rfl (by kernel_rfl) (by kernel_rfl) (by kernel_rfl) (fun _ _ _ h => h) (by decide) (Or.inl ⟨by kernel_rfl, by (intro wz _; go_simp; try with_reducible rfl)⟩) (Ol.on hS0) ?_
      go_simp
      refine Ol.way_plain (i := 3) (v := ?_) rfl (by kernel_rfl) (by kernel_rfl) (by kernel_rfl) (fun _ _ _ h => h) (by decide) (Or.inl ⟨by kernel_rfl, by (intro wz _; go_simp; try with_reducible rfl)⟩) (Ol.on hS0) ?_
      go_simp
      refine Ol.way_take (i := 4) (v := ?_) rfl (by kernel_rfl) (by kernel_rfl) (by kernel_rfl) (fun _ _ _ h => h) (by decide) (by kernel_rfl) (by kernel_rfl) (Or.inl ⟨by kernel_rfl, by (intro wz hSz; have c4_0 := cell_of_row _ _ 0 _ _ _ hSz.1; have c4_1 := cell_of_row _ _ 1 _ _ _ hSz.1; have c4_2 := cell_of_row _ _ 2 _ _ _ hSz.1; have c2_0 := cell_of_row _ _ 0 _ _ _ hSz.2.1; have c2_1 := cell_of_row _ _ 1 _ _ _ hSz.2.1; have c2_2 := cell_of_row _ _ 2 _ _ _ hSz.2.1; simp at c4_0 c4_1 c4_2 c2_0 c2_1 c2_2; have el0z := hSz.2.2.1; have el1z := hSz.2.2.2.1; have el2z := hSz.2.2.2.2.1; have em0z := hSz.2.2.2.2.2.1; have em1z := hSz.2.2.2.2.2.2.1; have em2z := hSz.2.2.2.2.2.2.2; go_simp; try with_reducible rfl)⟩) hS0 ?_
      go_simp
      refine Ol.way_plain (i := 5) (v := ?_) rfl (by kernel_rfl) (by kernel_rfl) (by kernel_rfl) (fun _ _ _ h => h) (by decide) (Or.inl ⟨by kernel_rfl, by (intro wz _; go_simp; try with_reducible rfl)⟩) (Ol.on hS0) ?_
      go_simp
      refine Ol.way_plain (i := 6) (v := ?_) rfl (by kernel_rfl) (by kernel_rfl) (by kernel_rfl) (fun _ _ _ h => h) (by decide) (Or.inl ⟨by kernel_rfl, by (intro wz _; go_simp; try with_reducible rfl)⟩) (Ol.on hS0) ?_
      go_simp
      refine Ol.way_take (i := 7) (v := ?_) rfl (by kernel_rfl) (by kernel_rfl) (by kernel_rfl) (fun _ _ _ h => h) (by decide) (by kernel_rfl) (by kernel_rfl) (Or.inl ⟨by kernel_rfl, by (intro wz hSz; have c4_0 := cell_of_row _ _ 0 _ _ _ hSz.1; have c4_1 := cell_of_row _ _ 1 _ _ _ hSz.1; have c4_2 := cell_of_row _ _ 2 _ _ _ hSz.1; have c2_0 := cell_of_row _ _ 0 _ _ _ hSz.2.1; have c2_1 := cell_of_row _ _ 1 _ _ _ hSz.2.1; have c2_2 := cell_of_row _ _ 2 _ _ _ hSz.2.1; simp at c4_0 c4_1 c4_2 c2_0 c2_1 c2_2; have el0z := hSz.2.2.1; have el1z := hSz.2.2.2.1; have el2z := hSz.2.2.2.2.1; have em0z := hSz.2.2.2.2.2.1; have em1z := hSz.2.2.2.2.2.2.1; have em2z := hSz.2.2.2.2.2.2.2; go_simp; try with_reducible rfl)⟩) hS0 ?_
      go_simp
      refine Ol.way_plain (i := 8) (v := ?_) rfl (by kernel_rfl) (by kernel_rfl) (by kernel_rfl) (fun _ _ _ h => h) (by decide) (Or.inl ⟨by kernel_rfl, by (intro wz _; go_simp; try with_reducible rfl)⟩) (Ol.on hS0) ?_
      go_simp
      refine Ol.way_take (i := 9) (v := ?_) rfl (by kernel_rfl) (by kernel_rfl) (by kernel_rfl) (fun _ _ _ h => h) (by decide) (by kernel_rfl) (by kernel_rfl) (Or.inl ⟨by kernel_rfl, by (intro wz hSz; have c4_0 := cell_of_row _ _ 0 _ _ _ hSz.1; have c4_1 := cell_of_row _ _ 1 _ _ _ hSz.1; have c4_2 := cell_of_row _ _ 2 _ _ _ hSz.1; have c2_0 := cell_of_row _ _ 0 _ _ _ hSz.2.1; have c2_1 := cell_of_row _ _ 1 _ _ _ hSz.2.1; have c2_2 := cell_of_row _ _ 2 _ _ _ hSz.2.1; simp at c4_0 c4_1 c4_2 c2_0 c2_1 c2_2; have el0z := hSz.2.2.1; have el1z := hSz.2.2.2.1; have el2z := hSz.2.2.2.2.1; have em0z := hSz.2.2.2.2.2.1; have em1z := hSz.2.2.2.2.2.2.1; have em2z := hSz.2.2.2.2.2.2.2; go_simp; try with_reducible rfl)⟩) hS0 ?_
      go_simp
      refine Ol.way_plain (i := 10) (v := ?_) rfl (by kernel_rfl) (by kernel_rfl) (by kernel_rfl) (fun _ _ _ h => h) (by decide) (Or.inl ⟨by kernel_rfl, by (intro wz _; go_simp; try with_reducible rfl)⟩) (Ol.on hS0) ?_
      go_simp
      refine Ol.way_plain (i := 11) (v := ?_) rfl (by kernel_rfl) (by kernel_rfl) (by kernel_rfl) (fun _ _ _ h => h) (by decide) (Or.inl ⟨by kernel_rfl, by (intro wz _; go_simp; try with_reducible rfl)⟩) (Ol.on hS0) ?_
      go_simp
      refine Ol.way_take (i := 12) (v := ?_) rfl (by kernel_rfl) (by kernel_rfl) (by kernel_rfl) (fun _ _ _ h => h) (by decide) (by kernel_rfl) (by kernel_rfl) (Or.inl ⟨by kernel_rfl, by (intro wz hSz; have c4_0 := cell_of_row _ _ 0 _ _ _ hSz.1; have c4_1 := cell_of_row _ _ 1 _ _ _ hSz.1; have c4_2 := cell_of_row _ _ 2 _ _ _ hSz.1; have c2_0 := cell_of_row _ _ 0 _ _ _ hSz.2.1; have c2_1 := cell_of_row _ _ 1 _ _ _ hSz.2.1; have c2_2 := cell_of_row _ _ 2 _ _ _ hSz.2.1; simp at c4_0 c4_1 c4_2 c2_0 c2_1 c2_2; have el0z := hSz.2.2.1; have el1z := hSz.2.2.2.1; have el2z := hSz.2.2.2.2.1; have em0z := hSz.2.2.2.2.2.1; have em1z := hSz.2.2.2.2.2.2.1; have em2z := hSz.2.2.2.2.2.2.2; go_simp; try with_reducible rfl)⟩) hS0 ?_
      go_simp
      refine Ol.way_ready (rs := [13]) (by kernel_rfl) (by simp) ?_
      refine Ol.Each.cons rfl (fun K hK => ?_) Ol.Each.nil
      go_simp
      go_wp2_with (go_at_call 26; refine (HMX.out _).mono ?_; rintro e y9 ⟨rfl, hb9⟩; have HX9 := Lib.hid (Ls.own_below HX8.out hb9); have HA9 := Lib.hid (HA8.out.trans (Aw.of hb9)))
      have hr9_0 := (hb9.block _ (lt_heap hr8_0)).trans hr8_0
      have hr9_1 := (hb9.block _ (lt_heap hr8_1)).trans hr8_1
      have hr9_2 := (hb9.block _ (lt_heap hr8_2)).trans hr8_2
      have hr9_3 := (hb9.block _ (lt_heap hr8_3)).trans hr8_3
      have hr9_4 := (hb9.block _ (lt_heap hr8_4)).trans hr8_4
      have HU9 := Lib.hid (HU8.out.trans (hb9.mono HU8.out.size))
      refine Ol.keep hK _ _ (⟨(hb9.block _ (lt_heap hS0.1)).trans hS0.1, (hb9.block _ (lt_heap hS0.2.1)).trans hS0.2.1, (hb9.cell (p := ⟨g2, k * 3, none⟩) (World.block_lt_of_cell? _ _ (hS0.2.2.1))).trans hS0.2.2.1, (hb9.cell (p := ⟨g2, k * 3 + 1, none⟩) (World.block_lt_of_cell? _ _ (hS0.2.2.2.1))).trans hS0.2.2.2.1, (hb9.cell (p := ⟨g2, k * 3 + 2, none⟩) (World.block_lt_of_cell? _ _ (hS0.2.2.2.2.1))).trans hS0.2.2.2.2.1, (hb9.cell (p := ⟨mb, mo + p * 3, none⟩) (World.block_lt_of_cell? _ _ (hS0.2.2.2.2.2.1))).trans hS0.2.2.2.2.2.1, (hb9.cell (p := ⟨mb, mo + p * 3 + 1, none⟩) (World.block_lt_of_cell? _ _ (hS0.2.2.2.2.2.2.1))).trans hS0.2.2.2.2.2.2.1, (hb9.cell (p := ⟨mb, mo + p * 3 + 2, none⟩) (World.block_lt_of_cell? _ _ (hS0.2.2.2.2.2.2.2))).trans hS0.2.2.2.2.2.2.2⟩) (fun hS9c => ?_)
      clear hK K
      refine Ol.way_plain (i := 14) (v := ?_) rfl (by kernel_rfl) (by kernel_rfl) (by kernel_rfl) (fun _ _ _ h => h) (by decide) (Or.inl ⟨by kernel_rfl, by (intro wz _; go_simp; try with_reducible rfl)⟩) (Ol.on hS9c) ?_
      go_simp
      refine Ol.way_ready (rs := [15]) (by kernel_rfl) (by simp) ?_
      refine Ol.Each.cons rfl (fun K hK => ?_) Ol.Each.nil
      have fz : ∀ j, y9.frozen? ⟨g2, j, none⟩ = false := fun j => HX9.out.frozenAt j
      have p0 := hS9c.2.2.1
      have p1 := hS9c.2.2.2.1
      have p2 := hS9c.2.2.2.2.1
      go_simp
      clear fz p0 p1 p2
      have HXn := Lib.hid (show World.ownsRow (((y9.setCell ⟨g2, k * 3, none⟩ (.int .i64 r0)).setCell ⟨g2, k * 3 + 1, none⟩ (.int .i64 r1)).setCell ⟨g2, k * 3 + 2, none⟩ (.int .i64 r2)) w.heap.size 62 3 (.slice (some ⟨g2, 0, none⟩) nl cap2) nl (flatc 3 (blendTo (⟨W, H, nl, nd, nn, nb, ns, nf, L, D, N, B, S, F⟩ : Flm) (⟨W2, H2, nl2, nd2, nn2, nb2, ns2, nf2, L2, D2, N2, B2, S2, F2⟩ : Flm) M (k + 1)) nl) by rw [← HFC.out]; exact (((HX9.out.stored _ _).1.stored _ _).1.stored _ _).1)
      have HAn := Lib.hid (((HA9.out.set (b := g2) (fun h => h.2 rfl) (k * 3) (.int .i64 r0)).set (b := g2) (fun h => h.2 rfl) (k * 3 + 1) (.int .i64 r1)).set (b := g2) (fun h => h.2 rfl) (k * 3 + 2) (.int .i64 r2))
      refine Ol.past hK (by kernel_rfl) _ _ ?_
      clear hK K
      refine Ol.way_done (by kernel_rfl) ?_ _
      go_wp2_with fail
      go_roundw
      case rel => exact ⟨k + 1, by omega, by go_num, HXn, HAn⟩
      case measure => simp [intOf]; omega
    · have hge : ¬ (k : Int) < nl := by omega
      obtain rfl : k = nl := by omega
      have HXE := Lib.hid (show y6.ownsRow w.heap.size 62 3 (.slice (some ⟨g2, 0, none⟩) k cap2) k (flatc 3 (blend (⟨W, H, k, nd, nn, nb, ns, nf, L, D, N, B, S, F⟩ : Flm) (⟨W2, H2, nl2, nd2, nn2, nb2, ns2, nf2, L2, D2, N2, B2, S2, F2⟩ : Flm) M) k) by rw [← flatc_congr 3 _ _ k (fun j hj => blendTo_all (⟨W, H, k, nd, nn, nb, ns, nf, L, D, N, B, S, F⟩ : Flm) (⟨W2, H2, nl2, nd2, nn2, nb2, ns2, nf2, L2, D2, N2, B2, S2, F2⟩ : Flm) M k j hj)]; exact HX.out)
      have c4_0 := cell_of_row _ _ 0 _ _ _ hr6_4
      have c4_1 := cell_of_row _ _ 1 _ _ _ hr6_4
      have c4_2 := cell_of_row _ _ 2 _ _ _ hr6_4
      simp at c4_0 c4_1 c4_2
      have hHr := Lib.hid hr6_3
      have hHi := Lib.hid (show (Try.prog.info? 36).map (·.size) = some (#[.int .i64 W, .int .i64 H, .slice (some ⟨g2, 0, none⟩) k cap2] : Array Value).size by kernel_rfl)
      have hHz := Lib.hid (show (#[.int .i64 0, .int .i64 0, .slice none 0 0] : Array Value).size = (#[.int .i64 W, .int .i64 H, .slice (some ⟨g2, 0, none⟩) k cap2] : Array Value).size from rfl)
      have hHo := Lib.hid (show (#[.int .i64 W, .int .i64 H, .slice (some ⟨g2, 0, none⟩) k cap2] : Array Value).all (·.oneCell') = true by simp [Value.oneCell'])
      go_wp2_with (first | (refine Au.wpList_store_row rfl 36 (.tmp 6) (.tmp 65) rfl y6 #[.int .i64 0, .int .i64 0, .slice none 0 0] #[.int .i64 W, .int .i64 H, .slice (some ⟨g2, 0, none⟩) k cap2] (w.heap.size + 1 + 1 + 1) 36 hHr.out rfl rfl hHi.out hHz.out hHo.out ?_))
      clear c4_0 c4_1 c4_2
      clear hHr hHi hHz hHo
      have hN := setRow_heap _ (w.heap.size + 1 + 1 + 1) _ #[.int .i64 W, .int .i64 H, .slice (some ⟨g2, 0, none⟩) k cap2] _ _ hr6_3
      have hsz := HU6.out.size
      have HUx := below_setRow (g := w.heap.size + 1 + 1 + 1) HU6.out (by first | omega | (simp at *; omega)) #[.int .i64 W, .int .i64 H, .slice (some ⟨g2, 0, none⟩) k cap2]
      have hO : ∀ kk, kk ≠ w.heap.size + 1 + 1 + 1 → (y6.setRow (w.heap.size + 1 + 1 + 1) #[.int .i64 W, .int .i64 H, .slice (some ⟨g2, 0, none⟩) k cap2]).heap[kk]? = y6.heap[kk]? := fun kk hk => setRow_other _ _ _ _ hk
      obtain ⟨y7, hy7⟩ : ∃ y, y6.setRow (w.heap.size + 1 + 1 + 1) #[.int .i64 W, .int .i64 H, .slice (some ⟨g2, 0, none⟩) k cap2] = y := ⟨_, rfl⟩
      rw [hy7] at hN HUx hO ⊢
      clear hy7 hsz
      have HU7 := Lib.hid HUx
      clear HUx
      have hr7_0 := (hO _ (by omega)).trans hr6_0
      have hr7_1 := (hO _ (by omega)).trans hr6_1
      have hr7_2 := (hO _ (by omega)).trans hr6_2
      have hr7_3 := hN
      have hr7_4 := (hO _ (by omega)).trans hr6_4
      have HXF := Lib.hid (own_via HXE.out (fun q' hq' => hO q' (by simp [Value.ownBlock] at hq'; omega)))
      clear hN hO
      clear hr6_0 hr6_1 hr6_2 hr6_3 hr6_4 HU6
      have c3_0 := cell_of_row _ _ 0 _ _ _ hr7_3
      have c3_1 := cell_of_row _ _ 1 _ _ _ hr7_3
      have c3_2 := cell_of_row _ _ 2 _ _ _ hr7_3
      simp at c3_0 c3_1 c3_2
      go_wp2
      exact bodyPost_ret (v := .tuple #[.agg #[.int .i64 W, .int .i64 H, .slice (some ⟨g2, 0, none⟩) k cap2], .int .i64 0]) (by simp [results, Try.results8, go_sem, c3_0, c3_1, c3_2]) rfl ⟨⟨g2, cap2, rfl, HXF.out⟩, HU7.out⟩

set_option maxHeartbeats 8000000 in
set_option maxRecDepth 100000 in
theorem kept_f (W H : Int) (al ad an ab ax af : Option Addr) (cl cd cn cb cx cf nl nd nn nb ns nf : Nat) (L D N B S F : Nat → Int) (W2 H2 : Int) (al2 ad2 an2 ab2 ax2 af2 : Option Addr) (cl2 cd2 cn2 cb2 cx2 cf2 nl2 nd2 nn2 nb2 ns2 nf2 : Nat) (L2 D2 N2 B2 S2 F2 : Nat → Int) (w : World) (hf : FAt w (⟨W, H, nl, nd, nn, nb, ns, nf, L, D, N, B, S, F⟩ : Flm) (⟨al, cl, ad, cd, an, cn, ab, cb, ax, cx, af, cf⟩ : Pl)) (hg : FAt w (⟨W2, H2, nl2, nd2, nn2, nb2, ns2, nf2, L2, D2, N2, B2, S2, F2⟩ : Flm) (⟨al2, cl2, ad2, cd2, an2, cn2, ab2, cb2, ax2, cx2, af2, cf2⟩ : Pl)) (ho : ¬ okF (⟨W, H, nl, nd, nn, nb, ns, nf, L, D, N, B, S, F⟩ : Flm)) : Calls Try.prog 15 #[.agg #[.int .i64 W, .int .i64 H, .slice al nl cl, .slice ad nd cd, .slice an nn cn, .slice ab nb cb, .slice ax ns cx, .slice af nf cf], .agg #[.int .i64 W2, .int .i64 H2, .slice al2 nl2 cl2, .slice ad2 nd2 cd2, .slice an2 nn2 cn2, .slice ab2 nb2 cb2, .slice ax2 ns2 cx2, .slice af2 nf2 cf2]] w fun e' w' => e' = .returned (.int .i64 0) ∧ Below w.heap.size w w' := by
  have HF := Lib.hid hf
  have HG := Lib.hid hg
  clear hf hg
  have HO := Lib.hid ho
  clear ho
  go_enter Try.func15, Try.ntmps15
  go_upto_region 1 with fail
  have hR := Au.rows2 w (.cells #[.int .i64 W, .int .i64 H, .slice al nl cl, .slice ad nd cd, .slice an nn cn, .slice ab nb cb, .slice ax ns cx, .slice af nf cf] 40) (.cells #[.int .i64 W2, .int .i64 H2, .slice al2 nl2 cl2, .slice ad2 nd2 cd2, .slice an2 nn2 cn2, .slice ab2 nb2 cb2, .slice ax2 ns2 cx2, .slice af2 nf2 cf2] 40)
  have HUx := Ve.below_n2 w (.cells #[.int .i64 W, .int .i64 H, .slice al nl cl, .slice ad nd cd, .slice an nn cn, .slice ab nb cb, .slice ax ns cx, .slice af nf cf] 40) (.cells #[.int .i64 W2, .int .i64 H2, .slice al2 nl2 cl2, .slice ad2 nd2 cd2, .slice an2 nn2 cn2, .slice ab2 nb2 cb2, .slice ax2 ns2 cx2, .slice af2 nf2 cf2] 40)
  obtain ⟨y0, hy0⟩ : ∃ y0, (w.alloc (.cells #[.int .i64 W, .int .i64 H, .slice al nl cl, .slice ad nd cd, .slice an nn cn, .slice ab nb cb, .slice ax ns cx, .slice af nf cf] 40)).alloc (.cells #[.int .i64 W2, .int .i64 H2, .slice al2 nl2 cl2, .slice ad2 nd2 cd2, .slice an2 nn2 cn2, .slice ab2 nb2 cb2, .slice ax2 ns2 cx2, .slice af2 nf2 cf2] 40) = y0 := ⟨_, rfl⟩
  rw [hy0] at hR HUx ⊢
  clear hy0
  have HU0 := Lib.hid HUx
  clear HUx
  obtain ⟨hr0_0, hr0_1⟩ := hR
  have c0_0 := cell_of_row _ _ 0 _ _ _ hr0_0
  have c0_1 := cell_of_row _ _ 1 _ _ _ hr0_0
  have c0_2 := cell_of_row _ _ 2 _ _ _ hr0_0
  have c0_3 := cell_of_row _ _ 3 _ _ _ hr0_0
  have c0_4 := cell_of_row _ _ 4 _ _ _ hr0_0
  have c0_5 := cell_of_row _ _ 5 _ _ _ hr0_0
  have c0_6 := cell_of_row _ _ 6 _ _ _ hr0_0
  have c0_7 := cell_of_row _ _ 7 _ _ _ hr0_0
  simp at c0_0 c0_1 c0_2 c0_3 c0_4 c0_5 c0_6 c0_7
  go_wp2_with fail
  refine (fright_any (⟨W, H, nl, nd, nn, nb, ns, nf, L, D, N, B, S, F⟩ : Flm) (⟨al, cl, ad, cd, an, cn, ab, cb, ax, cx, af, cf⟩ : Pl) _ (HF.out.on HU0.out)).mono ?_
  rintro e y1 ⟨rfl, hb1⟩
  clear c0_0 c0_1 c0_2 c0_3 c0_4 c0_5 c0_6 c0_7
  have hr1_0 := (hb1.block _ (lt_heap hr0_0)).trans hr0_0
  have hr1_1 := (hb1.block _ (lt_heap hr0_1)).trans hr0_1
  have HU1 := Lib.hid (HU0.out.trans (hb1.mono HU0.out.size))
  clear hr0_0 hr0_1 HU0
  rw [decide_eq_false HO.out]
  go_wp2
  go_ret
  exact ⟨rfl, HU1.out⟩

set_option maxHeartbeats 8000000 in
set_option maxRecDepth 100000 in
theorem kept_g (W H : Int) (al ad an ab ax af : Option Addr) (cl cd cn cb cx cf nl nd nn nb ns nf : Nat) (L D N B S F : Nat → Int) (W2 H2 : Int) (al2 ad2 an2 ab2 ax2 af2 : Option Addr) (cl2 cd2 cn2 cb2 cx2 cf2 nl2 nd2 nn2 nb2 ns2 nf2 : Nat) (L2 D2 N2 B2 S2 F2 : Nat → Int) (w : World) (hf : FAt w (⟨W, H, nl, nd, nn, nb, ns, nf, L, D, N, B, S, F⟩ : Flm) (⟨al, cl, ad, cd, an, cn, ab, cb, ax, cx, af, cf⟩ : Pl)) (hg : FAt w (⟨W2, H2, nl2, nd2, nn2, nb2, ns2, nf2, L2, D2, N2, B2, S2, F2⟩ : Flm) (⟨al2, cl2, ad2, cd2, an2, cn2, ab2, cb2, ax2, cx2, af2, cf2⟩ : Pl)) (ho : okF (⟨W, H, nl, nd, nn, nb, ns, nf, L, D, N, B, S, F⟩ : Flm)) (ho2 : ¬ okF (⟨W2, H2, nl2, nd2, nn2, nb2, ns2, nf2, L2, D2, N2, B2, S2, F2⟩ : Flm)) : Calls Try.prog 15 #[.agg #[.int .i64 W, .int .i64 H, .slice al nl cl, .slice ad nd cd, .slice an nn cn, .slice ab nb cb, .slice ax ns cx, .slice af nf cf], .agg #[.int .i64 W2, .int .i64 H2, .slice al2 nl2 cl2, .slice ad2 nd2 cd2, .slice an2 nn2 cn2, .slice ab2 nb2 cb2, .slice ax2 ns2 cx2, .slice af2 nf2 cf2]] w fun e' w' => e' = .returned (.int .i64 0) ∧ Below w.heap.size w w' := by
  have HF := Lib.hid hf
  have HG := Lib.hid hg
  clear hf hg
  have HO := Lib.hid ho
  clear ho
  have HO2 := Lib.hid ho2
  clear ho2
  go_enter Try.func15, Try.ntmps15
  go_upto_region 1 with fail
  have hR := Au.rows2 w (.cells #[.int .i64 W, .int .i64 H, .slice al nl cl, .slice ad nd cd, .slice an nn cn, .slice ab nb cb, .slice ax ns cx, .slice af nf cf] 40) (.cells #[.int .i64 W2, .int .i64 H2, .slice al2 nl2 cl2, .slice ad2 nd2 cd2, .slice an2 nn2 cn2, .slice ab2 nb2 cb2, .slice ax2 ns2 cx2, .slice af2 nf2 cf2] 40)
  have HUx := Ve.below_n2 w (.cells #[.int .i64 W, .int .i64 H, .slice al nl cl, .slice ad nd cd, .slice an nn cn, .slice ab nb cb, .slice ax ns cx, .slice af nf cf] 40) (.cells #[.int .i64 W2, .int .i64 H2, .slice al2 nl2 cl2, .slice ad2 nd2 cd2, .slice an2 nn2 cn2, .slice ab2 nb2 cb2, .slice ax2 ns2 cx2, .slice af2 nf2 cf2] 40)
  obtain ⟨y0, hy0⟩ : ∃ y0, (w.alloc (.cells #[.int .i64 W, .int .i64 H, .slice al nl cl, .slice ad nd cd, .slice an nn cn, .slice ab nb cb, .slice ax ns cx, .slice af nf cf] 40)).alloc (.cells #[.int .i64 W2, .int .i64 H2, .slice al2 nl2 cl2, .slice ad2 nd2 cd2, .slice an2 nn2 cn2, .slice ab2 nb2 cb2, .slice ax2 ns2 cx2, .slice af2 nf2 cf2] 40) = y0 := ⟨_, rfl⟩
  rw [hy0] at hR HUx ⊢
  clear hy0
  have HU0 := Lib.hid HUx
  clear HUx
  obtain ⟨hr0_0, hr0_1⟩ := hR
  have c0_0 := cell_of_row _ _ 0 _ _ _ hr0_0
  have c0_1 := cell_of_row _ _ 1 _ _ _ hr0_0
  have c0_2 := cell_of_row _ _ 2 _ _ _ hr0_0
  have c0_3 := cell_of_row _ _ 3 _ _ _ hr0_0
  have c0_4 := cell_of_row _ _ 4 _ _ _ hr0_0
  have c0_5 := cell_of_row _ _ 5 _ _ _ hr0_0
  have c0_6 := cell_of_row _ _ 6 _ _ _ hr0_0
  have c0_7 := cell_of_row _ _ 7 _ _ _ hr0_0
  simp at c0_0 c0_1 c0_2 c0_3 c0_4 c0_5 c0_6 c0_7
  go_wp2_with fail
  refine (fright_any (⟨W, H, nl, nd, nn, nb, ns, nf, L, D, N, B, S, F⟩ : Flm) (⟨al, cl, ad, cd, an, cn, ab, cb, ax, cx, af, cf⟩ : Pl) _ (HF.out.on HU0.out)).mono ?_
  rintro e y1 ⟨rfl, hb1⟩
  clear c0_0 c0_1 c0_2 c0_3 c0_4 c0_5 c0_6 c0_7
  have hr1_0 := (hb1.block _ (lt_heap hr0_0)).trans hr0_0
  have hr1_1 := (hb1.block _ (lt_heap hr0_1)).trans hr0_1
  have HU1 := Lib.hid (HU0.out.trans (hb1.mono HU0.out.size))
  clear hr0_0 hr0_1 HU0
  rw [decide_eq_true HO.out]
  have c1_0 := cell_of_row _ _ 0 _ _ _ hr1_1
  have c1_1 := cell_of_row _ _ 1 _ _ _ hr1_1
  have c1_2 := cell_of_row _ _ 2 _ _ _ hr1_1
  have c1_3 := cell_of_row _ _ 3 _ _ _ hr1_1
  have c1_4 := cell_of_row _ _ 4 _ _ _ hr1_1
  have c1_5 := cell_of_row _ _ 5 _ _ _ hr1_1
  have c1_6 := cell_of_row _ _ 6 _ _ _ hr1_1
  have c1_7 := cell_of_row _ _ 7 _ _ _ hr1_1
  simp at c1_0 c1_1 c1_2 c1_3 c1_4 c1_5 c1_6 c1_7
  go_wp2_with fail
  refine (fright_any (⟨W2, H2, nl2, nd2, nn2, nb2, ns2, nf2, L2, D2, N2, B2, S2, F2⟩ : Flm) (⟨al2, cl2, ad2, cd2, an2, cn2, ab2, cb2, ax2, cx2, af2, cf2⟩ : Pl) _ (HG.out.on HU1.out)).mono ?_
  rintro e y2 ⟨rfl, hb2⟩
  clear c1_0 c1_1 c1_2 c1_3 c1_4 c1_5 c1_6 c1_7
  have hr2_0 := (hb2.block _ (lt_heap hr1_0)).trans hr1_0
  have hr2_1 := (hb2.block _ (lt_heap hr1_1)).trans hr1_1
  have HU2 := Lib.hid (HU1.out.trans (hb2.mono HU1.out.size))
  clear hr1_0 hr1_1 HU1
  rw [decide_eq_false HO2.out]
  go_wp2
  go_ret
  exact ⟨rfl, HU2.out⟩

set_option maxHeartbeats 8000000 in
set_option maxRecDepth 100000 in
theorem kept_yes (W H : Int) (al ad an ab ax af : Option Addr) (cl cd cn cb cx cf nl nd nn nb ns nf : Nat) (L D N B S F : Nat → Int) (W2 H2 : Int) (al2 ad2 an2 ab2 ax2 af2 : Option Addr) (cl2 cd2 cn2 cb2 cx2 cf2 nl2 nd2 nn2 nb2 ns2 nf2 : Nat) (L2 D2 N2 B2 S2 F2 : Nat → Int) (w : World) (hf : FAt w (⟨W, H, nl, nd, nn, nb, ns, nf, L, D, N, B, S, F⟩ : Flm) (⟨al, cl, ad, cd, an, cn, ab, cb, ax, cx, af, cf⟩ : Pl)) (hg : FAt w (⟨W2, H2, nl2, nd2, nn2, nb2, ns2, nf2, L2, D2, N2, B2, S2, F2⟩ : Flm) (⟨al2, cl2, ad2, cd2, an2, cn2, ab2, cb2, ax2, cx2, af2, cf2⟩ : Pl)) (ho : okF (⟨W, H, nl, nd, nn, nb, ns, nf, L, D, N, B, S, F⟩ : Flm)) (ho2 : okF (⟨W2, H2, nl2, nd2, nn2, nb2, ns2, nf2, L2, D2, N2, B2, S2, F2⟩ : Flm)) : Calls Try.prog 15 #[.agg #[.int .i64 W, .int .i64 H, .slice al nl cl, .slice ad nd cd, .slice an nn cn, .slice ab nb cb, .slice ax ns cx, .slice af nf cf], .agg #[.int .i64 W2, .int .i64 H2, .slice al2 nl2 cl2, .slice ad2 nd2 cd2, .slice an2 nn2 cn2, .slice ab2 nb2 cb2, .slice ax2 ns2 cx2, .slice af2 nf2 cf2]] w fun e' w' => e' = .returned (.int .i64 (keptN (⟨W, H, nl, nd, nn, nb, ns, nf, L, D, N, B, S, F⟩ : Flm) (⟨W2, H2, nl2, nd2, nn2, nb2, ns2, nf2, L2, D2, N2, B2, S2, F2⟩ : Flm) nf)) ∧ Below w.heap.size w w' := by
  have HF := Lib.hid hf
  have HG := Lib.hid hg
  clear hf hg
  have HO := Lib.hid ho
  clear ho
  have HO2 := Lib.hid ho2
  clear ho2
  have hnf : nf ≤ 5000 := by have h1 := okSz_mul HO.out.1.1; have h2 := HO.out.2.2.2.2.2.1; simp only [] at h1 h2; omega
  go_enter Try.func15, Try.ntmps15
  go_upto_region 1 with fail
  have hR := Au.rows2 w (.cells #[.int .i64 W, .int .i64 H, .slice al nl cl, .slice ad nd cd, .slice an nn cn, .slice ab nb cb, .slice ax ns cx, .slice af nf cf] 40) (.cells #[.int .i64 W2, .int .i64 H2, .slice al2 nl2 cl2, .slice ad2 nd2 cd2, .slice an2 nn2 cn2, .slice ab2 nb2 cb2, .slice ax2 ns2 cx2, .slice af2 nf2 cf2] 40)
  have HUx := Ve.below_n2 w (.cells #[.int .i64 W, .int .i64 H, .slice al nl cl, .slice ad nd cd, .slice an nn cn, .slice ab nb cb, .slice ax ns cx, .slice af nf cf] 40) (.cells #[.int .i64 W2, .int .i64 H2, .slice al2 nl2 cl2, .slice ad2 nd2 cd2, .slice an2 nn2 cn2, .slice ab2 nb2 cb2, .slice ax2 ns2 cx2, .slice af2 nf2 cf2] 40)
  obtain ⟨y0, hy0⟩ : ∃ y0, (w.alloc (.cells #[.int .i64 W, .int .i64 H, .slice al nl cl, .slice ad nd cd, .slice an nn cn, .slice ab nb cb, .slice ax ns cx, .slice af nf cf] 40)).alloc (.cells #[.int .i64 W2, .int .i64 H2, .slice al2 nl2 cl2, .slice ad2 nd2 cd2, .slice an2 nn2 cn2, .slice ab2 nb2 cb2, .slice ax2 ns2 cx2, .slice af2 nf2 cf2] 40) = y0 := ⟨_, rfl⟩
  rw [hy0] at hR HUx ⊢
  clear hy0
  have HU0 := Lib.hid HUx
  clear HUx
  obtain ⟨hr0_0, hr0_1⟩ := hR
  have c0_0 := cell_of_row _ _ 0 _ _ _ hr0_0
  have c0_1 := cell_of_row _ _ 1 _ _ _ hr0_0
  have c0_2 := cell_of_row _ _ 2 _ _ _ hr0_0
  have c0_3 := cell_of_row _ _ 3 _ _ _ hr0_0
  have c0_4 := cell_of_row _ _ 4 _ _ _ hr0_0
  have c0_5 := cell_of_row _ _ 5 _ _ _ hr0_0
  have c0_6 := cell_of_row _ _ 6 _ _ _ hr0_0
  have c0_7 := cell_of_row _ _ 7 _ _ _ hr0_0
  simp at c0_0 c0_1 c0_2 c0_3 c0_4 c0_5 c0_6 c0_7
  go_wp2_with fail
  refine (fright_any (⟨W, H, nl, nd, nn, nb, ns, nf, L, D, N, B, S, F⟩ : Flm) (⟨al, cl, ad, cd, an, cn, ab, cb, ax, cx, af, cf⟩ : Pl) _ (HF.out.on HU0.out)).mono ?_
  rintro e y1 ⟨rfl, hb1⟩
  clear c0_0 c0_1 c0_2 c0_3 c0_4 c0_5 c0_6 c0_7
  have hr1_0 := (hb1.block _ (lt_heap hr0_0)).trans hr0_0
  have hr1_1 := (hb1.block _ (lt_heap hr0_1)).trans hr0_1
  have HU1 := Lib.hid (HU0.out.trans (hb1.mono HU0.out.size))
  clear hr0_0 hr0_1 HU0
  rw [decide_eq_true HO.out]
  have c1_0 := cell_of_row _ _ 0 _ _ _ hr1_1
  have c1_1 := cell_of_row _ _ 1 _ _ _ hr1_1
  have c1_2 := cell_of_row _ _ 2 _ _ _ hr1_1
  have c1_3 := cell_of_row _ _ 3 _ _ _ hr1_1
  have c1_4 := cell_of_row _ _ 4 _ _ _ hr1_1
  have c1_5 := cell_of_row _ _ 5 _ _ _ hr1_1
  have c1_6 := cell_of_row _ _ 6 _ _ _ hr1_1
  have c1_7 := cell_of_row _ _ 7 _ _ _ hr1_1
  simp at c1_0 c1_1 c1_2 c1_3 c1_4 c1_5 c1_6 c1_7
  go_wp2_with fail
  refine (fright_any (⟨W2, H2, nl2, nd2, nn2, nb2, ns2, nf2, L2, D2, N2, B2, S2, F2⟩ : Flm) (⟨al2, cl2, ad2, cd2, an2, cn2, ab2, cb2, ax2, cx2, af2, cf2⟩ : Pl) _ (HG.out.on HU1.out)).mono ?_
  rintro e y2 ⟨rfl, hb2⟩
  clear c1_0 c1_1 c1_2 c1_3 c1_4 c1_5 c1_6 c1_7
  have hr2_0 := (hb2.block _ (lt_heap hr1_0)).trans hr1_0
  have hr2_1 := (hb2.block _ (lt_heap hr1_1)).trans hr1_1
  have HU2 := Lib.hid (HU1.out.trans (hb2.mono HU1.out.size))
  clear hr1_0 hr1_1 HU1
  rw [decide_eq_true HO2.out]
  have c0_0 := cell_of_row _ _ 0 _ _ _ hr2_0
  have c0_1 := cell_of_row _ _ 1 _ _ _ hr2_0
  have c0_2 := cell_of_row _ _ 2 _ _ _ hr2_0
  have c0_3 := cell_of_row _ _ 3 _ _ _ hr2_0
  have c0_4 := cell_of_row _ _ 4 _ _ _ hr2_0
  have c0_5 := cell_of_row _ _ 5 _ _ _ hr2_0
  have c0_6 := cell_of_row _ _ 6 _ _ _ hr2_0
  have c0_7 := cell_of_row _ _ 7 _ _ _ hr2_0
  simp at c0_0 c0_1 c0_2 c0_3 c0_4 c0_5 c0_6 c0_7
  go_wp2_with fail
  refine ((show Calls _ _ _ _ (fun e w' => e = .returned (.int .i64 (nf : Int)) ∧ Below _ _ w') from by have h := HO.out.2.2.2.2.2.1; simp only [] at h; rw [h]; exact pix_ok W H HO.out.1.1 _)).mono ?_
  rintro e y3 ⟨rfl, hb3⟩
  clear c0_0 c0_1 c0_2 c0_3 c0_4 c0_5 c0_6 c0_7
  have hr3_0 := (hb3.block _ (lt_heap hr2_0)).trans hr2_0
  have hr3_1 := (hb3.block _ (lt_heap hr2_1)).trans hr2_1
  have HU3 := Lib.hid (HU2.out.trans (hb3.mono HU2.out.size))
  clear hr2_0 hr2_1 HU2
  go_upto_region 5 with fail
  go_loopw [21, 5] (fun ix c wr => ∃ k : Nat, k ≤ nf ∧ ix = .int .i64 k ∧ Hid (c = .int .i64 (keptN (⟨W, H, nl, nd, nn, nb, ns, nf, L, D, N, B, S, F⟩ : Flm) (⟨W2, H2, nl2, nd2, nn2, nb2, ns2, nf2, L2, D2, N2, B2, S2, F2⟩ : Flm) k)) ∧ Hid (Below y3.heap.size y3 wr)) (fun ix _ _ => nf - (intOf ix).toNat)
  case atStart => exact ⟨0, Nat.zero_le _, rfl, Lib.hid rfl, Lib.hid (Below.refl _ _)⟩
  case round =>
    obtain ⟨k, hk, rfl, HC, HB⟩ := hrel
    obtain ⟨c, hc⟩ : ∃ c, c = keptN (⟨W, H, nl, nd, nn, nb, ns, nf, L, D, N, B, S, F⟩ : Flm) (⟨W2, H2, nl2, nd2, nn2, nb2, ns2, nf2, L2, D2, N2, B2, S2, F2⟩ : Flm) k := ⟨_, rfl⟩
    have HCC := Lib.hid hc
    have hcl : c ≤ 5000 := by rw [hc]; have := keptN_le (⟨W, H, nl, nd, nn, nb, ns, nf, L, D, N, B, S, F⟩ : Flm) (⟨W2, H2, nl2, nd2, nn2, nb2, ns2, nf2, L2, D2, N2, B2, S2, F2⟩ : Flm) k; omega
    have hcv := HC.out
    rw [← hc] at hcv
    subst hcv
    clear HC hc
    have hr4_0 := (HB.out.block _ (lt_heap hr3_0)).trans hr3_0
    have hr4_1 := (HB.out.block _ (lt_heap hr3_1)).trans hr3_1
    have HU4 := Lib.hid (HU3.out.trans (HB.out.mono HU3.out.size))
    obtain ⟨y4, hy_⟩ : ∃ y, y = wr := ⟨_, rfl⟩
    rw [← hy_] at HB HU4 hr4_0 hr4_1 ⊢
    clear hy_
    clear hr3_0 hr3_1 HU3
    by_cases hlt : k < nf
    · have hlt' : (k : Int) < nf := by omega
      go_wp2_with fail
      by_cases hp : hasPast (⟨W, H, nl, nd, nn, nb, ns, nf, L, D, N, B, S, F⟩ : Flm) (⟨W2, H2, nl2, nd2, nn2, nb2, ns2, nf2, L2, D2, N2, B2, S2, F2⟩ : Flm) k
      case neg =>
        refine (past_n (⟨W, H, nl, nd, nn, nb, ns, nf, L, D, N, B, S, F⟩ : Flm) (⟨W2, H2, nl2, nd2, nn2, nb2, ns2, nf2, L2, D2, N2, B2, S2, F2⟩ : Flm) (⟨al, cl, ad, cd, an, cn, ab, cb, ax, cx, af, cf⟩ : Pl) (⟨al2, cl2, ad2, cd2, an2, cn2, ab2, cb2, ax2, cx2, af2, cf2⟩ : Pl) _ w.heap.size (w.heap.size + 1) k hr4_0 hr4_1 (HF.out.on HU4.out) (HG.out.on HU4.out) HO.out HO2.out hlt hp).mono ?_
        rintro e z1 ⟨rfl, hb1⟩
        have HC2 := Lib.hid (show (c : Int) = (keptN (⟨W, H, nl, nd, nn, nb, ns, nf, L, D, N, B, S, F⟩ : Flm) (⟨W2, H2, nl2, nd2, nn2, nb2, ns2, nf2, L2, D2, N2, B2, S2, F2⟩ : Flm) (k + 1) : Nat) by rw [keptN, if_neg hp, HCC.out]; rfl)
        have HB2 := Lib.hid (HB.out.trans (hb1.mono HB.out.size))
        clear hp
        go_wp2_with fail
        go_roundw
        case rel => exact ⟨k + 1, by omega, by go_num, Lib.hid (by rw [HC2.out]), HB2⟩
        case measure => simp [intOf]; omega
      obtain ⟨p, hpk⟩ : ∃ p : Nat, F k = p := ⟨(F k).toNat, by have := hp.1; simp only [] at this; omega⟩
      refine (past_y (⟨W, H, nl, nd, nn, nb, ns, nf, L, D, N, B, S, F⟩ : Flm) (⟨W2, H2, nl2, nd2, nn2, nb2, ns2, nf2, L2, D2, N2, B2, S2, F2⟩ : Flm) (⟨al, cl, ad, cd, an, cn, ab, cb, ax, cx, af, cf⟩ : Pl) (⟨al2, cl2, ad2, cd2, an2, cn2, ab2, cb2, ax2, cx2, af2, cf2⟩ : Pl) _ w.heap.size (w.heap.size + 1) k p hr4_0 hr4_1 (HF.out.on HU4.out) (HG.out.on HU4.out) HO.out HO2.out hlt hp hpk).mono ?_
      rintro e z1 ⟨rfl, hb1⟩
      have HC2 := Lib.hid (show ((c : Int) + 1) = (keptN (⟨W, H, nl, nd, nn, nb, ns, nf, L, D, N, B, S, F⟩ : Flm) (⟨W2, H2, nl2, nd2, nn2, nb2, ns2, nf2, L2, D2, N2, B2, S2, F2⟩ : Flm) (k + 1) : Nat) by rw [keptN, if_pos hp, ← HCC.out]; push_cast; rfl)
      have HB2 := Lib.hid (HB.out.trans (hb1.mono HB.out.size))
      clear hp hpk
      go_wp2_with fail
      go_roundw
      case rel => exact ⟨k + 1, by omega, by go_num, Lib.hid (by rw [← HC2.out]), HB2⟩
      case measure => simp [intOf]; omega
    · have hge : ¬ (k : Int) < nf := by omega
      have HKE := Lib.hid (show k = nf by omega)
      clear hlt
      have HFE := Lib.hid (show c = keptN (⟨W, H, nl, nd, nn, nb, ns, nf, L, D, N, B, S, F⟩ : Flm) (⟨W2, H2, nl2, nd2, nn2, nb2, ns2, nf2, L2, D2, N2, B2, S2, F2⟩ : Flm) nf by rw [HCC.out, HKE.out])
      go_wp2
      go_ret
      exact ⟨by rw [← HFE.out]; rfl, HU4.out⟩

end Go.Proofs.Ytgpbnpnnbipfpaa.Fm
