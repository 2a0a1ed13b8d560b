/- PlateShows (zoetropelaw21): its walk. -/
import Derived.Test.YtcohehekkeeeoaaDoorF52
namespace Go.Proofs.YtcohehekkeeeoaaDoor.plateShowsW
open Go Go.RowKit Go.Proofs.YtcohehekkeeeoaaDoor Go.Proofs.YtcohehekkeeeoaaDoor.Re Go.Proofs.YtcohehekkeeeoaaDoor.Au Go.Proofs.YtcohehekkeeeoaaDoor.Pg Go.Proofs.YtcohehekkeeeoaaDoor.Pq
set_option linter.unusedVariables false
set_option linter.unusedSimpArgs false

set_option maxHeartbeats 2000000 in
set_option maxRecDepth 100000 in
theorem big_0 (W H : Int) (al ad an ab ax af : Option Addr) (cl cd cn cb cx cf nl nd nn nb ns nf : Nat) (L D N Bb S F : Nat → Int) (w : World) (hc : Fm.FAt w (⟨W, H, nl, nd, nn, nb, ns, nf, L, D, N, Bb, S, F⟩ : Fm.Flm) (⟨al, cl, ad, cd, an, cn, ab, cb, ax, cx, af, cf⟩ : Fm.Pl))  (h0 : ¬ nl ≤ 5000) : Calls Tryd.prog 3 #[.agg #[.int .i64 W, .int .i64 H, .slice al nl cl, .slice ad nd cd, .slice an nn cn, .slice ab nb cb, .slice ax ns cx, .slice af nf cf]] w fun e' w' => e' = .returned (.bool true) ∧ Below w.heap.size w w' := by
  have HC := Lib.hid hc
  clear hc
  have hlt := fun w => light_n0 W H al ad an ab ax af cl cd cn cb cx cf nl nd nn nb ns nf w h0
  clear h0
  go_enter Tryd.func3, Tryd.ntmps3
  go_upto_region 1 with fail
  have hr0 := heap_alloc_last w (.cells #[.int .i64 W, .int .i64 H, .slice al nl cl, .slice ad nd cd, .slice an nn cn, .slice ab nb cb, .slice ax ns cx, .slice af nf cf] 29)
  have hb0 := Ve.below_n1 w (.cells #[.int .i64 W, .int .i64 H, .slice al nl cl, .slice ad nd cd, .slice an nn cn, .slice ab nb cb, .slice ax ns cx, .slice af nf cf] 29)
  obtain ⟨y0, hy0⟩ : ∃ y0, w.alloc (.cells #[.int .i64 W, .int .i64 H, .slice al nl cl, .slice ad nd cd, .slice an nn cn, .slice ab nb cb, .slice ax ns cx, .slice af nf cf] 29) = y0 := ⟨_, rfl⟩
  obtain ⟨p0, hp0⟩ : ∃ p, p = w.heap.size := ⟨_, rfl⟩
  rw [hy0] at hr0 hb0 ⊢
  rw [← hp0] at hr0 ⊢
  clear hy0 hp0
  have HR := Lib.hid hr0
  have HB := Lib.hid hb0
  have HAT := Lib.hid (HC.out.on hb0)
  clear hb0 hr0
  have c0 := cell_of_row _ _ 0 _ _ _ HR.out
  have c1 := cell_of_row _ _ 1 _ _ _ HR.out
  have c2 := cell_of_row _ _ 2 _ _ _ HR.out
  have c3 := cell_of_row _ _ 3 _ _ _ HR.out
  have c4 := cell_of_row _ _ 4 _ _ _ HR.out
  have c5 := cell_of_row _ _ 5 _ _ _ HR.out
  have c6 := cell_of_row _ _ 6 _ _ _ HR.out
  have c7 := cell_of_row _ _ 7 _ _ _ HR.out
  simp at c0 c1 c2 c3 c4 c5 c6 c7
  go_upto_region 2 with (go_at_call 6; refine (hlt _).mono ?_; rintro e y1 ⟨rfl, hb1⟩)
  replace HR := Lib.hid ((hb1.block _ (lt_heap HR.out)).trans HR.out)
  replace HB := Lib.hid (HB.out.trans (hb1.mono HB.out.size))
  clear hb1 c0 c1 c2 c3 c4 c5 c6 c7
  go_wp2_with (go_at_call 7; refine (awake_any _).mono ?_; rintro e y2 ⟨rfl, hb2⟩)
  go_ret
  exact ⟨rfl, HB.out.trans (hb2.mono HB.out.size)⟩

set_option maxHeartbeats 2000000 in
set_option maxRecDepth 100000 in
theorem big_1 (W H : Int) (al ad an ab ax af : Option Addr) (cl cd cn cb cx cf nl nd nn nb ns nf : Nat) (L D N Bb S F : Nat → Int) (w : World) (hc : Fm.FAt w (⟨W, H, nl, nd, nn, nb, ns, nf, L, D, N, Bb, S, F⟩ : Fm.Flm) (⟨al, cl, ad, cd, an, cn, ab, cb, ax, cx, af, cf⟩ : Fm.Pl)) (h0 : nl ≤ 5000) (h1 : ¬ ns ≤ 5000) : Calls Tryd.prog 3 #[.agg #[.int .i64 W, .int .i64 H, .slice al nl cl, .slice ad nd cd, .slice an nn cn, .slice ab nb cb, .slice ax ns cx, .slice af nf cf]] w fun e' w' => e' = .returned (.bool true) ∧ Below w.heap.size w w' := by
  have HC := Lib.hid hc
  clear hc
  have hlt := fun w => light_n1 W H al ad an ab ax af cl cd cn cb cx cf nl nd nn nb ns nf w h0 h1
  clear h0 h1
  go_enter Tryd.func3, Tryd.ntmps3
  go_upto_region 1 with fail
  have hr0 := heap_alloc_last w (.cells #[.int .i64 W, .int .i64 H, .slice al nl cl, .slice ad nd cd, .slice an nn cn, .slice ab nb cb, .slice ax ns cx, .slice af nf cf] 29)
  have hb0 := Ve.below_n1 w (.cells #[.int .i64 W, .int .i64 H, .slice al nl cl, .slice ad nd cd, .slice an nn cn, .slice ab nb cb, .slice ax ns cx, .slice af nf cf] 29)
  obtain ⟨y0, hy0⟩ : ∃ y0, w.alloc (.cells #[.int .i64 W, .int .i64 H, .slice al nl cl, .slice ad nd cd, .slice an nn cn, .slice ab nb cb, .slice ax ns cx, .slice af nf cf] 29) = y0 := ⟨_, rfl⟩
  obtain ⟨p0, hp0⟩ : ∃ p, p = w.heap.size := ⟨_, rfl⟩
  rw [hy0] at hr0 hb0 ⊢
  rw [← hp0] at hr0 ⊢
  clear hy0 hp0
  have HR := Lib.hid hr0
  have HB := Lib.hid hb0
  have HAT := Lib.hid (HC.out.on hb0)
  clear hb0 hr0
  have c0 := cell_of_row _ _ 0 _ _ _ HR.out
  have c1 := cell_of_row _ _ 1 _ _ _ HR.out
  have c2 := cell_of_row _ _ 2 _ _ _ HR.out
  have c3 := cell_of_row _ _ 3 _ _ _ HR.out
  have c4 := cell_of_row _ _ 4 _ _ _ HR.out
  have c5 := cell_of_row _ _ 5 _ _ _ HR.out
  have c6 := cell_of_row _ _ 6 _ _ _ HR.out
  have c7 := cell_of_row _ _ 7 _ _ _ HR.out
  simp at c0 c1 c2 c3 c4 c5 c6 c7
  go_upto_region 2 with (go_at_call 6; refine (hlt _).mono ?_; rintro e y1 ⟨rfl, hb1⟩)
  replace HR := Lib.hid ((hb1.block _ (lt_heap HR.out)).trans HR.out)
  replace HB := Lib.hid (HB.out.trans (hb1.mono HB.out.size))
  clear hb1 c0 c1 c2 c3 c4 c5 c6 c7
  go_wp2_with (go_at_call 7; refine (awake_any _).mono ?_; rintro e y2 ⟨rfl, hb2⟩)
  go_ret
  exact ⟨rfl, HB.out.trans (hb2.mono HB.out.size)⟩

set_option maxHeartbeats 2000000 in
set_option maxRecDepth 100000 in
theorem big_2 (W H : Int) (al ad an ab ax af : Option Addr) (cl cd cn cb cx cf nl nd nn nb ns nf : Nat) (L D N Bb S F : Nat → Int) (w : World) (hc : Fm.FAt w (⟨W, H, nl, nd, nn, nb, ns, nf, L, D, N, Bb, S, F⟩ : Fm.Flm) (⟨al, cl, ad, cd, an, cn, ab, cb, ax, cx, af, cf⟩ : Fm.Pl)) (h0 : nl ≤ 5000) (h1 : ns ≤ 5000) (h2 : ¬ nd ≤ 5000) : Calls Tryd.prog 3 #[.agg #[.int .i64 W, .int .i64 H, .slice al nl cl, .slice ad nd cd, .slice an nn cn, .slice ab nb cb, .slice ax ns cx, .slice af nf cf]] w fun e' w' => e' = .returned (.bool true) ∧ Below w.heap.size w w' := by
  have HC := Lib.hid hc
  clear hc
  have hlt := fun w => light_n2 W H al ad an ab ax af cl cd cn cb cx cf nl nd nn nb ns nf w h0 h1 h2
  clear h0 h1 h2
  go_enter Tryd.func3, Tryd.ntmps3
  go_upto_region 1 with fail
  have hr0 := heap_alloc_last w (.cells #[.int .i64 W, .int .i64 H, .slice al nl cl, .slice ad nd cd, .slice an nn cn, .slice ab nb cb, .slice ax ns cx, .slice af nf cf] 29)
  have hb0 := Ve.below_n1 w (.cells #[.int .i64 W, .int .i64 H, .slice al nl cl, .slice ad nd cd, .slice an nn cn, .slice ab nb cb, .slice ax ns cx, .slice af nf cf] 29)
  obtain ⟨y0, hy0⟩ : ∃ y0, w.alloc (.cells #[.int .i64 W, .int .i64 H, .slice al nl cl, .slice ad nd cd, .slice an nn cn, .slice ab nb cb, .slice ax ns cx, .slice af nf cf] 29) = y0 := ⟨_, rfl⟩
  obtain ⟨p0, hp0⟩ : ∃ p, p = w.heap.size := ⟨_, rfl⟩
  rw [hy0] at hr0 hb0 ⊢
  rw [← hp0] at hr0 ⊢
  clear hy0 hp0
  have HR := Lib.hid hr0
  have HB := Lib.hid hb0
  have HAT := Lib.hid (HC.out.on hb0)
  clear hb0 hr0
  have c0 := cell_of_row _ _ 0 _ _ _ HR.out
  have c1 := cell_of_row _ _ 1 _ _ _ HR.out
  have c2 := cell_of_row _ _ 2 _ _ _ HR.out
  have c3 := cell_of_row _ _ 3 _ _ _ HR.out
  have c4 := cell_of_row _ _ 4 _ _ _ HR.out
  have c5 := cell_of_row _ _ 5 _ _ _ HR.out
  have c6 := cell_of_row _ _ 6 _ _ _ HR.out
  have c7 := cell_of_row _ _ 7 _ _ _ HR.out
  simp at c0 c1 c2 c3 c4 c5 c6 c7
  go_upto_region 2 with (go_at_call 6; refine (hlt _).mono ?_; rintro e y1 ⟨rfl, hb1⟩)
  replace HR := Lib.hid ((hb1.block _ (lt_heap HR.out)).trans HR.out)
  replace HB := Lib.hid (HB.out.trans (hb1.mono HB.out.size))
  clear hb1 c0 c1 c2 c3 c4 c5 c6 c7
  go_wp2_with (go_at_call 7; refine (awake_any _).mono ?_; rintro e y2 ⟨rfl, hb2⟩)
  go_ret
  exact ⟨rfl, HB.out.trans (hb2.mono HB.out.size)⟩

set_option maxHeartbeats 2000000 in
set_option maxRecDepth 100000 in
theorem big_3 (W H : Int) (al ad an ab ax af : Option Addr) (cl cd cn cb cx cf nl nd nn nb ns nf : Nat) (L D N Bb S F : Nat → Int) (w : World) (hc : Fm.FAt w (⟨W, H, nl, nd, nn, nb, ns, nf, L, D, N, Bb, S, F⟩ : Fm.Flm) (⟨al, cl, ad, cd, an, cn, ab, cb, ax, cx, af, cf⟩ : Fm.Pl)) (h0 : nl ≤ 5000) (h1 : ns ≤ 5000) (h2 : nd ≤ 5000) (h3 : ¬ nn ≤ 5000) : Calls Tryd.prog 3 #[.agg #[.int .i64 W, .int .i64 H, .slice al nl cl, .slice ad nd cd, .slice an nn cn, .slice ab nb cb, .slice ax ns cx, .slice af nf cf]] w fun e' w' => e' = .returned (.bool true) ∧ Below w.heap.size w w' := by
  have HC := Lib.hid hc
  clear hc
  have hlt := fun w => light_n3 W H al ad an ab ax af cl cd cn cb cx cf nl nd nn nb ns nf w h0 h1 h2 h3
  clear h0 h1 h2 h3
  go_enter Tryd.func3, Tryd.ntmps3
  go_upto_region 1 with fail
  have hr0 := heap_alloc_last w (.cells #[.int .i64 W, .int .i64 H, .slice al nl cl, .slice ad nd cd, .slice an nn cn, .slice ab nb cb, .slice ax ns cx, .slice af nf cf] 29)
  have hb0 := Ve.below_n1 w (.cells #[.int .i64 W, .int .i64 H, .slice al nl cl, .slice ad nd cd, .slice an nn cn, .slice ab nb cb, .slice ax ns cx, .slice af nf cf] 29)
  obtain ⟨y0, hy0⟩ : ∃ y0, w.alloc (.cells #[.int .i64 W, .int .i64 H, .slice al nl cl, .slice ad nd cd, .slice an nn cn, .slice ab nb cb, .slice ax ns cx, .slice af nf cf] 29) = y0 := ⟨_, rfl⟩
  obtain ⟨p0, hp0⟩ : ∃ p, p = w.heap.size := ⟨_, rfl⟩
  rw [hy0] at hr0 hb0 ⊢
  rw [← hp0] at hr0 ⊢
  clear hy0 hp0
  have HR := Lib.hid hr0
  have HB := Lib.hid hb0
  have HAT := Lib.hid (HC.out.on hb0)
  clear hb0 hr0
  have c0 := cell_of_row _ _ 0 _ _ _ HR.out
  have c1 := cell_of_row _ _ 1 _ _ _ HR.out
  have c2 := cell_of_row _ _ 2 _ _ _ HR.out
  have c3 := cell_of_row _ _ 3 _ _ _ HR.out
  have c4 := cell_of_row _ _ 4 _ _ _ HR.out
  have c5 := cell_of_row _ _ 5 _ _ _ HR.out
  have c6 := cell_of_row _ _ 6 _ _ _ HR.out
  have c7 := cell_of_row _ _ 7 _ _ _ HR.out
  simp at c0 c1 c2 c3 c4 c5 c6 c7
  go_upto_region 2 with (go_at_call 6; refine (hlt _).mono ?_; rintro e y1 ⟨rfl, hb1⟩)
  replace HR := Lib.hid ((hb1.block _ (lt_heap HR.out)).trans HR.out)
  replace HB := Lib.hid (HB.out.trans (hb1.mono HB.out.size))
  clear hb1 c0 c1 c2 c3 c4 c5 c6 c7
  go_wp2_with (go_at_call 7; refine (awake_any _).mono ?_; rintro e y2 ⟨rfl, hb2⟩)
  go_ret
  exact ⟨rfl, HB.out.trans (hb2.mono HB.out.size)⟩

set_option maxHeartbeats 16000000 in
set_option maxRecDepth 100000 in
theorem shows_A (W H : Int) (al ad an ab ax af : Option Addr) (cl cd cn cb cx cf nl nd nn nb ns nf : Nat) (L D N Bb S F : Nat → Int) (w : World) (hc : Fm.Came w (⟨W, H, nl, nd, nn, nb, ns, nf, L, D, N, Bb, S, F⟩ : Fm.Flm) (⟨al, cl, ad, cd, an, cn, ab, cb, ax, cx, af, cf⟩ : Fm.Pl)) (h0 : nl ≤ 5000) (h1 : ns ≤ 5000) (h2 : nd ≤ 5000) (h3 : nn ≤ 5000) (hS : Fm.okSh W H nl) (hF : Fm.okF (⟨W, H, nl, nd, nn, nb, ns, nf, L, D, N, Bb, S, F⟩ : Fm.Flm)) : Calls Tryd.prog 3 #[.agg #[.int .i64 W, .int .i64 H, .slice al nl cl, .slice ad nd cd, .slice an nn cn, .slice ab nb cb, .slice ax ns cx, .slice af nf cf]] w fun e' w' => e' = .returned (.bool true) ∧ Below w.heap.size w w' := by
  obtain hnn : ns = nd := by
    have e1 : (nd : Int) = W * H := hF.2.1
    have e2 : (ns : Int) = W * H := hF.2.2.2.2.1.1
    omega
  subst hnn
  have HC := Lib.hid hc.at_
  have HCM := Lib.hid hc
  have HOKS := Lib.hid hS
  have HOKF := Lib.hid hF
  have hlt := fun w => light_y W H al ad an ab ax af cl cd cn cb cx cf nl ns nn nb ns nf w h0 h1 h2 h3
  have hdr := fun w => Fm.drsheet_any W H al nl cl w
  have hdf := fun w hA => Fm.dright_any (⟨W, H, nl, ns, nn, nb, ns, nf, L, D, N, Bb, S, F⟩ : Fm.Flm) (⟨al, cl, ad, cd, an, cn, ab, cb, ax, cx, af, cf⟩ : Fm.Pl) w hA
  rw [decide_eq_true hS] at hdr
  rw [decide_eq_true hF] at hdf
  have HGS := Lib.hid (show ∀ j, 0 ≤ (fun j => Pl.shade (Pl.tone (max (L j) 0))) j ∧ (fun j => Pl.shade (Pl.tone (max (L j) 0))) j ≤ 255 from fun j => Pl.shade_bd _)
  have HGD := Lib.hid (show ∀ j, 0 ≤ (fun j => Pl.shade (near (D (j / 3)) (S (j / 3)))) j ∧ (fun j => Pl.shade (near (D (j / 3)) (S (j / 3)))) j ≤ 255 from fun j => Pl.shade_bd _)
  have HGN := Lib.hid (show ∀ j, 0 ≤ (fun j => side (N j)) j ∧ (fun j => side (N j)) j ≤ 255 from fun j => Pl.shade_bd _)
  obtain ⟨GS, hGS⟩ : ∃ G, G = fun j => Pl.shade (Pl.tone (max (L j) 0)) := ⟨_, rfl⟩
  obtain ⟨GD, hGD⟩ : ∃ G, G = fun j => Pl.shade (near (D (j / 3)) (S (j / 3))) := ⟨_, rfl⟩
  obtain ⟨GN, hGN⟩ : ∃ G, G = fun j => side (N j) := ⟨_, rfl⟩
  rw [← hGS] at HGS
  rw [← hGD] at HGD
  rw [← hGN] at HGN
  have EGS := Lib.hid hGS
  have EGD := Lib.hid hGD
  have EGN := Lib.hid hGN
  clear hc hS hF hGS hGD hGN
  go_enter Tryd.func3, Tryd.ntmps3
  go_upto_region 1 with fail
  have hr0 := heap_alloc_last w (.cells #[.int .i64 W, .int .i64 H, .slice al nl cl, .slice ad ns cd, .slice an nn cn, .slice ab nb cb, .slice ax ns cx, .slice af nf cf] 29)
  have hb0 := Ve.below_n1 w (.cells #[.int .i64 W, .int .i64 H, .slice al nl cl, .slice ad ns cd, .slice an nn cn, .slice ab nb cb, .slice ax ns cx, .slice af nf cf] 29)
  obtain ⟨y0, hy0⟩ : ∃ y0, w.alloc (.cells #[.int .i64 W, .int .i64 H, .slice al nl cl, .slice ad ns cd, .slice an nn cn, .slice ab nb cb, .slice ax ns cx, .slice af nf cf] 29) = y0 := ⟨_, rfl⟩
  obtain ⟨p0, hp0⟩ : ∃ p, p = w.heap.size := ⟨_, rfl⟩
  rw [hy0] at hr0 hb0 ⊢
  rw [← hp0] at hr0 ⊢
  clear hy0 hp0
  have HR := Lib.hid hr0
  have HB := Lib.hid hb0
  have HAT := Lib.hid (HC.out.on hb0)
  clear hb0 hr0
  have c0 := cell_of_row _ _ 0 _ _ _ HR.out
  have c1 := cell_of_row _ _ 1 _ _ _ HR.out
  have c2 := cell_of_row _ _ 2 _ _ _ HR.out
  have c3 := cell_of_row _ _ 3 _ _ _ HR.out
  have c4 := cell_of_row _ _ 4 _ _ _ HR.out
  have c5 := cell_of_row _ _ 5 _ _ _ HR.out
  have c6 := cell_of_row _ _ 6 _ _ _ HR.out
  have c7 := cell_of_row _ _ 7 _ _ _ HR.out
  simp at c0 c1 c2 c3 c4 c5 c6 c7
  go_upto_region 3 with (go_at_call 6; refine (hlt _).mono ?_; rintro e y1 ⟨rfl, hb1⟩)
  replace HR := Lib.hid ((hb1.block _ (lt_heap HR.out)).trans HR.out)
  replace HB := Lib.hid (HB.out.trans (hb1.mono HB.out.size))
  replace HAT := Lib.hid (HAT.out.on hb1)
  clear hb1 hlt
  clear c0 c1 c2 c3 c4 c5 c6 c7
  have c0 := cell_of_row _ _ 0 _ _ _ HR.out
  have c1 := cell_of_row _ _ 1 _ _ _ HR.out
  have c2 := cell_of_row _ _ 2 _ _ _ HR.out
  have c3 := cell_of_row _ _ 3 _ _ _ HR.out
  have c4 := cell_of_row _ _ 4 _ _ _ HR.out
  have c5 := cell_of_row _ _ 5 _ _ _ HR.out
  have c6 := cell_of_row _ _ 6 _ _ _ HR.out
  have c7 := cell_of_row _ _ 7 _ _ _ HR.out
  simp at c0 c1 c2 c3 c4 c5 c6 c7
  go_upto_region 4 with (go_at_call 8; refine (Fm.to_film (⟨W, H, nl, ns, nn, nb, ns, nf, L, D, N, Bb, S, F⟩ : Fm.Flm) (⟨al, cl, ad, cd, an, cn, ab, cb, ax, cx, af, cf⟩ : Fm.Pl) _ HAT.out HCM.out.bl HCM.out.bd HCM.out.bn HCM.out.bb HCM.out.bs HCM.out.bf HCM.out.ks HCM.out.kf).mono ?_; rintro e y2 ⟨⟨⟨al2, cl2, ad2, cd2, an2, cn2, ab2, cb2, ax2, cx2, af2, cf2⟩, rfl, hat⟩, hb2⟩)
  replace HR := Lib.hid ((hb2.block _ (lt_heap HR.out)).trans HR.out)
  replace HB := Lib.hid (HB.out.trans (hb2.mono HB.out.size))
  replace HAT := Lib.hid (HAT.out.on hb2)
  have HXT := Lib.hid hat
  clear hb2 hat
  clear c0 c1 c2 c3 c4 c5 c6 c7
  have hq_ := heap_alloc_last y2 (.cells #[.int .i64 W, .int .i64 H, .slice al2 nl cl2, .slice ad2 ns cd2, .slice an2 nn cn2, .slice ab2 nb cb2, .slice ax2 ns cx2, .slice af2 nf cf2] 40)
  have hb_ := Ve.below_n1 y2 (.cells #[.int .i64 W, .int .i64 H, .slice al2 nl cl2, .slice ad2 ns cd2, .slice an2 nn cn2, .slice ab2 nb cb2, .slice ax2 ns cx2, .slice af2 nf cf2] 40)
  obtain ⟨y3, hy_⟩ : ∃ y, y2.alloc (.cells #[.int .i64 W, .int .i64 H, .slice al2 nl cl2, .slice ad2 ns cd2, .slice an2 nn cn2, .slice ab2 nb cb2, .slice ax2 ns cx2, .slice af2 nf cf2] 40) = y := ⟨_, rfl⟩
  obtain ⟨py3, hp_⟩ : ∃ p, p = y2.heap.size := ⟨_, rfl⟩
  rw [hy_] at hq_ hb_ ⊢
  rw [← hp_] at hq_ ⊢
  clear hy_ hp_
  replace HR := Lib.hid ((hb_.block _ (lt_heap HR.out)).trans HR.out)
  replace HB := Lib.hid (HB.out.trans (hb_.mono HB.out.size))
  replace HAT := Lib.hid (HAT.out.on hb_)
  replace HXT := Lib.hid (HXT.out.on hb_)
  have HX := Lib.hid hq_
  clear hq_ hb_
  have c0 := cell_of_row _ _ 0 _ _ _ HX.out
  have c1 := cell_of_row _ _ 1 _ _ _ HX.out
  have c2 := cell_of_row _ _ 2 _ _ _ HX.out
  have c3 := cell_of_row _ _ 3 _ _ _ HX.out
  have c4 := cell_of_row _ _ 4 _ _ _ HX.out
  have c5 := cell_of_row _ _ 5 _ _ _ HX.out
  have c6 := cell_of_row _ _ 6 _ _ _ HX.out
  have c7 := cell_of_row _ _ 7 _ _ _ HX.out
  simp at c0 c1 c2 c3 c4 c5 c6 c7
  go_upto_region 5 with (go_at_call 9; refine (show_yes W H al2 nl cl2 L _ HOKS.out HXT.out.l h0).mono ?_; rintro e y4 ⟨v_, rfl, ho_, hb_⟩; obtain ⟨pa, pac, hv_⟩ := own_slice ho_; subst hv_; rw [← EGS.out] at ho_; have HDpa := Lib.hid (own_dt HGS.out ho_); clear ho_)
  replace HR := Lib.hid ((hb_.block _ (lt_heap HR.out)).trans HR.out)
  replace HB := Lib.hid (HB.out.trans (hb_.mono HB.out.size))
  replace HAT := Lib.hid (HAT.out.on hb_)
  replace HXT := Lib.hid (HXT.out.on hb_)
  replace HX := Lib.hid ((hb_.block _ (lt_heap HX.out)).trans HX.out)
  clear hb_
  clear c0 c1 c2 c3 c4 c5 c6 c7
  have hq_ := heap_alloc_last y4 (.cells #[.int .i64 W, .int .i64 H, .slice pa nl pac] 44)
  have hb_ := Ve.below_n1 y4 (.cells #[.int .i64 W, .int .i64 H, .slice pa nl pac] 44)
  obtain ⟨y4b, hy_⟩ : ∃ y, y4.alloc (.cells #[.int .i64 W, .int .i64 H, .slice pa nl pac] 44) = y := ⟨_, rfl⟩
  obtain ⟨py4b, hp_⟩ : ∃ p, p = y4.heap.size := ⟨_, rfl⟩
  rw [hy_] at hq_ hb_ ⊢
  rw [← hp_] at hq_ ⊢
  clear hy_ hp_
  replace HR := Lib.hid ((hb_.block _ (lt_heap HR.out)).trans HR.out)
  replace HB := Lib.hid (HB.out.trans (hb_.mono HB.out.size))
  replace HAT := Lib.hid (HAT.out.on hb_)
  replace HXT := Lib.hid (HXT.out.on hb_)
  replace HX := Lib.hid ((hb_.block _ (lt_heap HX.out)).trans HX.out)
  replace HDpa := Lib.hid (HDpa.out.on hb_)
  have HPA := Lib.hid hq_
  clear hq_ hb_
  have c0 := cell_of_row _ _ 0 _ _ _ HX.out
  have c1 := cell_of_row _ _ 1 _ _ _ HX.out
  have c2 := cell_of_row _ _ 2 _ _ _ HX.out
  have c3 := cell_of_row _ _ 3 _ _ _ HX.out
  have c4 := cell_of_row _ _ 4 _ _ _ HX.out
  have c5 := cell_of_row _ _ 5 _ _ _ HX.out
  have c6 := cell_of_row _ _ 6 _ _ _ HX.out
  have c7 := cell_of_row _ _ 7 _ _ _ HX.out
  simp at c0 c1 c2 c3 c4 c5 c6 c7
  go_upto_region 6 with (go_at_call 10; refine (depths_yes W H al2 ad2 an2 ab2 ax2 af2 cl2 cd2 cn2 cb2 cx2 cf2 nl ns nn nb nf L D N Bb S F _ HXT.out HOKF.out h2).mono ?_; rintro e y5 ⟨v_, rfl, ho_, hb_⟩; obtain ⟨pb, pbc, hv_⟩ := own_slice ho_; subst hv_; rw [← EGD.out] at ho_; have HDpb := Lib.hid (own_dt HGD.out ho_); clear ho_)
  replace HR := Lib.hid ((hb_.block _ (lt_heap HR.out)).trans HR.out)
  replace HB := Lib.hid (HB.out.trans (hb_.mono HB.out.size))
  replace HAT := Lib.hid (HAT.out.on hb_)
  replace HXT := Lib.hid (HXT.out.on hb_)
  replace HX := Lib.hid ((hb_.block _ (lt_heap HX.out)).trans HX.out)
  replace HDpa := Lib.hid (HDpa.out.on hb_)
  replace HPA := Lib.hid ((hb_.block _ (lt_heap HPA.out)).trans HPA.out)
  clear hb_
  clear c0 c1 c2 c3 c4 c5 c6 c7
  have hq_ := heap_alloc_last y5 (.cells #[.int .i64 W, .int .i64 H, .slice pb ns pbc] 44)
  have hb_ := Ve.below_n1 y5 (.cells #[.int .i64 W, .int .i64 H, .slice pb ns pbc] 44)
  obtain ⟨y5b, hy_⟩ : ∃ y, y5.alloc (.cells #[.int .i64 W, .int .i64 H, .slice pb ns pbc] 44) = y := ⟨_, rfl⟩
  obtain ⟨py5b, hp_⟩ : ∃ p, p = y5.heap.size := ⟨_, rfl⟩
  rw [hy_] at hq_ hb_ ⊢
  rw [← hp_] at hq_ ⊢
  clear hy_ hp_
  replace HR := Lib.hid ((hb_.block _ (lt_heap HR.out)).trans HR.out)
  replace HB := Lib.hid (HB.out.trans (hb_.mono HB.out.size))
  replace HAT := Lib.hid (HAT.out.on hb_)
  replace HXT := Lib.hid (HXT.out.on hb_)
  replace HX := Lib.hid ((hb_.block _ (lt_heap HX.out)).trans HX.out)
  replace HDpa := Lib.hid (HDpa.out.on hb_)
  replace HPA := Lib.hid ((hb_.block _ (lt_heap HPA.out)).trans HPA.out)
  replace HDpb := Lib.hid (HDpb.out.on hb_)
  have HPB := Lib.hid hq_
  clear hq_ hb_
  have c0 := cell_of_row _ _ 0 _ _ _ HX.out
  have c1 := cell_of_row _ _ 1 _ _ _ HX.out
  have c2 := cell_of_row _ _ 2 _ _ _ HX.out
  have c3 := cell_of_row _ _ 3 _ _ _ HX.out
  have c4 := cell_of_row _ _ 4 _ _ _ HX.out
  have c5 := cell_of_row _ _ 5 _ _ _ HX.out
  have c6 := cell_of_row _ _ 6 _ _ _ HX.out
  have c7 := cell_of_row _ _ 7 _ _ _ HX.out
  simp at c0 c1 c2 c3 c4 c5 c6 c7
  go_upto_region 7 with (go_at_call 11; refine (normals_yes W H al2 ad2 an2 ab2 ax2 af2 cl2 cd2 cn2 cb2 cx2 cf2 nl ns nn nb ns nf L D N Bb S F _ HXT.out HOKF.out h3).mono ?_; rintro e y6 ⟨v_, rfl, ho_, hb_⟩; obtain ⟨pc, pcc, hv_⟩ := own_slice ho_; subst hv_; rw [← EGN.out] at ho_; have HDpc := Lib.hid (own_dt HGN.out ho_); clear ho_)
  replace HR := Lib.hid ((hb_.block _ (lt_heap HR.out)).trans HR.out)
  replace HB := Lib.hid (HB.out.trans (hb_.mono HB.out.size))
  replace HAT := Lib.hid (HAT.out.on hb_)
  replace HXT := Lib.hid (HXT.out.on hb_)
  replace HX := Lib.hid ((hb_.block _ (lt_heap HX.out)).trans HX.out)
  replace HDpa := Lib.hid (HDpa.out.on hb_)
  replace HPA := Lib.hid ((hb_.block _ (lt_heap HPA.out)).trans HPA.out)
  replace HDpb := Lib.hid (HDpb.out.on hb_)
  replace HPB := Lib.hid ((hb_.block _ (lt_heap HPB.out)).trans HPB.out)
  clear hb_
  clear c0 c1 c2 c3 c4 c5 c6 c7
  have hq_ := heap_alloc_last y6 (.cells #[.int .i64 W, .int .i64 H, .slice pc nn pcc] 44)
  have hb_ := Ve.below_n1 y6 (.cells #[.int .i64 W, .int .i64 H, .slice pc nn pcc] 44)
  obtain ⟨y6b, hy_⟩ : ∃ y, y6.alloc (.cells #[.int .i64 W, .int .i64 H, .slice pc nn pcc] 44) = y := ⟨_, rfl⟩
  obtain ⟨py6b, hp_⟩ : ∃ p, p = y6.heap.size := ⟨_, rfl⟩
  rw [hy_] at hq_ hb_ ⊢
  rw [← hp_] at hq_ ⊢
  clear hy_ hp_
  replace HR := Lib.hid ((hb_.block _ (lt_heap HR.out)).trans HR.out)
  replace HB := Lib.hid (HB.out.trans (hb_.mono HB.out.size))
  replace HAT := Lib.hid (HAT.out.on hb_)
  replace HXT := Lib.hid (HXT.out.on hb_)
  replace HX := Lib.hid ((hb_.block _ (lt_heap HX.out)).trans HX.out)
  replace HDpa := Lib.hid (HDpa.out.on hb_)
  replace HPA := Lib.hid ((hb_.block _ (lt_heap HPA.out)).trans HPA.out)
  replace HDpb := Lib.hid (HDpb.out.on hb_)
  replace HPB := Lib.hid ((hb_.block _ (lt_heap HPB.out)).trans HPB.out)
  replace HDpc := Lib.hid (HDpc.out.on hb_)
  have HPC := Lib.hid hq_
  clear hq_ hb_
  have c0 := cell_of_row _ _ 0 _ _ _ HR.out
  have c1 := cell_of_row _ _ 1 _ _ _ HR.out
  have c2 := cell_of_row _ _ 2 _ _ _ HR.out
  have c3 := cell_of_row _ _ 3 _ _ _ HR.out
  have c4 := cell_of_row _ _ 4 _ _ _ HR.out
  have c5 := cell_of_row _ _ 5 _ _ _ HR.out
  have c6 := cell_of_row _ _ 6 _ _ _ HR.out
  have c7 := cell_of_row _ _ 7 _ _ _ HR.out
  simp at c0 c1 c2 c3 c4 c5 c6 c7
  go_upto_region 9 with (first | (go_at_call 12; refine (hdr _).mono ?_; rintro e z_ ⟨rfl, hz_⟩; replace HR := Lib.hid ((hz_.block _ (lt_heap HR.out)).trans HR.out); replace HB := Lib.hid (HB.out.trans (hz_.mono HB.out.size)); replace HAT := Lib.hid (HAT.out.on hz_); replace HXT := Lib.hid (HXT.out.on hz_); replace HX := Lib.hid ((hz_.block _ (lt_heap HX.out)).trans HX.out); replace HDpa := Lib.hid (HDpa.out.on hz_); replace HPA := Lib.hid ((hz_.block _ (lt_heap HPA.out)).trans HPA.out); replace HDpb := Lib.hid (HDpb.out.on hz_); replace HPB := Lib.hid ((hz_.block _ (lt_heap HPB.out)).trans HPB.out); replace HDpc := Lib.hid (HDpc.out.on hz_); replace HPC := Lib.hid ((hz_.block _ (lt_heap HPC.out)).trans HPC.out); clear hz_ c0 c1 c2 c3 c4 c5 c6 c7; have c0 := cell_of_row _ _ 0 _ _ _ HR.out; have c1 := cell_of_row _ _ 1 _ _ _ HR.out; have c2 := cell_of_row _ _ 2 _ _ _ HR.out; have c3 := cell_of_row _ _ 3 _ _ _ HR.out; have c4 := cell_of_row _ _ 4 _ _ _ HR.out; have c5 := cell_of_row _ _ 5 _ _ _ HR.out; have c6 := cell_of_row _ _ 6 _ _ _ HR.out; have c7 := cell_of_row _ _ 7 _ _ _ HR.out; simp at c0 c1 c2 c3 c4 c5 c6 c7) | (go_at_call 13; refine (hdf _ HAT.out).mono ?_; rintro e z_ ⟨rfl, hz_⟩; replace HR := Lib.hid ((hz_.block _ (lt_heap HR.out)).trans HR.out); replace HB := Lib.hid (HB.out.trans (hz_.mono HB.out.size)); replace HAT := Lib.hid (HAT.out.on hz_); replace HXT := Lib.hid (HXT.out.on hz_); replace HX := Lib.hid ((hz_.block _ (lt_heap HX.out)).trans HX.out); replace HDpa := Lib.hid (HDpa.out.on hz_); replace HPA := Lib.hid ((hz_.block _ (lt_heap HPA.out)).trans HPA.out); replace HDpb := Lib.hid (HDpb.out.on hz_); replace HPB := Lib.hid ((hz_.block _ (lt_heap HPB.out)).trans HPB.out); replace HDpc := Lib.hid (HDpc.out.on hz_); replace HPC := Lib.hid ((hz_.block _ (lt_heap HPC.out)).trans HPC.out); clear hz_ c0 c1 c2 c3 c4 c5 c6 c7; have c0 := cell_of_row _ _ 0 _ _ _ HR.out; have c1 := cell_of_row _ _ 1 _ _ _ HR.out; have c2 := cell_of_row _ _ 2 _ _ _ HR.out; have c3 := cell_of_row _ _ 3 _ _ _ HR.out; have c4 := cell_of_row _ _ 4 _ _ _ HR.out; have c5 := cell_of_row _ _ 5 _ _ _ HR.out; have c6 := cell_of_row _ _ 6 _ _ _ HR.out; have c7 := cell_of_row _ _ 7 _ _ _ HR.out; simp at c0 c1 c2 c3 c4 c5 c6 c7))
  clear c0 c1 c2 c3 c4 c5 c6 c7
  obtain ⟨yA, hyA⟩ : ∃ y : World, y = z_ := ⟨_, rfl⟩
  rw [← hyA] at HR HB HAT HXT HX HDpa HPA HDpb HPB HDpc HPC ⊢
  clear hyA
  have hpr := fun w => pright_any W H pa nl pac w
  rw [decide_eq_true HOKS.out] at hpr
  have hS00 : Below yA.heap.size yA yA.drew := (Below.refl _ yA).drew
  refine wp_region_held_drew (S := Below yA.heap.size yA) (by kernel_rfl) (hS00) (fun hS0 => ?_)
  refine wpAnyH_take (i := 0) (v := ?_) rfl (by kernel_rfl) (by kernel_rfl) (by kernel_rfl) (fun _ _ _ h => h) (Or.inl ⟨by kernel_rfl, by (intro wz hSz; go_simp; try with_reducible rfl)⟩) hS0 ?_
  go_simp
  refine wpAnyH_take (i := 1) (v := ?_) rfl (by kernel_rfl) (by kernel_rfl) (by kernel_rfl) (fun _ _ _ h => h) (Or.inl ⟨by kernel_rfl, by (intro wz hSz; go_simp; try with_reducible rfl)⟩) hS0 ?_
  go_simp
  refine wpAnyH_take (i := 2) (v := ?_) rfl (by kernel_rfl) (by kernel_rfl) (by kernel_rfl) (fun _ _ _ h => h) (Or.inl ⟨by kernel_rfl, by (intro wz hSz; go_simp; try with_reducible rfl)⟩) hS0 ?_
  go_simp
  refine wpAnyH_take (i := 3) (v := undef) rfl (by kernel_rfl) (by kernel_rfl) (by kernel_rfl) (fun _ _ _ h => h) (Or.inr ⟨by kernel_rfl, rfl⟩) hS0 ?_
  go_simp
  refine wpAnyH_take (i := 4) (v := undef) rfl (by kernel_rfl) (by kernel_rfl) (by kernel_rfl) (fun _ _ _ h => h) (Or.inr ⟨by kernel_rfl, rfl⟩) hS0 ?_
  go_simp
  refine wpAnyH_take (i := 5) (v := undef) rfl (by kernel_rfl) (by kernel_rfl) (by kernel_rfl) (fun _ _ _ h => h) (Or.inr ⟨by kernel_rfl, rfl⟩) hS0 ?_
  go_simp
  refine wpAnyH_take (i := 6) (v := undef) rfl (by kernel_rfl) (by kernel_rfl) (by kernel_rfl) (fun _ _ _ h => h) (Or.inr ⟨by kernel_rfl, rfl⟩) hS0 ?_
  go_simp
  refine wpAnyH_take (i := 7) (v := undef) rfl (by kernel_rfl) (by kernel_rfl) (by kernel_rfl) (fun _ _ _ h => h) (Or.inr ⟨by kernel_rfl, rfl⟩) hS0 ?_
  go_simp
  refine wpAnyH_take (i := 8) (v := undef) rfl (by kernel_rfl) (by kernel_rfl) (by kernel_rfl) (fun _ _ _ h => h) (Or.inr ⟨by kernel_rfl, rfl⟩) hS0 ?_
  go_simp
  refine wpAnyH_take (i := 9) (v := undef) rfl (by kernel_rfl) (by kernel_rfl) (by kernel_rfl) (fun _ _ _ h => h) (Or.inr ⟨by kernel_rfl, rfl⟩) hS0 ?_
  go_simp
  refine wpAnyH_take (i := 10) (v := undef) rfl (by kernel_rfl) (by kernel_rfl) (by kernel_rfl) (fun _ _ _ h => h) (Or.inr ⟨by kernel_rfl, rfl⟩) hS0 ?_
  go_simp
  refine wpAnyH_take (i := 11) (v := ?_) rfl (by kernel_rfl) (by kernel_rfl) (by kernel_rfl) (fun _ _ _ h => h) (Or.inl ⟨by kernel_rfl, by (intro wz hSz; go_simp; try with_reducible rfl)⟩) hS0 ?_
  go_simp
  refine wpAnyH_take (i := 12) (v := ?_) rfl (by kernel_rfl) (by kernel_rfl) (by kernel_rfl) (fun _ _ _ h => h) (Or.inl ⟨by kernel_rfl, by (intro wz hSz; go_simp; try with_reducible rfl)⟩) hS0 ?_
  go_simp
  refine wpAnyH_take (i := 13) (v := ?_) rfl (by kernel_rfl) (by kernel_rfl) (by kernel_rfl) (fun _ _ _ h => h) (Or.inl ⟨by kernel_rfl, by (intro wz hSz; go_simp; try with_reducible rfl)⟩) hS0 ?_
  go_simp
  refine wpAnyH_take (i := 14) (v := ?_) rfl (by kernel_rfl) (by kernel_rfl) (by kernel_rfl) (fun _ _ _ h => h) (Or.inl ⟨by kernel_rfl, by (intro wz hSz; go_simp; try with_reducible rfl)⟩) hS0 ?_
  go_simp
  refine wpAnyH_take (i := 15) (v := ?_) rfl (by kernel_rfl) (by kernel_rfl) (by kernel_rfl) (fun _ _ _ h => h) (Or.inl ⟨by kernel_rfl, by (intro wz hSz; go_simp; try with_reducible rfl)⟩) hS0 ?_
  go_simp
  refine wpAnyH_take (i := 16) (v := ?_) rfl (by kernel_rfl) (by kernel_rfl) (by kernel_rfl) (fun _ _ _ h => h) (Or.inl ⟨by kernel_rfl, by (intro wz hSz; have hc_ := (hSz.block _ (lt_heap HPA.out)).trans HPA.out; have cq0 := cell_of_row _ _ 0 _ _ _ hc_; have cq1 := cell_of_row _ _ 1 _ _ _ hc_; have cq2 := cell_of_row _ _ 2 _ _ _ hc_; simp at cq0 cq1 cq2; go_simp; try with_reducible rfl)⟩) hS0 ?_
  go_simp
  refine wpAnyH_take (i := 18) (v := ?_) rfl (by kernel_rfl) (by kernel_rfl) (by kernel_rfl) (fun _ _ _ h => h) (Or.inl ⟨by kernel_rfl, by (intro wz hSz; go_simp; try with_reducible rfl)⟩) hS0 ?_
  go_simp
  refine wpAnyH_take (i := 19) (v := ?_) rfl (by kernel_rfl) (by kernel_rfl) (by kernel_rfl) (fun _ _ _ h => h) (Or.inl ⟨by kernel_rfl, by (intro wz hSz; have hc_ := (hSz.block _ (lt_heap HR.out)).trans HR.out; have cq0 := cell_of_row _ _ 0 _ _ _ hc_; have cq1 := cell_of_row _ _ 1 _ _ _ hc_; have cq2 := cell_of_row _ _ 2 _ _ _ hc_; have cq3 := cell_of_row _ _ 3 _ _ _ hc_; have cq4 := cell_of_row _ _ 4 _ _ _ hc_; have cq5 := cell_of_row _ _ 5 _ _ _ hc_; have cq6 := cell_of_row _ _ 6 _ _ _ hc_; have cq7 := cell_of_row _ _ 7 _ _ _ hc_; simp at cq0 cq1 cq2 cq3 cq4 cq5 cq6 cq7; go_simp; try with_reducible rfl)⟩) hS0 ?_
  go_simp
  refine wpAnyH_ready (rs := [17]) (by kernel_rfl) (by simp) ?_
  refine AllReadyH.cons rfl (fun K hK => ?_) AllReadyH.nil
  go_simp
  go_wp2_with (go_at_call 15; refine (from_any W H pa nl pac _).mono ?_; rintro e z1 ⟨rfl, hb1⟩)
  have hS1_ := hS0.trans (hb1.mono hS0.size)
  clear hb1
  refine hK.out _ _ (hS1_) (fun hS1 => ?_)
  clear hK K
  refine wpAnyH_ready (rs := [20]) (by kernel_rfl) (by simp) ?_
  refine AllReadyH.cons rfl (fun K hK => ?_) AllReadyH.nil
  go_simp
  go_wp2_with (go_at_call 16; refine (rshow_sheet W H al nl cl L _ (HAT.out.l.on hS1) h0).mono ?_; rintro e z2 ⟨⟨v2, rfl, ho2⟩, hb2⟩)
  obtain ⟨ar2, cr2, hv2⟩ := own_slice ho2
  subst hv2
  rw [← EGS.out] at ho2
  have HY2 := Lib.hid (own_dt HGS.out ho2)
  have hS2_ := hS1.trans (hb2.mono hS1.size)
  clear hb2 ho2
  refine hK.out _ _ (hS2_) (fun hS2 => ?_)
  clear hK K
  refine wpAnyH_ready (rs := [21]) (by kernel_rfl) (by simp) ?_
  refine AllReadyH.cons rfl (fun K hK => ?_) AllReadyH.nil
  go_simp
  go_wp2_with (go_at_call 14; refine (same_any W H nl pa ar2 pac cr2 (dl GS nl) _ (HDpa.out.on hS2) HY2.out (by omega)).mono ?_; rintro e z3 ⟨rfl, hb3⟩)
  have hS3_ := hS2.trans (hb3.mono hS2.size)
  clear hb3
  refine hK.out _ _ (hS3_) (fun hS3 => ?_)
  clear hK K
  refine wpAnyH_take (i := 22) (v := ?_) rfl (by kernel_rfl) (by kernel_rfl) (by kernel_rfl) (fun _ _ _ h => h) (Or.inl ⟨by kernel_rfl, by (intro wz hSz; go_simp; try with_reducible rfl)⟩) hS3 ?_
  go_simp
  refine wpAnyH_take (i := 23) (v := ?_) rfl (by kernel_rfl) (by kernel_rfl) (by kernel_rfl) (fun _ _ _ h => h) (Or.inl ⟨by kernel_rfl, by (intro wz hSz; go_simp; try with_reducible rfl)⟩) hS3 ?_
  go_simp
  refine wpAnyH_take (i := 24) (v := ?_) rfl (by kernel_rfl) (by kernel_rfl) (by kernel_rfl) (fun _ _ _ h => h) (Or.inl ⟨by kernel_rfl, by (intro wz hSz; have hc_ := (hSz.block _ (lt_heap HPA.out)).trans HPA.out; have cq0 := cell_of_row _ _ 0 _ _ _ hc_; have cq1 := cell_of_row _ _ 1 _ _ _ hc_; have cq2 := cell_of_row _ _ 2 _ _ _ hc_; simp at cq0 cq1 cq2; go_simp; try with_reducible rfl)⟩) hS3 ?_
  go_simp
  refine wpAnyH_ready (rs := [25]) (by kernel_rfl) (by simp) ?_
  refine AllReadyH.cons rfl (fun K hK => ?_) AllReadyH.nil
  go_simp
  go_wp2_with (go_at_call 17; refine (hpr _).mono ?_; rintro e z4 ⟨rfl, hb4⟩)
  have hS4_ := hS3.trans (hb4.mono hS3.size)
  clear hb4
  refine hK.out _ _ (hS4_) (fun hS4 => ?_)
  clear hK K
  refine wpAnyH_take (i := 26) (v := ?_) rfl (by kernel_rfl) (by kernel_rfl) (by kernel_rfl) (fun _ _ _ h => h) (Or.inl ⟨by kernel_rfl, by (intro wz hSz; go_simp; try with_reducible rfl)⟩) hS4 ?_
  go_simp
  refine wpAnyH_take (i := 27) (v := ?_) rfl (by kernel_rfl) (by kernel_rfl) (by kernel_rfl) (fun _ _ _ h => h) (Or.inl ⟨by kernel_rfl, by (intro wz hSz; go_simp; try with_reducible rfl)⟩) hS4 ?_
  go_simp
  refine wpAnyH_take (i := 28) (v := ?_) rfl (by kernel_rfl) (by kernel_rfl) (by kernel_rfl) (fun _ _ _ h => h) (Or.inl ⟨by kernel_rfl, by (intro wz hSz; go_simp; try with_reducible rfl)⟩) hS4 ?_
  go_simp
  refine wpAnyH_take (i := 29) (v := ?_) rfl (by kernel_rfl) (by kernel_rfl) (by kernel_rfl) (fun _ _ _ h => h) (Or.inl ⟨by kernel_rfl, by (intro wz hSz; go_simp; try with_reducible rfl)⟩) hS4 ?_
  go_simp
  refine wpAnyH_done (by kernel_rfl) ?_ _
  obtain ⟨yB, hyB⟩ : ∃ y : World, z4 = y := ⟨_, rfl⟩
  rw [hyB] at hS4 ⊢
  replace HR := Lib.hid ((hS4.block _ (lt_heap HR.out)).trans HR.out)
  replace HB := Lib.hid (HB.out.trans (hS4.mono HB.out.size))
  replace HAT := Lib.hid (HAT.out.on hS4)
  replace HXT := Lib.hid (HXT.out.on hS4)
  replace HX := Lib.hid ((hS4.block _ (lt_heap HX.out)).trans HX.out)
  replace HDpa := Lib.hid (HDpa.out.on hS4)
  replace HPA := Lib.hid ((hS4.block _ (lt_heap HPA.out)).trans HPA.out)
  replace HDpb := Lib.hid (HDpb.out.on hS4)
  replace HPB := Lib.hid ((hS4.block _ (lt_heap HPB.out)).trans HPB.out)
  replace HDpc := Lib.hid (HDpc.out.on hS4)
  replace HPC := Lib.hid ((hS4.block _ (lt_heap HPC.out)).trans HPC.out)
  clear hyB
  go_upto_region 11 with fail
  have hT00 : Below yB.heap.size yB yB.drew := (Below.refl _ yB).drew
  refine wp_region_held_drew (S := Below yB.heap.size yB) (by kernel_rfl) (hT00) (fun hS0 => ?_)
  refine wpAnyH_ready (rs := [0]) (by kernel_rfl) (by simp) ?_
  refine AllReadyH.cons rfl (fun K hK => ?_) AllReadyH.nil
  go_simp
  go_wp2_with (go_at_call 7; refine (awake_any _).mono ?_; rintro e z20 ⟨rfl, hb20⟩)
  have hS20_ := hS0.trans (hb20.mono hS0.size)
  clear hb20
  refine hK.out _ _ (hS20_) (fun hS20 => ?_)
  clear hK K
  refine wpAnyH_take (i := 1) (v := ?_) rfl (by kernel_rfl) (by kernel_rfl) (by kernel_rfl) (fun _ _ _ h => h) (Or.inl ⟨by kernel_rfl, by (intro wz hSz; go_simp; try with_reducible rfl)⟩) hS20 ?_
  go_simp
  refine wpAnyH_take (i := 2) (v := ?_) rfl (by kernel_rfl) (by kernel_rfl) (by kernel_rfl) (fun _ _ _ h => h) (Or.inl ⟨by kernel_rfl, by (intro wz hSz; go_simp; try with_reducible rfl)⟩) hS20 ?_
  go_simp
  refine wpAnyH_take (i := 3) (v := ?_) rfl (by kernel_rfl) (by kernel_rfl) (by kernel_rfl) (fun _ _ _ h => h) (Or.inl ⟨by kernel_rfl, by (intro wz hSz; go_simp; try with_reducible rfl)⟩) hS20 ?_
  go_simp
  refine wpAnyH_take (i := 4) (v := ?_) rfl (by kernel_rfl) (by kernel_rfl) (by kernel_rfl) (fun _ _ _ h => h) (Or.inl ⟨by kernel_rfl, by (intro wz hSz; go_simp; try with_reducible rfl)⟩) hS20 ?_
  go_simp
  refine wpAnyH_take (i := 5) (v := ?_) rfl (by kernel_rfl) (by kernel_rfl) (by kernel_rfl) (fun _ _ _ h => h) (Or.inl ⟨by kernel_rfl, by (intro wz hSz; have hc_ := (hSz.block _ (lt_heap HPB.out)).trans HPB.out; have cq0 := cell_of_row _ _ 0 _ _ _ hc_; have cq1 := cell_of_row _ _ 1 _ _ _ hc_; have cq2 := cell_of_row _ _ 2 _ _ _ hc_; simp at cq0 cq1 cq2; go_simp; try with_reducible rfl)⟩) hS20 ?_
  go_simp
  refine wpAnyH_take (i := 7) (v := ?_) rfl (by kernel_rfl) (by kernel_rfl) (by kernel_rfl) (fun _ _ _ h => h) (Or.inl ⟨by kernel_rfl, by (intro wz hSz; have hc_ := (hSz.block _ (lt_heap HR.out)).trans HR.out; have cq0 := cell_of_row _ _ 0 _ _ _ hc_; have cq1 := cell_of_row _ _ 1 _ _ _ hc_; have cq2 := cell_of_row _ _ 2 _ _ _ hc_; have cq3 := cell_of_row _ _ 3 _ _ _ hc_; have cq4 := cell_of_row _ _ 4 _ _ _ hc_; have cq5 := cell_of_row _ _ 5 _ _ _ hc_; have cq6 := cell_of_row _ _ 6 _ _ _ hc_; have cq7 := cell_of_row _ _ 7 _ _ _ hc_; simp at cq0 cq1 cq2 cq3 cq4 cq5 cq6 cq7; go_simp; try with_reducible rfl)⟩) hS20 ?_
  go_simp
  refine wpAnyH_ready (rs := [6]) (by kernel_rfl) (by simp) ?_
  refine AllReadyH.cons rfl (fun K hK => ?_) AllReadyH.nil
  go_simp
  go_wp2_with (go_at_call 15; refine (from_any W H pb ns pbc _).mono ?_; rintro e z21 ⟨rfl, hb21⟩)
  have hS21_ := hS20.trans (hb21.mono hS20.size)
  clear hb21
  refine hK.out _ _ (hS21_) (fun hS21 => ?_)
  clear hK K
  refine wpAnyH_ready (rs := [8]) (by kernel_rfl) (by simp) ?_
  refine AllReadyH.cons rfl (fun K hK => ?_) AllReadyH.nil
  go_simp
  go_wp2_with (go_at_call 18; refine (rdepths_any W H al ad an ab ax af nl ns nn nb nf cl cd cn cb cx cf D S _ (HAT.out.d.on hS21) (HAT.out.s.on hS21) h2).mono ?_; rintro e z22 ⟨⟨v22, rfl, ho22⟩, hb22⟩)
  obtain ⟨ar22, cr22, hv22⟩ := own_slice ho22
  subst hv22
  rw [← EGD.out] at ho22
  have HY22 := Lib.hid (own_dt HGD.out ho22)
  have hS22_ := hS21.trans (hb22.mono hS21.size)
  clear hb22 ho22
  refine hK.out _ _ (hS22_) (fun hS22 => ?_)
  clear hK K
  refine wpAnyH_ready (rs := [9]) (by kernel_rfl) (by simp) ?_
  refine AllReadyH.cons rfl (fun K hK => ?_) AllReadyH.nil
  go_simp
  go_wp2_with (go_at_call 14; refine (same_any W H ns pb ar22 pbc cr22 (dl GD ns) _ (HDpb.out.on hS22) HY22.out (by omega)).mono ?_; rintro e z23 ⟨rfl, hb23⟩)
  have hS23_ := hS22.trans (hb23.mono hS22.size)
  clear hb23
  refine hK.out _ _ (hS23_) (fun hS23 => ?_)
  clear hK K
  refine wpAnyH_take (i := 10) (v := ?_) rfl (by kernel_rfl) (by kernel_rfl) (by kernel_rfl) (fun _ _ _ h => h) (Or.inl ⟨by kernel_rfl, by (intro wz hSz; go_simp; try with_reducible rfl)⟩) hS23 ?_
  go_simp
  refine wpAnyH_take (i := 11) (v := ?_) rfl (by kernel_rfl) (by kernel_rfl) (by kernel_rfl) (fun _ _ _ h => h) (Or.inl ⟨by kernel_rfl, by (intro wz hSz; have hc_ := (hSz.block _ (lt_heap HPC.out)).trans HPC.out; have cq0 := cell_of_row _ _ 0 _ _ _ hc_; have cq1 := cell_of_row _ _ 1 _ _ _ hc_; have cq2 := cell_of_row _ _ 2 _ _ _ hc_; simp at cq0 cq1 cq2; go_simp; try with_reducible rfl)⟩) hS23 ?_
  go_simp
  refine wpAnyH_take (i := 13) (v := ?_) rfl (by kernel_rfl) (by kernel_rfl) (by kernel_rfl) (fun _ _ _ h => h) (Or.inl ⟨by kernel_rfl, by (intro wz hSz; have hc_ := (hSz.block _ (lt_heap HR.out)).trans HR.out; have cq0 := cell_of_row _ _ 0 _ _ _ hc_; have cq1 := cell_of_row _ _ 1 _ _ _ hc_; have cq2 := cell_of_row _ _ 2 _ _ _ hc_; have cq3 := cell_of_row _ _ 3 _ _ _ hc_; have cq4 := cell_of_row _ _ 4 _ _ _ hc_; have cq5 := cell_of_row _ _ 5 _ _ _ hc_; have cq6 := cell_of_row _ _ 6 _ _ _ hc_; have cq7 := cell_of_row _ _ 7 _ _ _ hc_; simp at cq0 cq1 cq2 cq3 cq4 cq5 cq6 cq7; go_simp; try with_reducible rfl)⟩) hS23 ?_
  go_simp
  refine wpAnyH_ready (rs := [12]) (by kernel_rfl) (by simp) ?_
  refine AllReadyH.cons rfl (fun K hK => ?_) AllReadyH.nil
  go_simp
  go_wp2_with (go_at_call 15; refine (from_any W H pc nn pcc _).mono ?_; rintro e z24 ⟨rfl, hb24⟩)
  have hS24_ := hS23.trans (hb24.mono hS23.size)
  clear hb24
  refine hK.out _ _ (hS24_) (fun hS24 => ?_)
  clear hK K
  refine wpAnyH_ready (rs := [14]) (by kernel_rfl) (by simp) ?_
  refine AllReadyH.cons rfl (fun K hK => ?_) AllReadyH.nil
  go_simp
  go_wp2_with (go_at_call 19; refine (rnormals_any W H al ad an ab ax af nl ns nn nb ns nf cl cd cn cb cx cf N _ (HAT.out.n.on hS24) h3).mono ?_; rintro e z25 ⟨⟨v25, rfl, ho25⟩, hb25⟩)
  obtain ⟨ar25, cr25, hv25⟩ := own_slice ho25
  subst hv25
  rw [← EGN.out] at ho25
  have HY25 := Lib.hid (own_dt HGN.out ho25)
  have hS25_ := hS24.trans (hb25.mono hS24.size)
  clear hb25 ho25
  refine hK.out _ _ (hS25_) (fun hS25 => ?_)
  clear hK K
  refine wpAnyH_ready (rs := [15]) (by kernel_rfl) (by simp) ?_
  refine AllReadyH.cons rfl (fun K hK => ?_) AllReadyH.nil
  go_simp
  go_wp2_with (go_at_call 14; refine (same_any W H nn pc ar25 pcc cr25 (dl GN nn) _ (HDpc.out.on hS25) HY25.out (by omega)).mono ?_; rintro e z26 ⟨rfl, hb26⟩)
  have hS26_ := hS25.trans (hb26.mono hS25.size)
  clear hb26
  refine hK.out _ _ (hS26_) (fun hS26 => ?_)
  clear hK K
  refine wpAnyH_take (i := 16) (v := ?_) rfl (by kernel_rfl) (by kernel_rfl) (by kernel_rfl) (fun _ _ _ h => h) (Or.inl ⟨by kernel_rfl, by (intro wz hSz; go_simp; try with_reducible rfl)⟩) hS26 ?_
  go_simp
  refine wpAnyH_take (i := 17) (v := ?_) rfl (by kernel_rfl) (by kernel_rfl) (by kernel_rfl) (fun _ _ _ h => h) (Or.inl ⟨by kernel_rfl, by (intro wz hSz; go_simp; try with_reducible rfl)⟩) hS26 ?_
  go_simp
  refine wpAnyH_take (i := 18) (v := ?_) rfl (by kernel_rfl) (by kernel_rfl) (by kernel_rfl) (fun _ _ _ h => h) (Or.inl ⟨by kernel_rfl, by (intro wz hSz; go_simp; try with_reducible rfl)⟩) hS26 ?_
  go_simp
  refine wpAnyH_take (i := 19) (v := ?_) rfl (by kernel_rfl) (by kernel_rfl) (by kernel_rfl) (fun _ _ _ h => h) (Or.inl ⟨by kernel_rfl, by (intro wz hSz; go_simp; try with_reducible rfl)⟩) hS26 ?_
  go_simp
  refine wpAnyH_done (by kernel_rfl) ?_ _
  go_wp2
  go_ret
  exact ⟨rfl, HB.out.trans (hS26.mono HB.out.size)⟩

set_option maxHeartbeats 16000000 in
set_option maxRecDepth 100000 in
theorem shows_B (W H : Int) (al ad an ab ax af : Option Addr) (cl cd cn cb cx cf nl nd nn nb ns nf : Nat) (L D N Bb S F : Nat → Int) (w : World) (hc : Fm.Came w (⟨W, H, nl, nd, nn, nb, ns, nf, L, D, N, Bb, S, F⟩ : Fm.Flm) (⟨al, cl, ad, cd, an, cn, ab, cb, ax, cx, af, cf⟩ : Fm.Pl)) (h0 : nl ≤ 5000) (h1 : ns ≤ 5000) (h2 : nd ≤ 5000) (h3 : nn ≤ 5000) (hS : Fm.okSh W H nl) (hF : ¬ Fm.okF (⟨W, H, nl, nd, nn, nb, ns, nf, L, D, N, Bb, S, F⟩ : Fm.Flm)) : Calls Tryd.prog 3 #[.agg #[.int .i64 W, .int .i64 H, .slice al nl cl, .slice ad nd cd, .slice an nn cn, .slice ab nb cb, .slice ax ns cx, .slice af nf cf]] w fun e' w' => e' = .returned (.bool true) ∧ Below w.heap.size w w' := by
  have HC := Lib.hid hc.at_
  have HCM := Lib.hid hc
  have HOKS := Lib.hid hS
  have HOKF := Lib.hid hF
  have hlt := fun w => light_y W H al ad an ab ax af cl cd cn cb cx cf nl nd nn nb ns nf w h0 h1 h2 h3
  have hdr := fun w => Fm.drsheet_any W H al nl cl w
  have hdf := fun w hA => Fm.dright_any (⟨W, H, nl, nd, nn, nb, ns, nf, L, D, N, Bb, S, F⟩ : Fm.Flm) (⟨al, cl, ad, cd, an, cn, ab, cb, ax, cx, af, cf⟩ : Fm.Pl) w hA
  rw [decide_eq_true hS] at hdr
  rw [decide_eq_false hF] at hdf
  have HGS := Lib.hid (show ∀ j, 0 ≤ (fun j => Pl.shade (Pl.tone (max (L j) 0))) j ∧ (fun j => Pl.shade (Pl.tone (max (L j) 0))) j ≤ 255 from fun j => Pl.shade_bd _)
  have HGD := Lib.hid (show ∀ j, 0 ≤ (fun j => Pl.shade (near (D (j / 3)) (S (j / 3)))) j ∧ (fun j => Pl.shade (near (D (j / 3)) (S (j / 3)))) j ≤ 255 from fun j => Pl.shade_bd _)
  have HGN := Lib.hid (show ∀ j, 0 ≤ (fun j => side (N j)) j ∧ (fun j => side (N j)) j ≤ 255 from fun j => Pl.shade_bd _)
  obtain ⟨GS, hGS⟩ : ∃ G, G = fun j => Pl.shade (Pl.tone (max (L j) 0)) := ⟨_, rfl⟩
  obtain ⟨GD, hGD⟩ : ∃ G, G = fun j => Pl.shade (near (D (j / 3)) (S (j / 3))) := ⟨_, rfl⟩
  obtain ⟨GN, hGN⟩ : ∃ G, G = fun j => side (N j) := ⟨_, rfl⟩
  rw [← hGS] at HGS
  rw [← hGD] at HGD
  rw [← hGN] at HGN
  have EGS := Lib.hid hGS
  have EGD := Lib.hid hGD
  have EGN := Lib.hid hGN
  clear hc hS hF hGS hGD hGN
  go_enter Tryd.func3, Tryd.ntmps3
  go_upto_region 1 with fail
  have hr0 := heap_alloc_last w (.cells #[.int .i64 W, .int .i64 H, .slice al nl cl, .slice ad nd cd, .slice an nn cn, .slice ab nb cb, .slice ax ns cx, .slice af nf cf] 29)
  have hb0 := Ve.below_n1 w (.cells #[.int .i64 W, .int .i64 H, .slice al nl cl, .slice ad nd cd, .slice an nn cn, .slice ab nb cb, .slice ax ns cx, .slice af nf cf] 29)
  obtain ⟨y0, hy0⟩ : ∃ y0, w.alloc (.cells #[.int .i64 W, .int .i64 H, .slice al nl cl, .slice ad nd cd, .slice an nn cn, .slice ab nb cb, .slice ax ns cx, .slice af nf cf] 29) = y0 := ⟨_, rfl⟩
  obtain ⟨p0, hp0⟩ : ∃ p, p = w.heap.size := ⟨_, rfl⟩
  rw [hy0] at hr0 hb0 ⊢
  rw [← hp0] at hr0 ⊢
  clear hy0 hp0
  have HR := Lib.hid hr0
  have HB := Lib.hid hb0
  have HAT := Lib.hid (HC.out.on hb0)
  clear hb0 hr0
  have c0 := cell_of_row _ _ 0 _ _ _ HR.out
  have c1 := cell_of_row _ _ 1 _ _ _ HR.out
  have c2 := cell_of_row _ _ 2 _ _ _ HR.out
  have c3 := cell_of_row _ _ 3 _ _ _ HR.out
  have c4 := cell_of_row _ _ 4 _ _ _ HR.out
  have c5 := cell_of_row _ _ 5 _ _ _ HR.out
  have c6 := cell_of_row _ _ 6 _ _ _ HR.out
  have c7 := cell_of_row _ _ 7 _ _ _ HR.out
  simp at c0 c1 c2 c3 c4 c5 c6 c7
  go_upto_region 3 with (go_at_call 6; refine (hlt _).mono ?_; rintro e y1 ⟨rfl, hb1⟩)
  replace HR := Lib.hid ((hb1.block _ (lt_heap HR.out)).trans HR.out)
  replace HB := Lib.hid (HB.out.trans (hb1.mono HB.out.size))
  replace HAT := Lib.hid (HAT.out.on hb1)
  clear hb1 hlt
  clear c0 c1 c2 c3 c4 c5 c6 c7
  have c0 := cell_of_row _ _ 0 _ _ _ HR.out
  have c1 := cell_of_row _ _ 1 _ _ _ HR.out
  have c2 := cell_of_row _ _ 2 _ _ _ HR.out
  have c3 := cell_of_row _ _ 3 _ _ _ HR.out
  have c4 := cell_of_row _ _ 4 _ _ _ HR.out
  have c5 := cell_of_row _ _ 5 _ _ _ HR.out
  have c6 := cell_of_row _ _ 6 _ _ _ HR.out
  have c7 := cell_of_row _ _ 7 _ _ _ HR.out
  simp at c0 c1 c2 c3 c4 c5 c6 c7
  go_upto_region 4 with (go_at_call 8; refine (Fm.to_film (⟨W, H, nl, nd, nn, nb, ns, nf, L, D, N, Bb, S, F⟩ : Fm.Flm) (⟨al, cl, ad, cd, an, cn, ab, cb, ax, cx, af, cf⟩ : Fm.Pl) _ HAT.out HCM.out.bl HCM.out.bd HCM.out.bn HCM.out.bb HCM.out.bs HCM.out.bf HCM.out.ks HCM.out.kf).mono ?_; rintro e y2 ⟨⟨⟨al2, cl2, ad2, cd2, an2, cn2, ab2, cb2, ax2, cx2, af2, cf2⟩, rfl, hat⟩, hb2⟩)
  replace HR := Lib.hid ((hb2.block _ (lt_heap HR.out)).trans HR.out)
  replace HB := Lib.hid (HB.out.trans (hb2.mono HB.out.size))
  replace HAT := Lib.hid (HAT.out.on hb2)
  have HXT := Lib.hid hat
  clear hb2 hat
  clear c0 c1 c2 c3 c4 c5 c6 c7
  have hq_ := heap_alloc_last y2 (.cells #[.int .i64 W, .int .i64 H, .slice al2 nl cl2, .slice ad2 nd cd2, .slice an2 nn cn2, .slice ab2 nb cb2, .slice ax2 ns cx2, .slice af2 nf cf2] 40)
  have hb_ := Ve.below_n1 y2 (.cells #[.int .i64 W, .int .i64 H, .slice al2 nl cl2, .slice ad2 nd cd2, .slice an2 nn cn2, .slice ab2 nb cb2, .slice ax2 ns cx2, .slice af2 nf cf2] 40)
  obtain ⟨y3, hy_⟩ : ∃ y, y2.alloc (.cells #[.int .i64 W, .int .i64 H, .slice al2 nl cl2, .slice ad2 nd cd2, .slice an2 nn cn2, .slice ab2 nb cb2, .slice ax2 ns cx2, .slice af2 nf cf2] 40) = y := ⟨_, rfl⟩
  obtain ⟨py3, hp_⟩ : ∃ p, p = y2.heap.size := ⟨_, rfl⟩
  rw [hy_] at hq_ hb_ ⊢
  rw [← hp_] at hq_ ⊢
  clear hy_ hp_
  replace HR := Lib.hid ((hb_.block _ (lt_heap HR.out)).trans HR.out)
  replace HB := Lib.hid (HB.out.trans (hb_.mono HB.out.size))
  replace HAT := Lib.hid (HAT.out.on hb_)
  replace HXT := Lib.hid (HXT.out.on hb_)
  have HX := Lib.hid hq_
  clear hq_ hb_
  have c0 := cell_of_row _ _ 0 _ _ _ HX.out
  have c1 := cell_of_row _ _ 1 _ _ _ HX.out
  have c2 := cell_of_row _ _ 2 _ _ _ HX.out
  have c3 := cell_of_row _ _ 3 _ _ _ HX.out
  have c4 := cell_of_row _ _ 4 _ _ _ HX.out
  have c5 := cell_of_row _ _ 5 _ _ _ HX.out
  have c6 := cell_of_row _ _ 6 _ _ _ HX.out
  have c7 := cell_of_row _ _ 7 _ _ _ HX.out
  simp at c0 c1 c2 c3 c4 c5 c6 c7
  go_upto_region 5 with (go_at_call 9; refine (show_yes W H al2 nl cl2 L _ HOKS.out HXT.out.l h0).mono ?_; rintro e y4 ⟨v_, rfl, ho_, hb_⟩; obtain ⟨pa, pac, hv_⟩ := own_slice ho_; subst hv_; rw [← EGS.out] at ho_; have HDpa := Lib.hid (own_dt HGS.out ho_); clear ho_)
  replace HR := Lib.hid ((hb_.block _ (lt_heap HR.out)).trans HR.out)
  replace HB := Lib.hid (HB.out.trans (hb_.mono HB.out.size))
  replace HAT := Lib.hid (HAT.out.on hb_)
  replace HXT := Lib.hid (HXT.out.on hb_)
  replace HX := Lib.hid ((hb_.block _ (lt_heap HX.out)).trans HX.out)
  clear hb_
  clear c0 c1 c2 c3 c4 c5 c6 c7
  have hq_ := heap_alloc_last y4 (.cells #[.int .i64 W, .int .i64 H, .slice pa nl pac] 44)
  have hb_ := Ve.below_n1 y4 (.cells #[.int .i64 W, .int .i64 H, .slice pa nl pac] 44)
  obtain ⟨y4b, hy_⟩ : ∃ y, y4.alloc (.cells #[.int .i64 W, .int .i64 H, .slice pa nl pac] 44) = y := ⟨_, rfl⟩
  obtain ⟨py4b, hp_⟩ : ∃ p, p = y4.heap.size := ⟨_, rfl⟩
  rw [hy_] at hq_ hb_ ⊢
  rw [← hp_] at hq_ ⊢
  clear hy_ hp_
  replace HR := Lib.hid ((hb_.block _ (lt_heap HR.out)).trans HR.out)
  replace HB := Lib.hid (HB.out.trans (hb_.mono HB.out.size))
  replace HAT := Lib.hid (HAT.out.on hb_)
  replace HXT := Lib.hid (HXT.out.on hb_)
  replace HX := Lib.hid ((hb_.block _ (lt_heap HX.out)).trans HX.out)
  replace HDpa := Lib.hid (HDpa.out.on hb_)
  have HPA := Lib.hid hq_
  clear hq_ hb_
  have c0 := cell_of_row _ _ 0 _ _ _ HX.out
  have c1 := cell_of_row _ _ 1 _ _ _ HX.out
  have c2 := cell_of_row _ _ 2 _ _ _ HX.out
  have c3 := cell_of_row _ _ 3 _ _ _ HX.out
  have c4 := cell_of_row _ _ 4 _ _ _ HX.out
  have c5 := cell_of_row _ _ 5 _ _ _ HX.out
  have c6 := cell_of_row _ _ 6 _ _ _ HX.out
  have c7 := cell_of_row _ _ 7 _ _ _ HX.out
  simp at c0 c1 c2 c3 c4 c5 c6 c7
  go_upto_region 6 with (go_at_call 10; refine (depths_no W H al2 ad2 an2 ab2 ax2 af2 cl2 cd2 cn2 cb2 cx2 cf2 nl nd nn nb ns nf L D N Bb S F _ HXT.out HOKF.out).mono ?_; rintro e y5 ⟨rfl, hb_⟩)
  replace HR := Lib.hid ((hb_.block _ (lt_heap HR.out)).trans HR.out)
  replace HB := Lib.hid (HB.out.trans (hb_.mono HB.out.size))
  replace HAT := Lib.hid (HAT.out.on hb_)
  replace HXT := Lib.hid (HXT.out.on hb_)
  replace HX := Lib.hid ((hb_.block _ (lt_heap HX.out)).trans HX.out)
  replace HDpa := Lib.hid (HDpa.out.on hb_)
  replace HPA := Lib.hid ((hb_.block _ (lt_heap HPA.out)).trans HPA.out)
  clear hb_
  clear c0 c1 c2 c3 c4 c5 c6 c7
  have hq_ := heap_alloc_last y5 (.cells #[.int .i64 0, .int .i64 0, .slice none 0 0] 44)
  have hb_ := Ve.below_n1 y5 (.cells #[.int .i64 0, .int .i64 0, .slice none 0 0] 44)
  obtain ⟨y5b, hy_⟩ : ∃ y, y5.alloc (.cells #[.int .i64 0, .int .i64 0, .slice none 0 0] 44) = y := ⟨_, rfl⟩
  obtain ⟨py5b, hp_⟩ : ∃ p, p = y5.heap.size := ⟨_, rfl⟩
  rw [hy_] at hq_ hb_ ⊢
  rw [← hp_] at hq_ ⊢
  clear hy_ hp_
  replace HR := Lib.hid ((hb_.block _ (lt_heap HR.out)).trans HR.out)
  replace HB := Lib.hid (HB.out.trans (hb_.mono HB.out.size))
  replace HAT := Lib.hid (HAT.out.on hb_)
  replace HXT := Lib.hid (HXT.out.on hb_)
  replace HX := Lib.hid ((hb_.block _ (lt_heap HX.out)).trans HX.out)
  replace HDpa := Lib.hid (HDpa.out.on hb_)
  replace HPA := Lib.hid ((hb_.block _ (lt_heap HPA.out)).trans HPA.out)
  have HPB := Lib.hid hq_
  clear hq_ hb_
  have c0 := cell_of_row _ _ 0 _ _ _ HX.out
  have c1 := cell_of_row _ _ 1 _ _ _ HX.out
  have c2 := cell_of_row _ _ 2 _ _ _ HX.out
  have c3 := cell_of_row _ _ 3 _ _ _ HX.out
  have c4 := cell_of_row _ _ 4 _ _ _ HX.out
  have c5 := cell_of_row _ _ 5 _ _ _ HX.out
  have c6 := cell_of_row _ _ 6 _ _ _ HX.out
  have c7 := cell_of_row _ _ 7 _ _ _ HX.out
  simp at c0 c1 c2 c3 c4 c5 c6 c7
  go_upto_region 7 with (go_at_call 11; refine (normals_no W H al2 ad2 an2 ab2 ax2 af2 cl2 cd2 cn2 cb2 cx2 cf2 nl nd nn nb ns nf L D N Bb S F _ HXT.out HOKF.out).mono ?_; rintro e y6 ⟨rfl, hb_⟩)
  replace HR := Lib.hid ((hb_.block _ (lt_heap HR.out)).trans HR.out)
  replace HB := Lib.hid (HB.out.trans (hb_.mono HB.out.size))
  replace HAT := Lib.hid (HAT.out.on hb_)
  replace HXT := Lib.hid (HXT.out.on hb_)
  replace HX := Lib.hid ((hb_.block _ (lt_heap HX.out)).trans HX.out)
  replace HDpa := Lib.hid (HDpa.out.on hb_)
  replace HPA := Lib.hid ((hb_.block _ (lt_heap HPA.out)).trans HPA.out)
  replace HPB := Lib.hid ((hb_.block _ (lt_heap HPB.out)).trans HPB.out)
  clear hb_
  clear c0 c1 c2 c3 c4 c5 c6 c7
  have hq_ := heap_alloc_last y6 (.cells #[.int .i64 0, .int .i64 0, .slice none 0 0] 44)
  have hb_ := Ve.below_n1 y6 (.cells #[.int .i64 0, .int .i64 0, .slice none 0 0] 44)
  obtain ⟨y6b, hy_⟩ : ∃ y, y6.alloc (.cells #[.int .i64 0, .int .i64 0, .slice none 0 0] 44) = y := ⟨_, rfl⟩
  obtain ⟨py6b, hp_⟩ : ∃ p, p = y6.heap.size := ⟨_, rfl⟩
  rw [hy_] at hq_ hb_ ⊢
  rw [← hp_] at hq_ ⊢
  clear hy_ hp_
  replace HR := Lib.hid ((hb_.block _ (lt_heap HR.out)).trans HR.out)
  replace HB := Lib.hid (HB.out.trans (hb_.mono HB.out.size))
  replace HAT := Lib.hid (HAT.out.on hb_)
  replace HXT := Lib.hid (HXT.out.on hb_)
  replace HX := Lib.hid ((hb_.block _ (lt_heap HX.out)).trans HX.out)
  replace HDpa := Lib.hid (HDpa.out.on hb_)
  replace HPA := Lib.hid ((hb_.block _ (lt_heap HPA.out)).trans HPA.out)
  replace HPB := Lib.hid ((hb_.block _ (lt_heap HPB.out)).trans HPB.out)
  have HPC := Lib.hid hq_
  clear hq_ hb_
  have c0 := cell_of_row _ _ 0 _ _ _ HR.out
  have c1 := cell_of_row _ _ 1 _ _ _ HR.out
  have c2 := cell_of_row _ _ 2 _ _ _ HR.out
  have c3 := cell_of_row _ _ 3 _ _ _ HR.out
  have c4 := cell_of_row _ _ 4 _ _ _ HR.out
  have c5 := cell_of_row _ _ 5 _ _ _ HR.out
  have c6 := cell_of_row _ _ 6 _ _ _ HR.out
  have c7 := cell_of_row _ _ 7 _ _ _ HR.out
  simp at c0 c1 c2 c3 c4 c5 c6 c7
  go_upto_region 9 with (first | (go_at_call 12; refine (hdr _).mono ?_; rintro e z_ ⟨rfl, hz_⟩; replace HR := Lib.hid ((hz_.block _ (lt_heap HR.out)).trans HR.out); replace HB := Lib.hid (HB.out.trans (hz_.mono HB.out.size)); replace HAT := Lib.hid (HAT.out.on hz_); replace HXT := Lib.hid (HXT.out.on hz_); replace HX := Lib.hid ((hz_.block _ (lt_heap HX.out)).trans HX.out); replace HDpa := Lib.hid (HDpa.out.on hz_); replace HPA := Lib.hid ((hz_.block _ (lt_heap HPA.out)).trans HPA.out); replace HPB := Lib.hid ((hz_.block _ (lt_heap HPB.out)).trans HPB.out); replace HPC := Lib.hid ((hz_.block _ (lt_heap HPC.out)).trans HPC.out); clear hz_ c0 c1 c2 c3 c4 c5 c6 c7; have c0 := cell_of_row _ _ 0 _ _ _ HR.out; have c1 := cell_of_row _ _ 1 _ _ _ HR.out; have c2 := cell_of_row _ _ 2 _ _ _ HR.out; have c3 := cell_of_row _ _ 3 _ _ _ HR.out; have c4 := cell_of_row _ _ 4 _ _ _ HR.out; have c5 := cell_of_row _ _ 5 _ _ _ HR.out; have c6 := cell_of_row _ _ 6 _ _ _ HR.out; have c7 := cell_of_row _ _ 7 _ _ _ HR.out; simp at c0 c1 c2 c3 c4 c5 c6 c7) | (go_at_call 13; refine (hdf _ HAT.out).mono ?_; rintro e z_ ⟨rfl, hz_⟩; replace HR := Lib.hid ((hz_.block _ (lt_heap HR.out)).trans HR.out); replace HB := Lib.hid (HB.out.trans (hz_.mono HB.out.size)); replace HAT := Lib.hid (HAT.out.on hz_); replace HXT := Lib.hid (HXT.out.on hz_); replace HX := Lib.hid ((hz_.block _ (lt_heap HX.out)).trans HX.out); replace HDpa := Lib.hid (HDpa.out.on hz_); replace HPA := Lib.hid ((hz_.block _ (lt_heap HPA.out)).trans HPA.out); replace HPB := Lib.hid ((hz_.block _ (lt_heap HPB.out)).trans HPB.out); replace HPC := Lib.hid ((hz_.block _ (lt_heap HPC.out)).trans HPC.out); clear hz_ c0 c1 c2 c3 c4 c5 c6 c7; have c0 := cell_of_row _ _ 0 _ _ _ HR.out; have c1 := cell_of_row _ _ 1 _ _ _ HR.out; have c2 := cell_of_row _ _ 2 _ _ _ HR.out; have c3 := cell_of_row _ _ 3 _ _ _ HR.out; have c4 := cell_of_row _ _ 4 _ _ _ HR.out; have c5 := cell_of_row _ _ 5 _ _ _ HR.out; have c6 := cell_of_row _ _ 6 _ _ _ HR.out; have c7 := cell_of_row _ _ 7 _ _ _ HR.out; simp at c0 c1 c2 c3 c4 c5 c6 c7))
  clear c0 c1 c2 c3 c4 c5 c6 c7
  obtain ⟨yA, hyA⟩ : ∃ y : World, y = z_ := ⟨_, rfl⟩
  rw [← hyA] at HR HB HAT HXT HX HDpa HPA HPB HPC ⊢
  clear hyA
  have hpr := fun w => pright_any W H pa nl pac w
  rw [decide_eq_true HOKS.out] at hpr
  have hS00 : Below yA.heap.size yA yA.drew := (Below.refl _ yA).drew
  refine wp_region_held_drew (S := Below yA.heap.size yA) (by kernel_rfl) (hS00) (fun hS0 => ?_)
  refine wpAnyH_take (i := 0) (v := ?_) rfl (by kernel_rfl) (by kernel_rfl) (by kernel_rfl) (fun _ _ _ h => h) (Or.inl ⟨by kernel_rfl, by (intro wz hSz; go_simp; try with_reducible rfl)⟩) hS0 ?_
  go_simp
  refine wpAnyH_take (i := 1) (v := ?_) rfl (by kernel_rfl) (by kernel_rfl) (by kernel_rfl) (fun _ _ _ h => h) (Or.inl ⟨by kernel_rfl, by (intro wz hSz; go_simp; try with_reducible rfl)⟩) hS0 ?_
  go_simp
  refine wpAnyH_take (i := 2) (v := ?_) rfl (by kernel_rfl) (by kernel_rfl) (by kernel_rfl) (fun _ _ _ h => h) (Or.inl ⟨by kernel_rfl, by (intro wz hSz; go_simp; try with_reducible rfl)⟩) hS0 ?_
  go_simp
  refine wpAnyH_take (i := 3) (v := undef) rfl (by kernel_rfl) (by kernel_rfl) (by kernel_rfl) (fun _ _ _ h => h) (Or.inr ⟨by kernel_rfl, rfl⟩) hS0 ?_
  go_simp
  refine wpAnyH_take (i := 4) (v := undef) rfl (by kernel_rfl) (by kernel_rfl) (by kernel_rfl) (fun _ _ _ h => h) (Or.inr ⟨by kernel_rfl, rfl⟩) hS0 ?_
  go_simp
  refine wpAnyH_take (i := 5) (v := undef) rfl (by kernel_rfl) (by kernel_rfl) (by kernel_rfl) (fun _ _ _ h => h) (Or.inr ⟨by kernel_rfl, rfl⟩) hS0 ?_
  go_simp
  refine wpAnyH_take (i := 6) (v := undef) rfl (by kernel_rfl) (by kernel_rfl) (by kernel_rfl) (fun _ _ _ h => h) (Or.inr ⟨by kernel_rfl, rfl⟩) hS0 ?_
  go_simp
  refine wpAnyH_take (i := 7) (v := undef) rfl (by kernel_rfl) (by kernel_rfl) (by kernel_rfl) (fun _ _ _ h => h) (Or.inr ⟨by kernel_rfl, rfl⟩) hS0 ?_
  go_simp
  refine wpAnyH_take (i := 8) (v := undef) rfl (by kernel_rfl) (by kernel_rfl) (by kernel_rfl) (fun _ _ _ h => h) (Or.inr ⟨by kernel_rfl, rfl⟩) hS0 ?_
  go_simp
  refine wpAnyH_take (i := 9) (v := undef) rfl (by kernel_rfl) (by kernel_rfl) (by kernel_rfl) (fun _ _ _ h => h) (Or.inr ⟨by kernel_rfl, rfl⟩) hS0 ?_
  go_simp
  refine wpAnyH_take (i := 10) (v := undef) rfl (by kernel_rfl) (by kernel_rfl) (by kernel_rfl) (fun _ _ _ h => h) (Or.inr ⟨by kernel_rfl, rfl⟩) hS0 ?_
  go_simp
  refine wpAnyH_take (i := 11) (v := ?_) rfl (by kernel_rfl) (by kernel_rfl) (by kernel_rfl) (fun _ _ _ h => h) (Or.inl ⟨by kernel_rfl, by (intro wz hSz; go_simp; try with_reducible rfl)⟩) hS0 ?_
  go_simp
  refine wpAnyH_take (i := 12) (v := ?_) rfl (by kernel_rfl) (by kernel_rfl) (by kernel_rfl) (fun _ _ _ h => h) (Or.inl ⟨by kernel_rfl, by (intro wz hSz; go_simp; try with_reducible rfl)⟩) hS0 ?_
  go_simp
  refine wpAnyH_take (i := 13) (v := ?_) rfl (by kernel_rfl) (by kernel_rfl) (by kernel_rfl) (fun _ _ _ h => h) (Or.inl ⟨by kernel_rfl, by (intro wz hSz; go_simp; try with_reducible rfl)⟩) hS0 ?_
  go_simp
  refine wpAnyH_take (i := 14) (v := ?_) rfl (by kernel_rfl) (by kernel_rfl) (by kernel_rfl) (fun _ _ _ h => h) (Or.inl ⟨by kernel_rfl, by (intro wz hSz; go_simp; try with_reducible rfl)⟩) hS0 ?_
  go_simp
  refine wpAnyH_take (i := 15) (v := ?_) rfl (by kernel_rfl) (by kernel_rfl) (by kernel_rfl) (fun _ _ _ h => h) (Or.inl ⟨by kernel_rfl, by (intro wz hSz; go_simp; try with_reducible rfl)⟩) hS0 ?_
  go_simp
  refine wpAnyH_take (i := 16) (v := ?_) rfl (by kernel_rfl) (by kernel_rfl) (by kernel_rfl) (fun _ _ _ h => h) (Or.inl ⟨by kernel_rfl, by (intro wz hSz; have hc_ := (hSz.block _ (lt_heap HPA.out)).trans HPA.out; have cq0 := cell_of_row _ _ 0 _ _ _ hc_; have cq1 := cell_of_row _ _ 1 _ _ _ hc_; have cq2 := cell_of_row _ _ 2 _ _ _ hc_; simp at cq0 cq1 cq2; go_simp; try with_reducible rfl)⟩) hS0 ?_
  go_simp
  refine wpAnyH_take (i := 18) (v := ?_) rfl (by kernel_rfl) (by kernel_rfl) (by kernel_rfl) (fun _ _ _ h => h) (Or.inl ⟨by kernel_rfl, by (intro wz hSz; go_simp; try with_reducible rfl)⟩) hS0 ?_
  go_simp
  refine wpAnyH_take (i := 19) (v := ?_) rfl (by kernel_rfl) (by kernel_rfl) (by kernel_rfl) (fun _ _ _ h => h) (Or.inl ⟨by kernel_rfl, by (intro wz hSz; have hc_ := (hSz.block _ (lt_heap HR.out)).trans HR.out; have cq0 := cell_of_row _ _ 0 _ _ _ hc_; have cq1 := cell_of_row _ _ 1 _ _ _ hc_; have cq2 := cell_of_row _ _ 2 _ _ _ hc_; have cq3 := cell_of_row _ _ 3 _ _ _ hc_; have cq4 := cell_of_row _ _ 4 _ _ _ hc_; have cq5 := cell_of_row _ _ 5 _ _ _ hc_; have cq6 := cell_of_row _ _ 6 _ _ _ hc_; have cq7 := cell_of_row _ _ 7 _ _ _ hc_; simp at cq0 cq1 cq2 cq3 cq4 cq5 cq6 cq7; go_simp; try with_reducible rfl)⟩) hS0 ?_
  go_simp
  refine wpAnyH_ready (rs := [17]) (by kernel_rfl) (by simp) ?_
  refine AllReadyH.cons rfl (fun K hK => ?_) AllReadyH.nil
  go_simp
  go_wp2_with (go_at_call 15; refine (from_any W H pa nl pac _).mono ?_; rintro e z1 ⟨rfl, hb1⟩)
  have hS1_ := hS0.trans (hb1.mono hS0.size)
  clear hb1
  refine hK.out _ _ (hS1_) (fun hS1 => ?_)
  clear hK K
  refine wpAnyH_ready (rs := [20]) (by kernel_rfl) (by simp) ?_
  refine AllReadyH.cons rfl (fun K hK => ?_) AllReadyH.nil
  go_simp
  go_wp2_with (go_at_call 16; refine (rshow_sheet W H al nl cl L _ (HAT.out.l.on hS1) h0).mono ?_; rintro e z2 ⟨⟨v2, rfl, ho2⟩, hb2⟩)
  obtain ⟨ar2, cr2, hv2⟩ := own_slice ho2
  subst hv2
  rw [← EGS.out] at ho2
  have HY2 := Lib.hid (own_dt HGS.out ho2)
  have hS2_ := hS1.trans (hb2.mono hS1.size)
  clear hb2 ho2
  refine hK.out _ _ (hS2_) (fun hS2 => ?_)
  clear hK K
  refine wpAnyH_ready (rs := [21]) (by kernel_rfl) (by simp) ?_
  refine AllReadyH.cons rfl (fun K hK => ?_) AllReadyH.nil
  go_simp
  go_wp2_with (go_at_call 14; refine (same_any W H nl pa ar2 pac cr2 (dl GS nl) _ (HDpa.out.on hS2) HY2.out (by omega)).mono ?_; rintro e z3 ⟨rfl, hb3⟩)
  have hS3_ := hS2.trans (hb3.mono hS2.size)
  clear hb3
  refine hK.out _ _ (hS3_) (fun hS3 => ?_)
  clear hK K
  refine wpAnyH_take (i := 22) (v := ?_) rfl (by kernel_rfl) (by kernel_rfl) (by kernel_rfl) (fun _ _ _ h => h) (Or.inl ⟨by kernel_rfl, by (intro wz hSz; go_simp; try with_reducible rfl)⟩) hS3 ?_
  go_simp
  refine wpAnyH_take (i := 23) (v := ?_) rfl (by kernel_rfl) (by kernel_rfl) (by kernel_rfl) (fun _ _ _ h => h) (Or.inl ⟨by kernel_rfl, by (intro wz hSz; go_simp; try with_reducible rfl)⟩) hS3 ?_
  go_simp
  refine wpAnyH_take (i := 24) (v := ?_) rfl (by kernel_rfl) (by kernel_rfl) (by kernel_rfl) (fun _ _ _ h => h) (Or.inl ⟨by kernel_rfl, by (intro wz hSz; have hc_ := (hSz.block _ (lt_heap HPA.out)).trans HPA.out; have cq0 := cell_of_row _ _ 0 _ _ _ hc_; have cq1 := cell_of_row _ _ 1 _ _ _ hc_; have cq2 := cell_of_row _ _ 2 _ _ _ hc_; simp at cq0 cq1 cq2; go_simp; try with_reducible rfl)⟩) hS3 ?_
  go_simp
  refine wpAnyH_ready (rs := [25]) (by kernel_rfl) (by simp) ?_
  refine AllReadyH.cons rfl (fun K hK => ?_) AllReadyH.nil
  go_simp
  go_wp2_with (go_at_call 17; refine (hpr _).mono ?_; rintro e z4 ⟨rfl, hb4⟩)
  have hS4_ := hS3.trans (hb4.mono hS3.size)
  clear hb4
  refine hK.out _ _ (hS4_) (fun hS4 => ?_)
  clear hK K
  refine wpAnyH_take (i := 26) (v := ?_) rfl (by kernel_rfl) (by kernel_rfl) (by kernel_rfl) (fun _ _ _ h => h) (Or.inl ⟨by kernel_rfl, by (intro wz hSz; go_simp; try with_reducible rfl)⟩) hS4 ?_
  go_simp
  refine wpAnyH_take (i := 27) (v := ?_) rfl (by kernel_rfl) (by kernel_rfl) (by kernel_rfl) (fun _ _ _ h => h) (Or.inl ⟨by kernel_rfl, by (intro wz hSz; go_simp; try with_reducible rfl)⟩) hS4 ?_
  go_simp
  refine wpAnyH_take (i := 28) (v := ?_) rfl (by kernel_rfl) (by kernel_rfl) (by kernel_rfl) (fun _ _ _ h => h) (Or.inl ⟨by kernel_rfl, by (intro wz hSz; go_simp; try with_reducible rfl)⟩) hS4 ?_
  go_simp
  refine wpAnyH_take (i := 29) (v := ?_) rfl (by kernel_rfl) (by kernel_rfl) (by kernel_rfl) (fun _ _ _ h => h) (Or.inl ⟨by kernel_rfl, by (intro wz hSz; go_simp; try with_reducible rfl)⟩) hS4 ?_
  go_simp
  refine wpAnyH_done (by kernel_rfl) ?_ _
  obtain ⟨yB, hyB⟩ : ∃ y : World, z4 = y := ⟨_, rfl⟩
  rw [hyB] at hS4 ⊢
  replace HR := Lib.hid ((hS4.block _ (lt_heap HR.out)).trans HR.out)
  replace HB := Lib.hid (HB.out.trans (hS4.mono HB.out.size))
  replace HAT := Lib.hid (HAT.out.on hS4)
  replace HXT := Lib.hid (HXT.out.on hS4)
  replace HX := Lib.hid ((hS4.block _ (lt_heap HX.out)).trans HX.out)
  replace HDpa := Lib.hid (HDpa.out.on hS4)
  replace HPA := Lib.hid ((hS4.block _ (lt_heap HPA.out)).trans HPA.out)
  replace HPB := Lib.hid ((hS4.block _ (lt_heap HPB.out)).trans HPB.out)
  replace HPC := Lib.hid ((hS4.block _ (lt_heap HPC.out)).trans HPC.out)
  clear hyB
  go_upto_region 11 with fail
  have hT00 : Below yB.heap.size yB yB.drew := (Below.refl _ yB).drew
  refine wp_region_held_drew (S := Below yB.heap.size yB) (by kernel_rfl) (hT00) (fun hS0 => ?_)
  refine wpAnyH_ready (rs := [0]) (by kernel_rfl) (by simp) ?_
  refine AllReadyH.cons rfl (fun K hK => ?_) AllReadyH.nil
  go_simp
  go_wp2_with (go_at_call 7; refine (awake_any _).mono ?_; rintro e z20 ⟨rfl, hb20⟩)
  have hS20_ := hS0.trans (hb20.mono hS0.size)
  clear hb20
  refine hK.out _ _ (hS20_) (fun hS20 => ?_)
  clear hK K
  refine wpAnyH_take (i := 1) (v := ?_) rfl (by kernel_rfl) (by kernel_rfl) (by kernel_rfl) (fun _ _ _ h => h) (Or.inl ⟨by kernel_rfl, by (intro wz hSz; go_simp; try with_reducible rfl)⟩) hS20 ?_
  go_simp
  refine wpAnyH_take (i := 2) (v := ?_) rfl (by kernel_rfl) (by kernel_rfl) (by kernel_rfl) (fun _ _ _ h => h) (Or.inl ⟨by kernel_rfl, by (intro wz hSz; go_simp; try with_reducible rfl)⟩) hS20 ?_
  go_simp
  refine wpAnyH_take (i := 3) (v := ?_) rfl (by kernel_rfl) (by kernel_rfl) (by kernel_rfl) (fun _ _ _ h => h) (Or.inl ⟨by kernel_rfl, by (intro wz hSz; go_simp; try with_reducible rfl)⟩) hS20 ?_
  go_simp
  refine wpAnyH_take (i := 4) (v := ?_) rfl (by kernel_rfl) (by kernel_rfl) (by kernel_rfl) (fun _ _ _ h => h) (Or.inl ⟨by kernel_rfl, by (intro wz hSz; go_simp; try with_reducible rfl)⟩) hS20 ?_
  go_simp
  refine wpAnyH_take (i := 5) (v := undef) rfl (by kernel_rfl) (by kernel_rfl) (by kernel_rfl) (fun _ _ _ h => h) (Or.inr ⟨by kernel_rfl, rfl⟩) hS20 ?_
  go_simp
  refine wpAnyH_take (i := 6) (v := undef) rfl (by kernel_rfl) (by kernel_rfl) (by kernel_rfl) (fun _ _ _ h => h) (Or.inr ⟨by kernel_rfl, rfl⟩) hS20 ?_
  go_simp
  refine wpAnyH_take (i := 7) (v := undef) rfl (by kernel_rfl) (by kernel_rfl) (by kernel_rfl) (fun _ _ _ h => h) (Or.inr ⟨by kernel_rfl, rfl⟩) hS20 ?_
  go_simp
  refine wpAnyH_take (i := 8) (v := undef) rfl (by kernel_rfl) (by kernel_rfl) (by kernel_rfl) (fun _ _ _ h => h) (Or.inr ⟨by kernel_rfl, rfl⟩) hS20 ?_
  go_simp
  refine wpAnyH_take (i := 9) (v := undef) rfl (by kernel_rfl) (by kernel_rfl) (by kernel_rfl) (fun _ _ _ h => h) (Or.inr ⟨by kernel_rfl, rfl⟩) hS20 ?_
  go_simp
  refine wpAnyH_take (i := 10) (v := undef) rfl (by kernel_rfl) (by kernel_rfl) (by kernel_rfl) (fun _ _ _ h => h) (Or.inr ⟨by kernel_rfl, rfl⟩) hS20 ?_
  go_simp
  refine wpAnyH_take (i := 11) (v := undef) rfl (by kernel_rfl) (by kernel_rfl) (by kernel_rfl) (fun _ _ _ h => h) (Or.inr ⟨by kernel_rfl, rfl⟩) hS20 ?_
  go_simp
  refine wpAnyH_take (i := 12) (v := undef) rfl (by kernel_rfl) (by kernel_rfl) (by kernel_rfl) (fun _ _ _ h => h) (Or.inr ⟨by kernel_rfl, rfl⟩) hS20 ?_
  go_simp
  refine wpAnyH_take (i := 13) (v := undef) rfl (by kernel_rfl) (by kernel_rfl) (by kernel_rfl) (fun _ _ _ h => h) (Or.inr ⟨by kernel_rfl, rfl⟩) hS20 ?_
  go_simp
  refine wpAnyH_take (i := 14) (v := undef) rfl (by kernel_rfl) (by kernel_rfl) (by kernel_rfl) (fun _ _ _ h => h) (Or.inr ⟨by kernel_rfl, rfl⟩) hS20 ?_
  go_simp
  refine wpAnyH_take (i := 15) (v := undef) rfl (by kernel_rfl) (by kernel_rfl) (by kernel_rfl) (fun _ _ _ h => h) (Or.inr ⟨by kernel_rfl, rfl⟩) hS20 ?_
  go_simp
  refine wpAnyH_take (i := 16) (v := undef) rfl (by kernel_rfl) (by kernel_rfl) (by kernel_rfl) (fun _ _ _ h => h) (Or.inr ⟨by kernel_rfl, rfl⟩) hS20 ?_
  go_simp
  refine wpAnyH_take (i := 17) (v := ?_) rfl (by kernel_rfl) (by kernel_rfl) (by kernel_rfl) (fun _ _ _ h => h) (Or.inl ⟨by kernel_rfl, by (intro wz hSz; go_simp; try with_reducible rfl)⟩) hS20 ?_
  go_simp
  refine wpAnyH_take (i := 18) (v := ?_) rfl (by kernel_rfl) (by kernel_rfl) (by kernel_rfl) (fun _ _ _ h => h) (Or.inl ⟨by kernel_rfl, by (intro wz hSz; go_simp; try with_reducible rfl)⟩) hS20 ?_
  go_simp
  refine wpAnyH_take (i := 19) (v := ?_) rfl (by kernel_rfl) (by kernel_rfl) (by kernel_rfl) (fun _ _ _ h => h) (Or.inl ⟨by kernel_rfl, by (intro wz hSz; go_simp; try with_reducible rfl)⟩) hS20 ?_
  go_simp
  refine wpAnyH_done (by kernel_rfl) ?_ _
  go_wp2
  go_ret
  exact ⟨rfl, HB.out.trans (hS20.mono HB.out.size)⟩

set_option maxHeartbeats 16000000 in
set_option maxRecDepth 100000 in
theorem shows_C (W H : Int) (al ad an ab ax af : Option Addr) (cl cd cn cb cx cf nl nd nn nb ns nf : Nat) (L D N Bb S F : Nat → Int) (w : World) (hc : Fm.Came w (⟨W, H, nl, nd, nn, nb, ns, nf, L, D, N, Bb, S, F⟩ : Fm.Flm) (⟨al, cl, ad, cd, an, cn, ab, cb, ax, cx, af, cf⟩ : Fm.Pl)) (h0 : nl ≤ 5000) (h1 : ns ≤ 5000) (h2 : nd ≤ 5000) (h3 : nn ≤ 5000) (hS : ¬ Fm.okSh W H nl) (hF : ¬ Fm.okF (⟨W, H, nl, nd, nn, nb, ns, nf, L, D, N, Bb, S, F⟩ : Fm.Flm)) : Calls Tryd.prog 3 #[.agg #[.int .i64 W, .int .i64 H, .slice al nl cl, .slice ad nd cd, .slice an nn cn, .slice ab nb cb, .slice ax ns cx, .slice af nf cf]] w fun e' w' => e' = .returned (.bool true) ∧ Below w.heap.size w w' := by
  have HC := Lib.hid hc.at_
  have HCM := Lib.hid hc
  have HOKS := Lib.hid hS
  have HOKF := Lib.hid hF
  have hlt := fun w => light_y W H al ad an ab ax af cl cd cn cb cx cf nl nd nn nb ns nf w h0 h1 h2 h3
  have hdr := fun w => Fm.drsheet_any W H al nl cl w
  have hdf := fun w hA => Fm.dright_any (⟨W, H, nl, nd, nn, nb, ns, nf, L, D, N, Bb, S, F⟩ : Fm.Flm) (⟨al, cl, ad, cd, an, cn, ab, cb, ax, cx, af, cf⟩ : Fm.Pl) w hA
  rw [decide_eq_false hS] at hdr
  rw [decide_eq_false hF] at hdf
  have HGS := Lib.hid (show ∀ j, 0 ≤ (fun j => Pl.shade (Pl.tone (max (L j) 0))) j ∧ (fun j => Pl.shade (Pl.tone (max (L j) 0))) j ≤ 255 from fun j => Pl.shade_bd _)
  have HGD := Lib.hid (show ∀ j, 0 ≤ (fun j => Pl.shade (near (D (j / 3)) (S (j / 3)))) j ∧ (fun j => Pl.shade (near (D (j / 3)) (S (j / 3)))) j ≤ 255 from fun j => Pl.shade_bd _)
  have HGN := Lib.hid (show ∀ j, 0 ≤ (fun j => side (N j)) j ∧ (fun j => side (N j)) j ≤ 255 from fun j => Pl.shade_bd _)
  obtain ⟨GS, hGS⟩ : ∃ G, G = fun j => Pl.shade (Pl.tone (max (L j) 0)) := ⟨_, rfl⟩
  obtain ⟨GD, hGD⟩ : ∃ G, G = fun j => Pl.shade (near (D (j / 3)) (S (j / 3))) := ⟨_, rfl⟩
  obtain ⟨GN, hGN⟩ : ∃ G, G = fun j => side (N j) := ⟨_, rfl⟩
  rw [← hGS] at HGS
  rw [← hGD] at HGD
  rw [← hGN] at HGN
  have EGS := Lib.hid hGS
  have EGD := Lib.hid hGD
  have EGN := Lib.hid hGN
  clear hc hS hF hGS hGD hGN
  go_enter Tryd.func3, Tryd.ntmps3
  go_upto_region 1 with fail
  have hr0 := heap_alloc_last w (.cells #[.int .i64 W, .int .i64 H, .slice al nl cl, .slice ad nd cd, .slice an nn cn, .slice ab nb cb, .slice ax ns cx, .slice af nf cf] 29)
  have hb0 := Ve.below_n1 w (.cells #[.int .i64 W, .int .i64 H, .slice al nl cl, .slice ad nd cd, .slice an nn cn, .slice ab nb cb, .slice ax ns cx, .slice af nf cf] 29)
  obtain ⟨y0, hy0⟩ : ∃ y0, w.alloc (.cells #[.int .i64 W, .int .i64 H, .slice al nl cl, .slice ad nd cd, .slice an nn cn, .slice ab nb cb, .slice ax ns cx, .slice af nf cf] 29) = y0 := ⟨_, rfl⟩
  obtain ⟨p0, hp0⟩ : ∃ p, p = w.heap.size := ⟨_, rfl⟩
  rw [hy0] at hr0 hb0 ⊢
  rw [← hp0] at hr0 ⊢
  clear hy0 hp0
  have HR := Lib.hid hr0
  have HB := Lib.hid hb0
  have HAT := Lib.hid (HC.out.on hb0)
  clear hb0 hr0
  have c0 := cell_of_row _ _ 0 _ _ _ HR.out
  have c1 := cell_of_row _ _ 1 _ _ _ HR.out
  have c2 := cell_of_row _ _ 2 _ _ _ HR.out
  have c3 := cell_of_row _ _ 3 _ _ _ HR.out
  have c4 := cell_of_row _ _ 4 _ _ _ HR.out
  have c5 := cell_of_row _ _ 5 _ _ _ HR.out
  have c6 := cell_of_row _ _ 6 _ _ _ HR.out
  have c7 := cell_of_row _ _ 7 _ _ _ HR.out
  simp at c0 c1 c2 c3 c4 c5 c6 c7
  go_upto_region 3 with (go_at_call 6; refine (hlt _).mono ?_; rintro e y1 ⟨rfl, hb1⟩)
  replace HR := Lib.hid ((hb1.block _ (lt_heap HR.out)).trans HR.out)
  replace HB := Lib.hid (HB.out.trans (hb1.mono HB.out.size))
  replace HAT := Lib.hid (HAT.out.on hb1)
  clear hb1 hlt
  clear c0 c1 c2 c3 c4 c5 c6 c7
  have c0 := cell_of_row _ _ 0 _ _ _ HR.out
  have c1 := cell_of_row _ _ 1 _ _ _ HR.out
  have c2 := cell_of_row _ _ 2 _ _ _ HR.out
  have c3 := cell_of_row _ _ 3 _ _ _ HR.out
  have c4 := cell_of_row _ _ 4 _ _ _ HR.out
  have c5 := cell_of_row _ _ 5 _ _ _ HR.out
  have c6 := cell_of_row _ _ 6 _ _ _ HR.out
  have c7 := cell_of_row _ _ 7 _ _ _ HR.out
  simp at c0 c1 c2 c3 c4 c5 c6 c7
  go_upto_region 4 with (go_at_call 8; refine (Fm.to_film (⟨W, H, nl, nd, nn, nb, ns, nf, L, D, N, Bb, S, F⟩ : Fm.Flm) (⟨al, cl, ad, cd, an, cn, ab, cb, ax, cx, af, cf⟩ : Fm.Pl) _ HAT.out HCM.out.bl HCM.out.bd HCM.out.bn HCM.out.bb HCM.out.bs HCM.out.bf HCM.out.ks HCM.out.kf).mono ?_; rintro e y2 ⟨⟨⟨al2, cl2, ad2, cd2, an2, cn2, ab2, cb2, ax2, cx2, af2, cf2⟩, rfl, hat⟩, hb2⟩)
  replace HR := Lib.hid ((hb2.block _ (lt_heap HR.out)).trans HR.out)
  replace HB := Lib.hid (HB.out.trans (hb2.mono HB.out.size))
  replace HAT := Lib.hid (HAT.out.on hb2)
  have HXT := Lib.hid hat
  clear hb2 hat
  clear c0 c1 c2 c3 c4 c5 c6 c7
  have hq_ := heap_alloc_last y2 (.cells #[.int .i64 W, .int .i64 H, .slice al2 nl cl2, .slice ad2 nd cd2, .slice an2 nn cn2, .slice ab2 nb cb2, .slice ax2 ns cx2, .slice af2 nf cf2] 40)
  have hb_ := Ve.below_n1 y2 (.cells #[.int .i64 W, .int .i64 H, .slice al2 nl cl2, .slice ad2 nd cd2, .slice an2 nn cn2, .slice ab2 nb cb2, .slice ax2 ns cx2, .slice af2 nf cf2] 40)
  obtain ⟨y3, hy_⟩ : ∃ y, y2.alloc (.cells #[.int .i64 W, .int .i64 H, .slice al2 nl cl2, .slice ad2 nd cd2, .slice an2 nn cn2, .slice ab2 nb cb2, .slice ax2 ns cx2, .slice af2 nf cf2] 40) = y := ⟨_, rfl⟩
  obtain ⟨py3, hp_⟩ : ∃ p, p = y2.heap.size := ⟨_, rfl⟩
  rw [hy_] at hq_ hb_ ⊢
  rw [← hp_] at hq_ ⊢
  clear hy_ hp_
  replace HR := Lib.hid ((hb_.block _ (lt_heap HR.out)).trans HR.out)
  replace HB := Lib.hid (HB.out.trans (hb_.mono HB.out.size))
  replace HAT := Lib.hid (HAT.out.on hb_)
  replace HXT := Lib.hid (HXT.out.on hb_)
  have HX := Lib.hid hq_
  clear hq_ hb_
  have c0 := cell_of_row _ _ 0 _ _ _ HX.out
  have c1 := cell_of_row _ _ 1 _ _ _ HX.out
  have c2 := cell_of_row _ _ 2 _ _ _ HX.out
  have c3 := cell_of_row _ _ 3 _ _ _ HX.out
  have c4 := cell_of_row _ _ 4 _ _ _ HX.out
  have c5 := cell_of_row _ _ 5 _ _ _ HX.out
  have c6 := cell_of_row _ _ 6 _ _ _ HX.out
  have c7 := cell_of_row _ _ 7 _ _ _ HX.out
  simp at c0 c1 c2 c3 c4 c5 c6 c7
  go_upto_region 5 with (go_at_call 9; refine (show_no W H al2 nl cl2 _ HOKS.out).mono ?_; rintro e y4 ⟨rfl, hb_⟩)
  replace HR := Lib.hid ((hb_.block _ (lt_heap HR.out)).trans HR.out)
  replace HB := Lib.hid (HB.out.trans (hb_.mono HB.out.size))
  replace HAT := Lib.hid (HAT.out.on hb_)
  replace HXT := Lib.hid (HXT.out.on hb_)
  replace HX := Lib.hid ((hb_.block _ (lt_heap HX.out)).trans HX.out)
  clear hb_
  clear c0 c1 c2 c3 c4 c5 c6 c7
  have hq_ := heap_alloc_last y4 (.cells #[.int .i64 0, .int .i64 0, .slice none 0 0] 44)
  have hb_ := Ve.below_n1 y4 (.cells #[.int .i64 0, .int .i64 0, .slice none 0 0] 44)
  obtain ⟨y4b, hy_⟩ : ∃ y, y4.alloc (.cells #[.int .i64 0, .int .i64 0, .slice none 0 0] 44) = y := ⟨_, rfl⟩
  obtain ⟨py4b, hp_⟩ : ∃ p, p = y4.heap.size := ⟨_, rfl⟩
  rw [hy_] at hq_ hb_ ⊢
  rw [← hp_] at hq_ ⊢
  clear hy_ hp_
  replace HR := Lib.hid ((hb_.block _ (lt_heap HR.out)).trans HR.out)
  replace HB := Lib.hid (HB.out.trans (hb_.mono HB.out.size))
  replace HAT := Lib.hid (HAT.out.on hb_)
  replace HXT := Lib.hid (HXT.out.on hb_)
  replace HX := Lib.hid ((hb_.block _ (lt_heap HX.out)).trans HX.out)
  have HPA := Lib.hid hq_
  clear hq_ hb_
  have c0 := cell_of_row _ _ 0 _ _ _ HX.out
  have c1 := cell_of_row _ _ 1 _ _ _ HX.out
  have c2 := cell_of_row _ _ 2 _ _ _ HX.out
  have c3 := cell_of_row _ _ 3 _ _ _ HX.out
  have c4 := cell_of_row _ _ 4 _ _ _ HX.out
  have c5 := cell_of_row _ _ 5 _ _ _ HX.out
  have c6 := cell_of_row _ _ 6 _ _ _ HX.out
  have c7 := cell_of_row _ _ 7 _ _ _ HX.out
  simp at c0 c1 c2 c3 c4 c5 c6 c7
  go_upto_region 6 with (go_at_call 10; refine (depths_no W H al2 ad2 an2 ab2 ax2 af2 cl2 cd2 cn2 cb2 cx2 cf2 nl nd nn nb ns nf L D N Bb S F _ HXT.out HOKF.out).mono ?_; rintro e y5 ⟨rfl, hb_⟩)
  replace HR := Lib.hid ((hb_.block _ (lt_heap HR.out)).trans HR.out)
  replace HB := Lib.hid (HB.out.trans (hb_.mono HB.out.size))
  replace HAT := Lib.hid (HAT.out.on hb_)
  replace HXT := Lib.hid (HXT.out.on hb_)
  replace HX := Lib.hid ((hb_.block _ (lt_heap HX.out)).trans HX.out)
  replace HPA := Lib.hid ((hb_.block _ (lt_heap HPA.out)).trans HPA.out)
  clear hb_
  clear c0 c1 c2 c3 c4 c5 c6 c7
  have hq_ := heap_alloc_last y5 (.cells #[.int .i64 0, .int .i64 0, .slice none 0 0] 44)
  have hb_ := Ve.below_n1 y5 (.cells #[.int .i64 0, .int .i64 0, .slice none 0 0] 44)
  obtain ⟨y5b, hy_⟩ : ∃ y, y5.alloc (.cells #[.int .i64 0, .int .i64 0, .slice none 0 0] 44) = y := ⟨_, rfl⟩
  obtain ⟨py5b, hp_⟩ : ∃ p, p = y5.heap.size := ⟨_, rfl⟩
  rw [hy_] at hq_ hb_ ⊢
  rw [← hp_] at hq_ ⊢
  clear hy_ hp_
  replace HR := Lib.hid ((hb_.block _ (lt_heap HR.out)).trans HR.out)
  replace HB := Lib.hid (HB.out.trans (hb_.mono HB.out.size))
  replace HAT := Lib.hid (HAT.out.on hb_)
  replace HXT := Lib.hid (HXT.out.on hb_)
  replace HX := Lib.hid ((hb_.block _ (lt_heap HX.out)).trans HX.out)
  replace HPA := Lib.hid ((hb_.block _ (lt_heap HPA.out)).trans HPA.out)
  have HPB := Lib.hid hq_
  clear hq_ hb_
  have c0 := cell_of_row _ _ 0 _ _ _ HX.out
  have c1 := cell_of_row _ _ 1 _ _ _ HX.out
  have c2 := cell_of_row _ _ 2 _ _ _ HX.out
  have c3 := cell_of_row _ _ 3 _ _ _ HX.out
  have c4 := cell_of_row _ _ 4 _ _ _ HX.out
  have c5 := cell_of_row _ _ 5 _ _ _ HX.out
  have c6 := cell_of_row _ _ 6 _ _ _ HX.out
  have c7 := cell_of_row _ _ 7 _ _ _ HX.out
  simp at c0 c1 c2 c3 c4 c5 c6 c7
  go_upto_region 7 with (go_at_call 11; refine (normals_no W H al2 ad2 an2 ab2 ax2 af2 cl2 cd2 cn2 cb2 cx2 cf2 nl nd nn nb ns nf L D N Bb S F _ HXT.out HOKF.out).mono ?_; rintro e y6 ⟨rfl, hb_⟩)
  replace HR := Lib.hid ((hb_.block _ (lt_heap HR.out)).trans HR.out)
  replace HB := Lib.hid (HB.out.trans (hb_.mono HB.out.size))
  replace HAT := Lib.hid (HAT.out.on hb_)
  replace HXT := Lib.hid (HXT.out.on hb_)
  replace HX := Lib.hid ((hb_.block _ (lt_heap HX.out)).trans HX.out)
  replace HPA := Lib.hid ((hb_.block _ (lt_heap HPA.out)).trans HPA.out)
  replace HPB := Lib.hid ((hb_.block _ (lt_heap HPB.out)).trans HPB.out)
  clear hb_
  clear c0 c1 c2 c3 c4 c5 c6 c7
  have hq_ := heap_alloc_last y6 (.cells #[.int .i64 0, .int .i64 0, .slice none 0 0] 44)
  have hb_ := Ve.below_n1 y6 (.cells #[.int .i64 0, .int .i64 0, .slice none 0 0] 44)
  obtain ⟨y6b, hy_⟩ : ∃ y, y6.alloc (.cells #[.int .i64 0, .int .i64 0, .slice none 0 0] 44) = y := ⟨_, rfl⟩
  obtain ⟨py6b, hp_⟩ : ∃ p, p = y6.heap.size := ⟨_, rfl⟩
  rw [hy_] at hq_ hb_ ⊢
  rw [← hp_] at hq_ ⊢
  clear hy_ hp_
  replace HR := Lib.hid ((hb_.block _ (lt_heap HR.out)).trans HR.out)
  replace HB := Lib.hid (HB.out.trans (hb_.mono HB.out.size))
  replace HAT := Lib.hid (HAT.out.on hb_)
  replace HXT := Lib.hid (HXT.out.on hb_)
  replace HX := Lib.hid ((hb_.block _ (lt_heap HX.out)).trans HX.out)
  replace HPA := Lib.hid ((hb_.block _ (lt_heap HPA.out)).trans HPA.out)
  replace HPB := Lib.hid ((hb_.block _ (lt_heap HPB.out)).trans HPB.out)
  have HPC := Lib.hid hq_
  clear hq_ hb_
  have c0 := cell_of_row _ _ 0 _ _ _ HR.out
  have c1 := cell_of_row _ _ 1 _ _ _ HR.out
  have c2 := cell_of_row _ _ 2 _ _ _ HR.out
  have c3 := cell_of_row _ _ 3 _ _ _ HR.out
  have c4 := cell_of_row _ _ 4 _ _ _ HR.out
  have c5 := cell_of_row _ _ 5 _ _ _ HR.out
  have c6 := cell_of_row _ _ 6 _ _ _ HR.out
  have c7 := cell_of_row _ _ 7 _ _ _ HR.out
  simp at c0 c1 c2 c3 c4 c5 c6 c7
  go_upto_region 9 with (first | (go_at_call 12; refine (hdr _).mono ?_; rintro e z_ ⟨rfl, hz_⟩; replace HR := Lib.hid ((hz_.block _ (lt_heap HR.out)).trans HR.out); replace HB := Lib.hid (HB.out.trans (hz_.mono HB.out.size)); replace HAT := Lib.hid (HAT.out.on hz_); replace HXT := Lib.hid (HXT.out.on hz_); replace HX := Lib.hid ((hz_.block _ (lt_heap HX.out)).trans HX.out); replace HPA := Lib.hid ((hz_.block _ (lt_heap HPA.out)).trans HPA.out); replace HPB := Lib.hid ((hz_.block _ (lt_heap HPB.out)).trans HPB.out); replace HPC := Lib.hid ((hz_.block _ (lt_heap HPC.out)).trans HPC.out); clear hz_ c0 c1 c2 c3 c4 c5 c6 c7; have c0 := cell_of_row _ _ 0 _ _ _ HR.out; have c1 := cell_of_row _ _ 1 _ _ _ HR.out; have c2 := cell_of_row _ _ 2 _ _ _ HR.out; have c3 := cell_of_row _ _ 3 _ _ _ HR.out; have c4 := cell_of_row _ _ 4 _ _ _ HR.out; have c5 := cell_of_row _ _ 5 _ _ _ HR.out; have c6 := cell_of_row _ _ 6 _ _ _ HR.out; have c7 := cell_of_row _ _ 7 _ _ _ HR.out; simp at c0 c1 c2 c3 c4 c5 c6 c7) | (go_at_call 13; refine (hdf _ HAT.out).mono ?_; rintro e z_ ⟨rfl, hz_⟩; replace HR := Lib.hid ((hz_.block _ (lt_heap HR.out)).trans HR.out); replace HB := Lib.hid (HB.out.trans (hz_.mono HB.out.size)); replace HAT := Lib.hid (HAT.out.on hz_); replace HXT := Lib.hid (HXT.out.on hz_); replace HX := Lib.hid ((hz_.block _ (lt_heap HX.out)).trans HX.out); replace HPA := Lib.hid ((hz_.block _ (lt_heap HPA.out)).trans HPA.out); replace HPB := Lib.hid ((hz_.block _ (lt_heap HPB.out)).trans HPB.out); replace HPC := Lib.hid ((hz_.block _ (lt_heap HPC.out)).trans HPC.out); clear hz_ c0 c1 c2 c3 c4 c5 c6 c7; have c0 := cell_of_row _ _ 0 _ _ _ HR.out; have c1 := cell_of_row _ _ 1 _ _ _ HR.out; have c2 := cell_of_row _ _ 2 _ _ _ HR.out; have c3 := cell_of_row _ _ 3 _ _ _ HR.out; have c4 := cell_of_row _ _ 4 _ _ _ HR.out; have c5 := cell_of_row _ _ 5 _ _ _ HR.out; have c6 := cell_of_row _ _ 6 _ _ _ HR.out; have c7 := cell_of_row _ _ 7 _ _ _ HR.out; simp at c0 c1 c2 c3 c4 c5 c6 c7))
  clear c0 c1 c2 c3 c4 c5 c6 c7
  obtain ⟨yA, hyA⟩ : ∃ y : World, y = z_ := ⟨_, rfl⟩
  rw [← hyA] at HR HB HAT HXT HX HPA HPB HPC ⊢
  clear hyA
  have hS00 : Below yA.heap.size yA yA.drew := (Below.refl _ yA).drew
  refine wp_region_held_drew (S := Below yA.heap.size yA) (by kernel_rfl) (hS00) (fun hS0 => ?_)
  refine wpAnyH_take (i := 0) (v := ?_) rfl (by kernel_rfl) (by kernel_rfl) (by kernel_rfl) (fun _ _ _ h => h) (Or.inl ⟨by kernel_rfl, by (intro wz hSz; go_simp; try with_reducible rfl)⟩) hS0 ?_
  go_simp
  refine wpAnyH_take (i := 1) (v := ?_) rfl (by kernel_rfl) (by kernel_rfl) (by kernel_rfl) (fun _ _ _ h => h) (Or.inl ⟨by kernel_rfl, by (intro wz hSz; go_simp; try with_reducible rfl)⟩) hS0 ?_
  go_simp
  refine wpAnyH_take (i := 2) (v := ?_) rfl (by kernel_rfl) (by kernel_rfl) (by kernel_rfl) (fun _ _ _ h => h) (Or.inl ⟨by kernel_rfl, by (intro wz hSz; go_simp; try with_reducible rfl)⟩) hS0 ?_
  go_simp
  refine wpAnyH_take (i := 3) (v := ?_) rfl (by kernel_rfl) (by kernel_rfl) (by kernel_rfl) (fun _ _ _ h => h) (Or.inl ⟨by kernel_rfl, by (intro wz hSz; go_simp; try with_reducible rfl)⟩) hS0 ?_
  go_simp
  refine wpAnyH_take (i := 4) (v := ?_) rfl (by kernel_rfl) (by kernel_rfl) (by kernel_rfl) (fun _ _ _ h => h) (Or.inl ⟨by kernel_rfl, by (intro wz hSz; go_simp; try with_reducible rfl)⟩) hS0 ?_
  go_simp
  refine wpAnyH_take (i := 5) (v := ?_) rfl (by kernel_rfl) (by kernel_rfl) (by kernel_rfl) (fun _ _ _ h => h) (Or.inl ⟨by kernel_rfl, by (intro wz hSz; go_simp; try with_reducible rfl)⟩) hS0 ?_
  go_simp
  refine wpAnyH_take (i := 6) (v := ?_) rfl (by kernel_rfl) (by kernel_rfl) (by kernel_rfl) (fun _ _ _ h => h) (Or.inl ⟨by kernel_rfl, by (intro wz hSz; go_simp; try with_reducible rfl)⟩) hS0 ?_
  go_simp
  refine wpAnyH_take (i := 7) (v := ?_) rfl (by kernel_rfl) (by kernel_rfl) (by kernel_rfl) (fun _ _ _ h => h) (Or.inl ⟨by kernel_rfl, by (intro wz hSz; have hc_ := (hSz.block _ (lt_heap HPA.out)).trans HPA.out; have cq0 := cell_of_row _ _ 0 _ _ _ hc_; have cq1 := cell_of_row _ _ 1 _ _ _ hc_; have cq2 := cell_of_row _ _ 2 _ _ _ hc_; simp at cq0 cq1 cq2; go_simp; try with_reducible rfl)⟩) hS0 ?_
  go_simp
  refine wpAnyH_take (i := 8) (v := ?_) rfl (by kernel_rfl) (by kernel_rfl) (by kernel_rfl) (fun _ _ _ h => h) (Or.inl ⟨by kernel_rfl, by (intro wz hSz; go_simp; try with_reducible rfl)⟩) hS0 ?_
  go_simp
  refine wpAnyH_take (i := 9) (v := ?_) rfl (by kernel_rfl) (by kernel_rfl) (by kernel_rfl) (fun _ _ _ h => h) (Or.inl ⟨by kernel_rfl, by (intro wz hSz; go_simp; try with_reducible rfl)⟩) hS0 ?_
  go_simp
  refine wpAnyH_take (i := 10) (v := ?_) rfl (by kernel_rfl) (by kernel_rfl) (by kernel_rfl) (fun _ _ _ h => h) (Or.inl ⟨by kernel_rfl, by (intro wz hSz; go_simp; try with_reducible rfl)⟩) hS0 ?_
  go_simp
  refine wpAnyH_take (i := 11) (v := ?_) rfl (by kernel_rfl) (by kernel_rfl) (by kernel_rfl) (fun _ _ _ h => h) (Or.inl ⟨by kernel_rfl, by (intro wz hSz; go_simp; try with_reducible rfl)⟩) hS0 ?_
  go_simp
  refine wpAnyH_take (i := 12) (v := ?_) rfl (by kernel_rfl) (by kernel_rfl) (by kernel_rfl) (fun _ _ _ h => h) (Or.inl ⟨by kernel_rfl, by (intro wz hSz; go_simp; try with_reducible rfl)⟩) hS0 ?_
  go_simp
  refine wpAnyH_take (i := 13) (v := ?_) rfl (by kernel_rfl) (by kernel_rfl) (by kernel_rfl) (fun _ _ _ h => h) (Or.inl ⟨by kernel_rfl, by (intro wz hSz; go_simp; try with_reducible rfl)⟩) hS0 ?_
  go_simp
  refine wpAnyH_take (i := 14) (v := ?_) rfl (by kernel_rfl) (by kernel_rfl) (by kernel_rfl) (fun _ _ _ h => h) (Or.inl ⟨by kernel_rfl, by (intro wz hSz; go_simp; try with_reducible rfl)⟩) hS0 ?_
  go_simp
  refine wpAnyH_take (i := 15) (v := ?_) rfl (by kernel_rfl) (by kernel_rfl) (by kernel_rfl) (fun _ _ _ h => h) (Or.inl ⟨by kernel_rfl, by (intro wz hSz; go_simp; try with_reducible rfl)⟩) hS0 ?_
  go_simp
  refine wpAnyH_take (i := 16) (v := undef) rfl (by kernel_rfl) (by kernel_rfl) (by kernel_rfl) (fun _ _ _ h => h) (Or.inr ⟨by kernel_rfl, rfl⟩) hS0 ?_
  go_simp
  refine wpAnyH_take (i := 17) (v := undef) rfl (by kernel_rfl) (by kernel_rfl) (by kernel_rfl) (fun _ _ _ h => h) (Or.inr ⟨by kernel_rfl, rfl⟩) hS0 ?_
  go_simp
  refine wpAnyH_take (i := 18) (v := undef) rfl (by kernel_rfl) (by kernel_rfl) (by kernel_rfl) (fun _ _ _ h => h) (Or.inr ⟨by kernel_rfl, rfl⟩) hS0 ?_
  go_simp
  refine wpAnyH_take (i := 19) (v := undef) rfl (by kernel_rfl) (by kernel_rfl) (by kernel_rfl) (fun _ _ _ h => h) (Or.inr ⟨by kernel_rfl, rfl⟩) hS0 ?_
  go_simp
  refine wpAnyH_take (i := 20) (v := undef) rfl (by kernel_rfl) (by kernel_rfl) (by kernel_rfl) (fun _ _ _ h => h) (Or.inr ⟨by kernel_rfl, rfl⟩) hS0 ?_
  go_simp
  refine wpAnyH_take (i := 21) (v := undef) rfl (by kernel_rfl) (by kernel_rfl) (by kernel_rfl) (fun _ _ _ h => h) (Or.inr ⟨by kernel_rfl, rfl⟩) hS0 ?_
  go_simp
  refine wpAnyH_take (i := 22) (v := undef) rfl (by kernel_rfl) (by kernel_rfl) (by kernel_rfl) (fun _ _ _ h => h) (Or.inr ⟨by kernel_rfl, rfl⟩) hS0 ?_
  go_simp
  refine wpAnyH_take (i := 23) (v := undef) rfl (by kernel_rfl) (by kernel_rfl) (by kernel_rfl) (fun _ _ _ h => h) (Or.inr ⟨by kernel_rfl, rfl⟩) hS0 ?_
  go_simp
  refine wpAnyH_take (i := 24) (v := undef) rfl (by kernel_rfl) (by kernel_rfl) (by kernel_rfl) (fun _ _ _ h => h) (Or.inr ⟨by kernel_rfl, rfl⟩) hS0 ?_
  go_simp
  refine wpAnyH_take (i := 25) (v := undef) rfl (by kernel_rfl) (by kernel_rfl) (by kernel_rfl) (fun _ _ _ h => h) (Or.inr ⟨by kernel_rfl, rfl⟩) hS0 ?_
  go_simp
  refine wpAnyH_take (i := 26) (v := undef) rfl (by kernel_rfl) (by kernel_rfl) (by kernel_rfl) (fun _ _ _ h => h) (Or.inr ⟨by kernel_rfl, rfl⟩) hS0 ?_
  go_simp
  refine wpAnyH_take (i := 27) (v := undef) rfl (by kernel_rfl) (by kernel_rfl) (by kernel_rfl) (fun _ _ _ h => h) (Or.inr ⟨by kernel_rfl, rfl⟩) hS0 ?_
  go_simp
  refine wpAnyH_take (i := 28) (v := ?_) rfl (by kernel_rfl) (by kernel_rfl) (by kernel_rfl) (fun _ _ _ h => h) (Or.inl ⟨by kernel_rfl, by (intro wz hSz; go_simp; try with_reducible rfl)⟩) hS0 ?_
  go_simp
  refine wpAnyH_take (i := 29) (v := ?_) rfl (by kernel_rfl) (by kernel_rfl) (by kernel_rfl) (fun _ _ _ h => h) (Or.inl ⟨by kernel_rfl, by (intro wz hSz; go_simp; try with_reducible rfl)⟩) hS0 ?_
  go_simp
  refine wpAnyH_done (by kernel_rfl) ?_ _
  obtain ⟨yB, hyB⟩ : ∃ y : World, yA.drew = y := ⟨_, rfl⟩
  rw [hyB] at hS0 ⊢
  replace HR := Lib.hid ((hS0.block _ (lt_heap HR.out)).trans HR.out)
  replace HB := Lib.hid (HB.out.trans (hS0.mono HB.out.size))
  replace HAT := Lib.hid (HAT.out.on hS0)
  replace HXT := Lib.hid (HXT.out.on hS0)
  replace HX := Lib.hid ((hS0.block _ (lt_heap HX.out)).trans HX.out)
  replace HPA := Lib.hid ((hS0.block _ (lt_heap HPA.out)).trans HPA.out)
  replace HPB := Lib.hid ((hS0.block _ (lt_heap HPB.out)).trans HPB.out)
  replace HPC := Lib.hid ((hS0.block _ (lt_heap HPC.out)).trans HPC.out)
  clear hyB
  go_upto_region 11 with fail
  have hT00 : Below yB.heap.size yB yB.drew := (Below.refl _ yB).drew
  refine wp_region_held_drew (S := Below yB.heap.size yB) (by kernel_rfl) (hT00) (fun hS0 => ?_)
  refine wpAnyH_ready (rs := [0]) (by kernel_rfl) (by simp) ?_
  refine AllReadyH.cons rfl (fun K hK => ?_) AllReadyH.nil
  go_simp
  go_wp2_with (go_at_call 7; refine (awake_any _).mono ?_; rintro e z20 ⟨rfl, hb20⟩)
  have hS20_ := hS0.trans (hb20.mono hS0.size)
  clear hb20
  refine hK.out _ _ (hS20_) (fun hS20 => ?_)
  clear hK K
  refine wpAnyH_take (i := 1) (v := ?_) rfl (by kernel_rfl) (by kernel_rfl) (by kernel_rfl) (fun _ _ _ h => h) (Or.inl ⟨by kernel_rfl, by (intro wz hSz; go_simp; try with_reducible rfl)⟩) hS20 ?_
  go_simp
  refine wpAnyH_take (i := 2) (v := ?_) rfl (by kernel_rfl) (by kernel_rfl) (by kernel_rfl) (fun _ _ _ h => h) (Or.inl ⟨by kernel_rfl, by (intro wz hSz; go_simp; try with_reducible rfl)⟩) hS20 ?_
  go_simp
  refine wpAnyH_take (i := 3) (v := ?_) rfl (by kernel_rfl) (by kernel_rfl) (by kernel_rfl) (fun _ _ _ h => h) (Or.inl ⟨by kernel_rfl, by (intro wz hSz; go_simp; try with_reducible rfl)⟩) hS20 ?_
  go_simp
  refine wpAnyH_take (i := 4) (v := ?_) rfl (by kernel_rfl) (by kernel_rfl) (by kernel_rfl) (fun _ _ _ h => h) (Or.inl ⟨by kernel_rfl, by (intro wz hSz; go_simp; try with_reducible rfl)⟩) hS20 ?_
  go_simp
  refine wpAnyH_take (i := 5) (v := undef) rfl (by kernel_rfl) (by kernel_rfl) (by kernel_rfl) (fun _ _ _ h => h) (Or.inr ⟨by kernel_rfl, rfl⟩) hS20 ?_
  go_simp
  refine wpAnyH_take (i := 6) (v := undef) rfl (by kernel_rfl) (by kernel_rfl) (by kernel_rfl) (fun _ _ _ h => h) (Or.inr ⟨by kernel_rfl, rfl⟩) hS20 ?_
  go_simp
  refine wpAnyH_take (i := 7) (v := undef) rfl (by kernel_rfl) (by kernel_rfl) (by kernel_rfl) (fun _ _ _ h => h) (Or.inr ⟨by kernel_rfl, rfl⟩) hS20 ?_
  go_simp
  refine wpAnyH_take (i := 8) (v := undef) rfl (by kernel_rfl) (by kernel_rfl) (by kernel_rfl) (fun _ _ _ h => h) (Or.inr ⟨by kernel_rfl, rfl⟩) hS20 ?_
  go_simp
  refine wpAnyH_take (i := 9) (v := undef) rfl (by kernel_rfl) (by kernel_rfl) (by kernel_rfl) (fun _ _ _ h => h) (Or.inr ⟨by kernel_rfl, rfl⟩) hS20 ?_
  go_simp
  refine wpAnyH_take (i := 10) (v := undef) rfl (by kernel_rfl) (by kernel_rfl) (by kernel_rfl) (fun _ _ _ h => h) (Or.inr ⟨by kernel_rfl, rfl⟩) hS20 ?_
  go_simp
  refine wpAnyH_take (i := 11) (v := undef) rfl (by kernel_rfl) (by kernel_rfl) (by kernel_rfl) (fun _ _ _ h => h) (Or.inr ⟨by kernel_rfl, rfl⟩) hS20 ?_
  go_simp
  refine wpAnyH_take (i := 12) (v := undef) rfl (by kernel_rfl) (by kernel_rfl) (by kernel_rfl) (fun _ _ _ h => h) (Or.inr ⟨by kernel_rfl, rfl⟩) hS20 ?_
  go_simp
  refine wpAnyH_take (i := 13) (v := undef) rfl (by kernel_rfl) (by kernel_rfl) (by kernel_rfl) (fun _ _ _ h => h) (Or.inr ⟨by kernel_rfl, rfl⟩) hS20 ?_
  go_simp
  refine wpAnyH_take (i := 14) (v := undef) rfl (by kernel_rfl) (by kernel_rfl) (by kernel_rfl) (fun _ _ _ h => h) (Or.inr ⟨by kernel_rfl, rfl⟩) hS20 ?_
  go_simp
  refine wpAnyH_take (i := 15) (v := undef) rfl (by kernel_rfl) (by kernel_rfl) (by kernel_rfl) (fun _ _ _ h => h) (Or.inr ⟨by kernel_rfl, rfl⟩) hS20 ?_
  go_simp
  refine wpAnyH_take (i := 16) (v := undef) rfl (by kernel_rfl) (by kernel_rfl) (by kernel_rfl) (fun _ _ _ h => h) (Or.inr ⟨by kernel_rfl, rfl⟩) hS20 ?_
  go_simp
  refine wpAnyH_take (i := 17) (v := ?_) rfl (by kernel_rfl) (by kernel_rfl) (by kernel_rfl) (fun _ _ _ h => h) (Or.inl ⟨by kernel_rfl, by (intro wz hSz; go_simp; try with_reducible rfl)⟩) hS20 ?_
  go_simp
  refine wpAnyH_take (i := 18) (v := ?_) rfl (by kernel_rfl) (by kernel_rfl) (by kernel_rfl) (fun _ _ _ h => h) (Or.inl ⟨by kernel_rfl, by (intro wz hSz; go_simp; try with_reducible rfl)⟩) hS20 ?_
  go_simp
  refine wpAnyH_take (i := 19) (v := ?_) rfl (by kernel_rfl) (by kernel_rfl) (by kernel_rfl) (fun _ _ _ h => h) (Or.inl ⟨by kernel_rfl, by (intro wz hSz; go_simp; try with_reducible rfl)⟩) hS20 ?_
  go_simp
  refine wpAnyH_done (by kernel_rfl) ?_ _
  go_wp2
  go_ret
  exact ⟨rfl, HB.out.trans (hS20.mono HB.out.size)⟩

theorem walk (f : Fm.Flm) (p : Fm.Pl) (w : World) (hc : Fm.Came w f p) : Calls Tryd.prog 3 #[.agg (Fm.FC f p)] w fun e' w' => e' = .returned (.bool true) ∧ Below w.heap.size w w' := by
  obtain ⟨W, H, nl, nd, nn, nb, ns, nf, L, D, N, Bb, S, F⟩ := f
  obtain ⟨al, cl, ad, cd, an, cn, ab, cb, ax, cx, af, cf⟩ := p
  by_cases h0 : nl ≤ 5000
  · by_cases h1 : ns ≤ 5000
    · by_cases h2 : nd ≤ 5000
      · by_cases h3 : nn ≤ 5000
        · by_cases hS : Fm.okSh W H nl
          · by_cases hF : Fm.okF (⟨W, H, nl, nd, nn, nb, ns, nf, L, D, N, Bb, S, F⟩ : Fm.Flm)
            · exact shows_A W H al ad an ab ax af cl cd cn cb cx cf nl nd nn nb ns nf L D N Bb S F w hc h0 h1 h2 h3 hS hF
            · exact shows_B W H al ad an ab ax af cl cd cn cb cx cf nl nd nn nb ns nf L D N Bb S F w hc h0 h1 h2 h3 hS hF
          · exact shows_C W H al ad an ab ax af cl cd cn cb cx cf nl nd nn nb ns nf L D N Bb S F w hc h0 h1 h2 h3 hS (fun h => hS h.1)
        · exact big_3 W H al ad an ab ax af cl cd cn cb cx cf nl nd nn nb ns nf L D N Bb S F w hc.at_ h0 h1 h2 h3
      · exact big_2 W H al ad an ab ax af cl cd cn cb cx cf nl nd nn nb ns nf L D N Bb S F w hc.at_ h0 h1 h2
    · exact big_1 W H al ad an ab ax af cl cd cn cb cx cf nl nd nn nb ns nf L D N Bb S F w hc.at_ h0 h1
  · exact big_0 W H al ad an ab ax af cl cd cn cb cx cf nl nd nn nb ns nf L D N Bb S F w hc.at_ h0

end Go.Proofs.YtcohehekkeeeoaaDoor.plateShowsW
