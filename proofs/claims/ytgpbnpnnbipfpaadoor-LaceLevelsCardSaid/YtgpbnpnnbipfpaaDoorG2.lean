/- LaceLevels: the walk. -/
import Derived.Test.YtgpbnpnnbipfpaaDoorF51
namespace Go.Proofs.YtgpbnpnnbipfpaaDoor.laceLevelsW
open Go Go.RowKit Go.Proofs.YtgpbnpnnbipfpaaDoor Go.Proofs.YtgpbnpnnbipfpaaDoor.Rp Go.Proofs.YtgpbnpnnbipfpaaDoor.Re Go.Proofs.YtgpbnpnnbipfpaaDoor.Au Go.Proofs.YtgpbnpnnbipfpaaDoor.Jw Go.Proofs.YtgpbnpnnbipfpaaDoor.Fm
set_option linter.unusedVariables false
set_option linter.unusedSimpArgs false

theorem rwp_on {P : Nat → Prop} {c : Nat} {w w' : World} {a : Option Addr} {n : Nat} {L : Nat → Int} (h : RwP P c w a n L) (hc : 0 < c) (hb : Below w.heap.size w w') : RwP P c w' a n L :=
  ((h.lt hc).keep (fun b k => hb.block b k.2)).weak (fun b k => k.1)

/-- a row of three numbers each, in blocks of which something is known -/
structure R3 (P : Nat → Prop) (w : World) (a : Option Addr) (n : Nat) (L : Nat → Int) : Prop where
  h : RwP P 3 w a n L

theorem R3.below {P : Nat → Prop} {w w' : World} {a : Option Addr} {n : Nat} {L : Nat → Int} (h : R3 P w a n L) (hb : Below w.heap.size w w') : R3 P w' a n L := ⟨rwp_on h.h (by decide) hb⟩

theorem R3.keep {P : Nat → Prop} {w w' : World} {a : Option Addr} {n : Nat} {L : Nat → Int} (h : R3 P w a n L) (hk : ∀ b, P b → w'.heap[b]? = w.heap[b]?) : R3 P w' a n L := ⟨h.h.keep hk⟩

set_option maxHeartbeats 16000000 in
set_option maxRecDepth 100000 in
theorem big_0 (W H : Int) (al ad an ab ax af : Option Addr) (cl cd cn cb cx cf nl nd nn nb ns nf : Nat) (L0 D N B S F : Nat → Int) (W3 H3 : Int) (a : Option Addr) (n c : Nat) (L : Nat → Int) (lv : Int) (w : World) (hc : Came w (⟨W, H, nl, nd, nn, nb, ns, nf, L0, D, N, B, S, F⟩ : Flm) (⟨al, cl, ad, cd, an, cn, ab, cb, ax, cx, af, cf⟩ : Pl)) (hm : Rw 3 w a n L) (hm24 : n * 24 ≤ 140737488351232) (hcn : Cnt w) (k0 : ¬ nl ≤ 100) : Calls Tryd.prog 3 #[.agg #[.int .i64 W, .int .i64 H, .slice al nl cl, .slice ad nd cd, .slice an nn cn, .slice ab nb cb, .slice ax ns cx, .slice af nf cf], .agg #[.int .i64 W3, .int .i64 H3, .slice a n c], .int .i64 lv] w fun e' w' => e' = .returned (.bool true) ∧ Below w.heap.size w w' := by
  have HC := Lib.hid hc
  have HM := Lib.hid hm
  have HN_ := Lib.hid hcn
  clear hc hm hcn
  go_enter Tryd.func3, Tryd.ntmps3
  go_upto_region 1 with fail
  have hR := Au.rows2 w (.cells #[.int .i64 W, .int .i64 H, .slice al nl cl, .slice ad nd cd, .slice an nn cn, .slice ab nb cb, .slice ax ns cx, .slice af nf cf] 29) (.cells #[.int .i64 W3, .int .i64 H3, .slice a n c] 24)
  have HUx := Ve.below_n2 w (.cells #[.int .i64 W, .int .i64 H, .slice al nl cl, .slice ad nd cd, .slice an nn cn, .slice ab nb cb, .slice ax ns cx, .slice af nf cf] 29) (.cells #[.int .i64 W3, .int .i64 H3, .slice a n c] 24)
  obtain ⟨y0, hy0⟩ : ∃ y0, (w.alloc (.cells #[.int .i64 W, .int .i64 H, .slice al nl cl, .slice ad nd cd, .slice an nn cn, .slice ab nb cb, .slice ax ns cx, .slice af nf cf] 29)).alloc (.cells #[.int .i64 W3, .int .i64 H3, .slice a n c] 24) = y0 := ⟨_, rfl⟩
  rw [hy0] at hR HUx ⊢
  clear hy0
  have HU0 := Lib.hid HUx
  clear HUx
  obtain ⟨hr0_0, hr0_1⟩ := hR
  have c0_0 := cell_of_row _ _ 0 _ _ _ hr0_0
  have c0_1 := cell_of_row _ _ 1 _ _ _ hr0_0
  have c0_2 := cell_of_row _ _ 2 _ _ _ hr0_0
  have c0_3 := cell_of_row _ _ 3 _ _ _ hr0_0
  have c0_4 := cell_of_row _ _ 4 _ _ _ hr0_0
  have c0_5 := cell_of_row _ _ 5 _ _ _ hr0_0
  have c0_6 := cell_of_row _ _ 6 _ _ _ hr0_0
  have c0_7 := cell_of_row _ _ 7 _ _ _ hr0_0
  have c1_0 := cell_of_row _ _ 0 _ _ _ hr0_1
  have c1_1 := cell_of_row _ _ 1 _ _ _ hr0_1
  have c1_2 := cell_of_row _ _ 2 _ _ _ hr0_1
  simp at c0_0 c0_1 c0_2 c0_3 c0_4 c0_5 c0_6 c0_7 c1_0 c1_1 c1_2
  go_wp2_with fail
  refine (light20_0 (⟨W, H, nl, nd, nn, nb, ns, nf, L0, D, N, B, S, F⟩ : Flm) (⟨al, cl, ad, cd, an, cn, ab, cb, ax, cx, af, cf⟩ : Pl) W3 H3 a n c L _ k0).mono ?_
  rintro e y1 ⟨rfl, hb1⟩
  clear c0_0 c0_1 c0_2 c0_3 c0_4 c0_5 c0_6 c0_7 c1_0 c1_1 c1_2
  have hr1_0 := (hb1.block _ (lt_heap hr0_0)).trans hr0_0
  have hr1_1 := (hb1.block _ (lt_heap hr0_1)).trans hr0_1
  have HU1 := Lib.hid (HU0.out.trans (hb1.mono HU0.out.size))
  clear hr0_0 hr0_1 HU0
  go_wp2_with fail
  refine (lawake_any _ (HN_.out.on HU1.out)).mono ?_
  rintro e y2 ⟨rfl, hb2⟩
  have hr2_0 := (hb2.block _ (lt_heap hr1_0)).trans hr1_0
  have hr2_1 := (hb2.block _ (lt_heap hr1_1)).trans hr1_1
  have HU2 := Lib.hid (HU1.out.trans (hb2.mono HU1.out.size))
  clear hr1_0 hr1_1 HU1
  go_wp2
  go_ret
  exact ⟨rfl, HU2.out⟩

set_option maxHeartbeats 16000000 in
set_option maxRecDepth 100000 in
theorem big_1 (W H : Int) (al ad an ab ax af : Option Addr) (cl cd cn cb cx cf nl nd nn nb ns nf : Nat) (L0 D N B S F : Nat → Int) (W3 H3 : Int) (a : Option Addr) (n c : Nat) (L : Nat → Int) (lv : Int) (w : World) (hc : Came w (⟨W, H, nl, nd, nn, nb, ns, nf, L0, D, N, B, S, F⟩ : Flm) (⟨al, cl, ad, cd, an, cn, ab, cb, ax, cx, af, cf⟩ : Pl)) (hm : Rw 3 w a n L) (hm24 : n * 24 ≤ 140737488351232) (hcn : Cnt w) (k0 : nl ≤ 100) (k1 : ¬ ns ≤ 100) : Calls Tryd.prog 3 #[.agg #[.int .i64 W, .int .i64 H, .slice al nl cl, .slice ad nd cd, .slice an nn cn, .slice ab nb cb, .slice ax ns cx, .slice af nf cf], .agg #[.int .i64 W3, .int .i64 H3, .slice a n c], .int .i64 lv] w fun e' w' => e' = .returned (.bool true) ∧ Below w.heap.size w w' := by
  have HC := Lib.hid hc
  have HM := Lib.hid hm
  have HN_ := Lib.hid hcn
  clear hc hm hcn
  go_enter Tryd.func3, Tryd.ntmps3
  go_upto_region 1 with fail
  have hR := Au.rows2 w (.cells #[.int .i64 W, .int .i64 H, .slice al nl cl, .slice ad nd cd, .slice an nn cn, .slice ab nb cb, .slice ax ns cx, .slice af nf cf] 29) (.cells #[.int .i64 W3, .int .i64 H3, .slice a n c] 24)
  have HUx := Ve.below_n2 w (.cells #[.int .i64 W, .int .i64 H, .slice al nl cl, .slice ad nd cd, .slice an nn cn, .slice ab nb cb, .slice ax ns cx, .slice af nf cf] 29) (.cells #[.int .i64 W3, .int .i64 H3, .slice a n c] 24)
  obtain ⟨y0, hy0⟩ : ∃ y0, (w.alloc (.cells #[.int .i64 W, .int .i64 H, .slice al nl cl, .slice ad nd cd, .slice an nn cn, .slice ab nb cb, .slice ax ns cx, .slice af nf cf] 29)).alloc (.cells #[.int .i64 W3, .int .i64 H3, .slice a n c] 24) = y0 := ⟨_, rfl⟩
  rw [hy0] at hR HUx ⊢
  clear hy0
  have HU0 := Lib.hid HUx
  clear HUx
  obtain ⟨hr0_0, hr0_1⟩ := hR
  have c0_0 := cell_of_row _ _ 0 _ _ _ hr0_0
  have c0_1 := cell_of_row _ _ 1 _ _ _ hr0_0
  have c0_2 := cell_of_row _ _ 2 _ _ _ hr0_0
  have c0_3 := cell_of_row _ _ 3 _ _ _ hr0_0
  have c0_4 := cell_of_row _ _ 4 _ _ _ hr0_0
  have c0_5 := cell_of_row _ _ 5 _ _ _ hr0_0
  have c0_6 := cell_of_row _ _ 6 _ _ _ hr0_0
  have c0_7 := cell_of_row _ _ 7 _ _ _ hr0_0
  have c1_0 := cell_of_row _ _ 0 _ _ _ hr0_1
  have c1_1 := cell_of_row _ _ 1 _ _ _ hr0_1
  have c1_2 := cell_of_row _ _ 2 _ _ _ hr0_1
  simp at c0_0 c0_1 c0_2 c0_3 c0_4 c0_5 c0_6 c0_7 c1_0 c1_1 c1_2
  go_wp2_with fail
  refine (light20_1 (⟨W, H, nl, nd, nn, nb, ns, nf, L0, D, N, B, S, F⟩ : Flm) (⟨al, cl, ad, cd, an, cn, ab, cb, ax, cx, af, cf⟩ : Pl) W3 H3 a n c L _ k0 k1).mono ?_
  rintro e y1 ⟨rfl, hb1⟩
  clear c0_0 c0_1 c0_2 c0_3 c0_4 c0_5 c0_6 c0_7 c1_0 c1_1 c1_2
  have hr1_0 := (hb1.block _ (lt_heap hr0_0)).trans hr0_0
  have hr1_1 := (hb1.block _ (lt_heap hr0_1)).trans hr0_1
  have HU1 := Lib.hid (HU0.out.trans (hb1.mono HU0.out.size))
  clear hr0_0 hr0_1 HU0
  go_wp2_with fail
  refine (lawake_any _ (HN_.out.on HU1.out)).mono ?_
  rintro e y2 ⟨rfl, hb2⟩
  have hr2_0 := (hb2.block _ (lt_heap hr1_0)).trans hr1_0
  have hr2_1 := (hb2.block _ (lt_heap hr1_1)).trans hr1_1
  have HU2 := Lib.hid (HU1.out.trans (hb2.mono HU1.out.size))
  clear hr1_0 hr1_1 HU1
  go_wp2
  go_ret
  exact ⟨rfl, HU2.out⟩

set_option maxHeartbeats 16000000 in
set_option maxRecDepth 100000 in
theorem big_2 (W H : Int) (al ad an ab ax af : Option Addr) (cl cd cn cb cx cf nl nd nn nb ns nf : Nat) (L0 D N B S F : Nat → Int) (W3 H3 : Int) (a : Option Addr) (n c : Nat) (L : Nat → Int) (lv : Int) (w : World) (hc : Came w (⟨W, H, nl, nd, nn, nb, ns, nf, L0, D, N, B, S, F⟩ : Flm) (⟨al, cl, ad, cd, an, cn, ab, cb, ax, cx, af, cf⟩ : Pl)) (hm : Rw 3 w a n L) (hm24 : n * 24 ≤ 140737488351232) (hcn : Cnt w) (k0 : nl ≤ 100) (k1 : ns ≤ 100) (k2 : ¬ n ≤ 100) : Calls Tryd.prog 3 #[.agg #[.int .i64 W, .int .i64 H, .slice al nl cl, .slice ad nd cd, .slice an nn cn, .slice ab nb cb, .slice ax ns cx, .slice af nf cf], .agg #[.int .i64 W3, .int .i64 H3, .slice a n c], .int .i64 lv] w fun e' w' => e' = .returned (.bool true) ∧ Below w.heap.size w w' := by
  have HC := Lib.hid hc
  have HM := Lib.hid hm
  have HN_ := Lib.hid hcn
  clear hc hm hcn
  go_enter Tryd.func3, Tryd.ntmps3
  go_upto_region 1 with fail
  have hR := Au.rows2 w (.cells #[.int .i64 W, .int .i64 H, .slice al nl cl, .slice ad nd cd, .slice an nn cn, .slice ab nb cb, .slice ax ns cx, .slice af nf cf] 29) (.cells #[.int .i64 W3, .int .i64 H3, .slice a n c] 24)
  have HUx := Ve.below_n2 w (.cells #[.int .i64 W, .int .i64 H, .slice al nl cl, .slice ad nd cd, .slice an nn cn, .slice ab nb cb, .slice ax ns cx, .slice af nf cf] 29) (.cells #[.int .i64 W3, .int .i64 H3, .slice a n c] 24)
  obtain ⟨y0, hy0⟩ : ∃ y0, (w.alloc (.cells #[.int .i64 W, .int .i64 H, .slice al nl cl, .slice ad nd cd, .slice an nn cn, .slice ab nb cb, .slice ax ns cx, .slice af nf cf] 29)).alloc (.cells #[.int .i64 W3, .int .i64 H3, .slice a n c] 24) = y0 := ⟨_, rfl⟩
  rw [hy0] at hR HUx ⊢
  clear hy0
  have HU0 := Lib.hid HUx
  clear HUx
  obtain ⟨hr0_0, hr0_1⟩ := hR
  have c0_0 := cell_of_row _ _ 0 _ _ _ hr0_0
  have c0_1 := cell_of_row _ _ 1 _ _ _ hr0_0
  have c0_2 := cell_of_row _ _ 2 _ _ _ hr0_0
  have c0_3 := cell_of_row _ _ 3 _ _ _ hr0_0
  have c0_4 := cell_of_row _ _ 4 _ _ _ hr0_0
  have c0_5 := cell_of_row _ _ 5 _ _ _ hr0_0
  have c0_6 := cell_of_row _ _ 6 _ _ _ hr0_0
  have c0_7 := cell_of_row _ _ 7 _ _ _ hr0_0
  have c1_0 := cell_of_row _ _ 0 _ _ _ hr0_1
  have c1_1 := cell_of_row _ _ 1 _ _ _ hr0_1
  have c1_2 := cell_of_row _ _ 2 _ _ _ hr0_1
  simp at c0_0 c0_1 c0_2 c0_3 c0_4 c0_5 c0_6 c0_7 c1_0 c1_1 c1_2
  go_wp2_with fail
  refine (light20_2 (⟨W, H, nl, nd, nn, nb, ns, nf, L0, D, N, B, S, F⟩ : Flm) (⟨al, cl, ad, cd, an, cn, ab, cb, ax, cx, af, cf⟩ : Pl) W3 H3 a n c L _ k0 k1 k2).mono ?_
  rintro e y1 ⟨rfl, hb1⟩
  clear c0_0 c0_1 c0_2 c0_3 c0_4 c0_5 c0_6 c0_7 c1_0 c1_1 c1_2
  have hr1_0 := (hb1.block _ (lt_heap hr0_0)).trans hr0_0
  have hr1_1 := (hb1.block _ (lt_heap hr0_1)).trans hr0_1
  have HU1 := Lib.hid (HU0.out.trans (hb1.mono HU0.out.size))
  clear hr0_0 hr0_1 HU0
  go_wp2_with fail
  refine (lawake_any _ (HN_.out.on HU1.out)).mono ?_
  rintro e y2 ⟨rfl, hb2⟩
  have hr2_0 := (hb2.block _ (lt_heap hr1_0)).trans hr1_0
  have hr2_1 := (hb2.block _ (lt_heap hr1_1)).trans hr1_1
  have HU2 := Lib.hid (HU1.out.trans (hb2.mono HU1.out.size))
  clear hr1_0 hr1_1 HU1
  go_wp2
  go_ret
  exact ⟨rfl, HU2.out⟩

set_option maxHeartbeats 16000000 in
set_option maxRecDepth 100000 in
theorem go_on (W H : Int) (al ad an ab ax af : Option Addr) (cl cd cn cb cx cf nl nd nn nb ns nf : Nat) (L0 D N B S F : Nat → Int) (W3 H3 : Int) (a : Option Addr) (n c : Nat) (L : Nat → Int) (lv : Int) (w : World) (hc : Came w (⟨W, H, nl, nd, nn, nb, ns, nf, L0, D, N, B, S, F⟩ : Flm) (⟨al, cl, ad, cd, an, cn, ab, cb, ax, cx, af, cf⟩ : Pl)) (hm : Rw 3 w a n L) (hm24 : n * 24 ≤ 140737488351232) (hcn : Cnt w) (k0 : nl ≤ 100) (k1 : ns ≤ 100) (k2 : n ≤ 100) (BW BH BE : Int) (BN : Nat) (LB : Nat → Int) (hbn : BN ≤ 5000) (hBl : ∀ (W' : World) (p : Pl) (a : Option Addr) (c : Nat), FAt W' (⟨W, H, nl, nd, nn, nb, ns, nf, L0, D, N, B, S, F⟩ : Flm) p → Rw 3 W' a n L → Cnt W' → Calls Tryd.prog 8 #[.agg (FC (⟨W, H, nl, nd, nn, nb, ns, nf, L0, D, N, B, S, F⟩ : Flm) p), .agg #[.int .i64 W3, .int .i64 H3, .slice a n c], .int .i64 lv] W' fun e' w' => (∃ a c, e' = .returned (.tuple #[.agg #[.int .i64 BW, .int .i64 BH, .slice a BN c], .int .i64 BE]) ∧ RwP (fun b => W'.heap.size ≤ b) 3 w' a BN LB) ∧ Below W'.heap.size W' w') (hDb : ∀ (W' : World) (p : Pl) (a : Option Addr) (c : Nat), FAt W' (⟨W, H, nl, nd, nn, nb, ns, nf, L0, D, N, B, S, F⟩ : Flm) p → Rw 3 W' a n L → Calls Tryd.prog 11 #[.agg (FC (⟨W, H, nl, nd, nn, nb, ns, nf, L0, D, N, B, S, F⟩ : Flm) p), .agg #[.int .i64 W3, .int .i64 H3, .slice a n c], .int .i64 lv] W' fun e' w' => (∃ a c, e' = .returned (.tuple #[.agg #[.int .i64 BW, .int .i64 BH, .slice a BN c], .int .i64 BE]) ∧ RwP (fun b => W'.heap.size ≤ b) 3 w' a BN LB) ∧ Below W'.heap.size W' w') : Calls Tryd.prog 3 #[.agg #[.int .i64 W, .int .i64 H, .slice al nl cl, .slice ad nd cd, .slice an nn cn, .slice ab nb cb, .slice ax ns cx, .slice af nf cf], .agg #[.int .i64 W3, .int .i64 H3, .slice a n c], .int .i64 lv] w fun e' w' => e' = .returned (.bool true) ∧ Below w.heap.size w w' := by
  have HC := Lib.hid hc
  have HM := Lib.hid hm
  have HN_ := Lib.hid hcn
  clear hc hm hcn
  have HBL := Lib.hid hBl
  have HDB := Lib.hid hDb
  clear hBl hDb
  go_enter Tryd.func3, Tryd.ntmps3
  go_upto_region 1 with fail
  have hR := Au.rows2 w (.cells #[.int .i64 W, .int .i64 H, .slice al nl cl, .slice ad nd cd, .slice an nn cn, .slice ab nb cb, .slice ax ns cx, .slice af nf cf] 29) (.cells #[.int .i64 W3, .int .i64 H3, .slice a n c] 24)
  have HUx := Ve.below_n2 w (.cells #[.int .i64 W, .int .i64 H, .slice al nl cl, .slice ad nd cd, .slice an nn cn, .slice ab nb cb, .slice ax ns cx, .slice af nf cf] 29) (.cells #[.int .i64 W3, .int .i64 H3, .slice a n c] 24)
  obtain ⟨y0, hy0⟩ : ∃ y0, (w.alloc (.cells #[.int .i64 W, .int .i64 H, .slice al nl cl, .slice ad nd cd, .slice an nn cn, .slice ab nb cb, .slice ax ns cx, .slice af nf cf] 29)).alloc (.cells #[.int .i64 W3, .int .i64 H3, .slice a n c] 24) = y0 := ⟨_, rfl⟩
  rw [hy0] at hR HUx ⊢
  clear hy0
  have HU0 := Lib.hid HUx
  clear HUx
  obtain ⟨hr0_0, hr0_1⟩ := hR
  have c0_0 := cell_of_row _ _ 0 _ _ _ hr0_0
  have c0_1 := cell_of_row _ _ 1 _ _ _ hr0_0
  have c0_2 := cell_of_row _ _ 2 _ _ _ hr0_0
  have c0_3 := cell_of_row _ _ 3 _ _ _ hr0_0
  have c0_4 := cell_of_row _ _ 4 _ _ _ hr0_0
  have c0_5 := cell_of_row _ _ 5 _ _ _ hr0_0
  have c0_6 := cell_of_row _ _ 6 _ _ _ hr0_0
  have c0_7 := cell_of_row _ _ 7 _ _ _ hr0_0
  have c1_0 := cell_of_row _ _ 0 _ _ _ hr0_1
  have c1_1 := cell_of_row _ _ 1 _ _ _ hr0_1
  have c1_2 := cell_of_row _ _ 2 _ _ _ hr0_1
  simp at c0_0 c0_1 c0_2 c0_3 c0_4 c0_5 c0_6 c0_7 c1_0 c1_1 c1_2
  go_wp2_with fail
  refine (light20_3 (⟨W, H, nl, nd, nn, nb, ns, nf, L0, D, N, B, S, F⟩ : Flm) (⟨al, cl, ad, cd, an, cn, ab, cb, ax, cx, af, cf⟩ : Pl) W3 H3 a n c L _ k0 k1 k2).mono ?_
  rintro e y1 ⟨rfl, hb1⟩
  clear c0_0 c0_1 c0_2 c0_3 c0_4 c0_5 c0_6 c0_7 c1_0 c1_1 c1_2
  have hr1_0 := (hb1.block _ (lt_heap hr0_0)).trans hr0_0
  have hr1_1 := (hb1.block _ (lt_heap hr0_1)).trans hr0_1
  have HU1 := Lib.hid (HU0.out.trans (hb1.mono HU0.out.size))
  clear hr0_0 hr0_1 HU0
  go_upto_region 3 with fail
  go_cut [7, 8] (fun s7 s8 wx => ∃ (q3 : Nat) (a5 : Option Addr) (c5 : Nat), s7 = .pointer (some ⟨q3, 0, none⟩) ∧ s8 = .int .i64 BE ∧ wx.heap[q3]? = some (.cells #[.int .i64 BW, .int .i64 BH, .slice a5 BN c5] 36 (0, 0)) ∧ wx.heap[w.heap.size]? = some (.cells #[.int .i64 W, .int .i64 H, .slice al nl cl, .slice ad nd cd, .slice an nn cn, .slice ab nb cb, .slice ax ns cx, .slice af nf cf] 29 (0, 0)) ∧ wx.heap[w.heap.size + 1]? = some (.cells #[.int .i64 W3, .int .i64 H3, .slice a n c] 24 (0, 0)) ∧ Hid (Rw 3 wx a5 BN LB) ∧ Hid (Below w.heap.size w wx))
  case first =>
    refine wp_region_held_drew (S := fun y => y.heap[w.heap.size]? = some (.cells #[.int .i64 W, .int .i64 H, .slice al nl cl, .slice ad nd cd, .slice an nn cn, .slice ab nb cb, .slice ax ns cx, .slice af nf cf] 29 (0, 0)) ∧ y.heap[w.heap.size + 1]? = some (.cells #[.int .i64 W3, .int .i64 H3, .slice a n c] 24 (0, 0))) (by kernel_rfl) (⟨hr1_0, hr1_1⟩) (fun hS0 => ?_)
    obtain ⟨y2, hy2⟩ : ∃ y, y1.drew = y := ⟨_, rfl⟩
    have HU2 := Lib.hid (show Below w.heap.size w y2 by rw [← hy2]; exact HU1.out.drew)
    have hr2_0 : y2.heap[w.heap.size]? = some (.cells #[.int .i64 W, .int .i64 H, .slice al nl cl, .slice ad nd cd, .slice an nn cn, .slice ab nb cb, .slice ax ns cx, .slice af nf cf] 29 (0, 0)) := by rw [← hy2]; exact hr1_0
    have hr2_1 : y2.heap[w.heap.size + 1]? = some (.cells #[.int .i64 W3, .int .i64 H3, .slice a n c] 24 (0, 0)) := by rw [← hy2]; exact hr1_1
    have hz2 : y1.heap.size ≤ y2.heap.size := by rw [← hy2]; exact Nat.le_refl _
    rw [hy2] at hS0 ⊢
    clear hy2
    refine wpAnyH_take (i := 0) (v := ?_) rfl (by kernel_rfl) (by kernel_rfl) (by kernel_rfl) (fun _ _ _ h => h) (Or.inl ⟨by kernel_rfl, by (intro wz hSz; have c0_0 := cell_of_row _ _ 0 _ _ _ hSz.1; have c0_1 := cell_of_row _ _ 1 _ _ _ hSz.1; have c0_2 := cell_of_row _ _ 2 _ _ _ hSz.1; have c0_3 := cell_of_row _ _ 3 _ _ _ hSz.1; have c0_4 := cell_of_row _ _ 4 _ _ _ hSz.1; have c0_5 := cell_of_row _ _ 5 _ _ _ hSz.1; have c0_6 := cell_of_row _ _ 6 _ _ _ hSz.1; have c0_7 := cell_of_row _ _ 7 _ _ _ hSz.1; have c1_0 := cell_of_row _ _ 0 _ _ _ hSz.2; have c1_1 := cell_of_row _ _ 1 _ _ _ hSz.2; have c1_2 := cell_of_row _ _ 2 _ _ _ hSz.2; simp at c0_0 c0_1 c0_2 c0_3 c0_4 c0_5 c0_6 c0_7 c1_0 c1_1 c1_2; go_simp; try with_reducible rfl)⟩) hS0 ?_
    go_simp
    refine wpAnyH_take (i := 2) (v := ?_) rfl (by kernel_rfl) (by kernel_rfl) (by kernel_rfl) (fun _ _ _ h => h) (Or.inl ⟨by kernel_rfl, by (intro wz hSz; have c0_0 := cell_of_row _ _ 0 _ _ _ hSz.1; have c0_1 := cell_of_row _ _ 1 _ _ _ hSz.1; have c0_2 := cell_of_row _ _ 2 _ _ _ hSz.1; have c0_3 := cell_of_row _ _ 3 _ _ _ hSz.1; have c0_4 := cell_of_row _ _ 4 _ _ _ hSz.1; have c0_5 := cell_of_row _ _ 5 _ _ _ hSz.1; have c0_6 := cell_of_row _ _ 6 _ _ _ hSz.1; have c0_7 := cell_of_row _ _ 7 _ _ _ hSz.1; have c1_0 := cell_of_row _ _ 0 _ _ _ hSz.2; have c1_1 := cell_of_row _ _ 1 _ _ _ hSz.2; have c1_2 := cell_of_row _ _ 2 _ _ _ hSz.2; simp at c0_0 c0_1 c0_2 c0_3 c0_4 c0_5 c0_6 c0_7 c1_0 c1_1 c1_2; go_simp; try with_reducible rfl)⟩) hS0 ?_
    go_simp
    refine wpAnyH_take (i := 4) (v := ?_) rfl (by kernel_rfl) (by kernel_rfl) (by kernel_rfl) (fun _ _ _ h => h) (Or.inl ⟨by kernel_rfl, by (intro wz hSz; go_simp; try with_reducible rfl)⟩) hS0 ?_
    go_simp
    refine wpAnyH_ready (rs := [1, 9]) (by kernel_rfl) (by simp) ?_
    refine AllReadyH.cons rfl (fun K hK => ?_) (AllReadyH.cons rfl (fun K hK => ?_) AllReadyH.nil)
    · skip
      go_simp
      go_wp2_with (go_at_call 9; refine (to_film_q (⟨W, H, nl, nd, nn, nb, ns, nf, L0, D, N, B, S, F⟩ : Flm) (⟨al, cl, ad, cd, an, cn, ab, cb, ax, cx, af, cf⟩ : Pl) _ (HC.out.at_.on HU2.out) HC.out.bl HC.out.bd HC.out.bn HC.out.bb HC.out.bs HC.out.bf HC.out.ks HC.out.kf).mono ?_; rintro e y3 ⟨⟨⟨al3, cl3, ad3, cd3, an3, cn3, ab3, cb3, ax3, cx3, af3, cf3⟩, rfl, hq1⟩, hb3⟩)
      have hr3_0 := (hb3.block _ (lt_heap hr2_0)).trans hr2_0
      have hr3_1 := (hb3.block _ (lt_heap hr2_1)).trans hr2_1
      have HU3 := Lib.hid (HU2.out.trans (hb3.mono HU2.out.size))
      have hz3 := hb3.size
      have HF3 := Lib.hid (hq1.lt)
      refine hK.out _ _ (⟨(hb3.block _ (lt_heap hS0.1)).trans hS0.1, (hb3.block _ (lt_heap hS0.2)).trans hS0.2⟩) (fun hS3c => ?_)
      clear hK K
      refine wpAnyH_ready (rs := [3, 9]) (by kernel_rfl) (by simp) ?_
      refine AllReadyH.cons rfl (fun K hK => ?_) (AllReadyH.cons rfl (fun K hK => ?_) AllReadyH.nil)
      · skip
        go_simp
        go_wp2_with (go_at_call 10; refine (tosheet_any W3 H3 a n c L _ (HM.out.on HU3.out) hm24).mono ?_; rintro e y4 ⟨⟨a2, c2, rfl, hsh⟩, hb4⟩)
        have hr4_0 := (hb4.block _ (lt_heap hr3_0)).trans hr3_0
        have hr4_1 := (hb4.block _ (lt_heap hr3_1)).trans hr3_1
        have HU4 := Lib.hid (HU3.out.trans (hb4.mono HU3.out.size))
        have HF4 := Lib.hid (HF3.out.below hb4)
        have hz4 := hb4.size
        have HSH4 := Lib.hid ((⟨hsh.lt (by decide)⟩ : R3 _ _ _ _ _))
        refine hK.out _ _ (⟨(hb4.block _ (lt_heap hS3c.1)).trans hS3c.1, (hb4.block _ (lt_heap hS3c.2)).trans hS3c.2⟩) (fun hS4c => ?_)
        clear hK K
        refine wpAnyH_ready (rs := [5, 9]) (by kernel_rfl) (by simp) ?_
        refine AllReadyH.cons rfl (fun K hK => ?_) (AllReadyH.cons rfl (fun K hK => ?_) AllReadyH.nil)
        · skip
          go_simp
          go_wp2_with (go_at_call 8; refine (HBL.out _ (⟨al3, cl3, ad3, cd3, an3, cn3, ab3, cb3, ax3, cx3, af3, cf3⟩ : Pl) a2 c2 HF4.out.fat (HSH4.out.h.rw (by decide)) (HN_.out.on HU4.out)).mono ?_; rintro e y5 ⟨⟨a5, c5, rfl, hbl⟩, hb5⟩)
          have hr5_0 := (hb5.block _ (lt_heap hr4_0)).trans hr4_0
          have hr5_1 := (hb5.block _ (lt_heap hr4_1)).trans hr4_1
          have HU5 := Lib.hid (HU4.out.trans (hb5.mono HU4.out.size))
          have HF5 := Lib.hid (HF4.out.below hb5)
          have HSH5 := Lib.hid (HSH4.out.below hb5)
          have hz5 := hb5.size
          have HRB5 := Lib.hid ((⟨hbl.lt (by decide)⟩ : R3 _ _ _ _ _))
          refine hK.out _ _ (⟨(hb5.block _ (lt_heap hS4c.1)).trans hS4c.1, (hb5.block _ (lt_heap hS4c.2)).trans hS4c.2⟩) (fun hS5c => ?_)
          clear hK K
          refine wpAnyH_take (i := 6) (v := ?_) rfl (by kernel_rfl) (by kernel_rfl) (by kernel_rfl) (fun _ _ _ h => h) (Or.inl ⟨by kernel_rfl, by (intro wz hSz; go_simp; try with_reducible rfl)⟩) hS5c ?_
          go_simp
          refine wpAnyH_take (i := 7) (v := ?_) rfl (by kernel_rfl) (by kernel_rfl) (by kernel_rfl) (fun _ _ _ h => h) (Or.inl ⟨by kernel_rfl, by (intro wz hSz; go_simp; try with_reducible rfl)⟩) hS5c ?_
          go_simp
          refine wpAnyH_take (i := 8) (v := ?_) rfl (by kernel_rfl) (by kernel_rfl) (by kernel_rfl) (fun _ _ _ h => h) (Or.inl ⟨by kernel_rfl, by (intro wz hSz; go_simp; try with_reducible rfl)⟩) hS5c ?_
          go_simp
          refine wpAnyH_ready (rs := [9]) (by kernel_rfl) (by simp) ?_
          refine AllReadyH.cons rfl (fun K hK => ?_) AllReadyH.nil
          go_simp
          have hb6 := Ve.below_n1 y5 (.cells #[.int .i64 0, .int .i64 0, .slice none 0 0] 36)
          have hN := heap_alloc_last y5 (.cells #[.int .i64 0, .int .i64 0, .slice none 0 0] 36)
          obtain ⟨y6, hy6⟩ : ∃ y, y5.alloc (.cells #[.int .i64 0, .int .i64 0, .slice none 0 0] 36) = y := ⟨_, rfl⟩
          rw [hy6] at hb6 hN ⊢
          clear hy6
          have hl6_0 := lt_heap hr5_0
          have hr6_0 := (hb6.block _ (lt_heap hr5_0)).trans hr5_0
          have hl6_1 := lt_heap hr5_1
          have hr6_1 := (hb6.block _ (lt_heap hr5_1)).trans hr5_1
          have hr6_2 := hN
          clear hN
          have HU6 := Lib.hid (HU5.out.trans (hb6.mono HU5.out.size))
          have HF6 := Lib.hid (HF5.out.below hb6)
          have HSH6 := Lib.hid (HSH5.out.below hb6)
          have HRB6 := Lib.hid (HRB5.out.below hb6)
          have hz6 := lt_heap hr6_2
          refine hK.out _ _ (⟨(hb6.block _ (lt_heap hS5c.1)).trans hS5c.1, (hb6.block _ (lt_heap hS5c.2)).trans hS5c.2⟩) (fun hS6a => ?_)
          clear hK K
          refine wpAnyH_ready (rs := [10]) (by kernel_rfl) (by simp) ?_
          refine AllReadyH.cons rfl (fun K hK => ?_) AllReadyH.nil
          refine step_store_row rfl 36 (.tmp 7) (.tmp 23) rfl #[.int .i64 0, .int .i64 0, .slice none 0 0] #[.int .i64 BW, .int .i64 BH, .slice a5 BN c5] _ 36 hr6_2 rfl (by first | rfl | (go_simp; done) | (go_simp; rfl)) (by kernel_rfl) rfl (by simp [Value.oneCell']) ?_
          have hN := setRow_heap _ (y5.heap.size) _ #[.int .i64 BW, .int .i64 BH, .slice a5 BN c5] _ _ hr6_2
          have hsz := HU6.out.size
          have HUx := below_setRow (g := y5.heap.size) HU6.out (by first | omega | (simp at *; omega)) #[.int .i64 BW, .int .i64 BH, .slice a5 BN c5]
          obtain ⟨y7, hy7⟩ : ∃ y, y6.setRow (y5.heap.size) #[.int .i64 BW, .int .i64 BH, .slice a5 BN c5] = y := ⟨_, rfl⟩
          have hO : ∀ k, k ≠ y5.heap.size → y7.heap[k]? = y6.heap[k]? := fun k hk => by rw [← hy7]; exact setRow_other _ _ _ _ hk
          rw [hy7] at hN HUx ⊢
          clear hy7
          have HU7 := Lib.hid HUx
          clear HUx
          have hr7_0 := (hO _ (by omega)).trans hr6_0
          have hr7_1 := (hO _ (by omega)).trans hr6_1
          have hr7_2 := hN
          clear hN
          have HF7 := Lib.hid (HF6.out.keep (fun b hb => hO b (by omega)))
          have HSH7 := Lib.hid (HSH6.out.keep (fun b hb => hO b (by omega)))
          have HRB7 := Lib.hid (HRB6.out.keep (fun b hb => hO b (by omega)))
          refine hK.out _ _ (⟨(hO _ (by omega)).trans hS6a.1, (hO _ (by omega)).trans hS6a.2⟩) (fun hS7s => ?_)
          clear hK K
          refine wpAnyH_take (i := 11) (v := ?_) rfl (by kernel_rfl) (by kernel_rfl) (by kernel_rfl) (fun _ _ _ h => h) (Or.inl ⟨by kernel_rfl, by (intro wz hSz; go_simp; try with_reducible rfl)⟩) hS7s ?_
          go_simp
          refine wpAnyH_done (by kernel_rfl) ?_ _
          go_wp2_with fail
          go_meet
          exact ⟨_, a5, c5, rfl, rfl, hr7_2, hr7_0, hr7_1, Lib.hid (HRB7.out.h.rw (by decide)), HU7⟩
        · skip
          go_simp
          have hb5 := Ve.below_n1 y4 (.cells #[.int .i64 0, .int .i64 0, .slice none 0 0] 36)
          have hN := heap_alloc_last y4 (.cells #[.int .i64 0, .int .i64 0, .slice none 0 0] 36)
          obtain ⟨y5, hy5⟩ : ∃ y, y4.alloc (.cells #[.int .i64 0, .int .i64 0, .slice none 0 0] 36) = y := ⟨_, rfl⟩
          rw [hy5] at hb5 hN ⊢
          clear hy5
          have hl5_0 := lt_heap hr4_0
          have hr5_0 := (hb5.block _ (lt_heap hr4_0)).trans hr4_0
          have hl5_1 := lt_heap hr4_1
          have hr5_1 := (hb5.block _ (lt_heap hr4_1)).trans hr4_1
          have hr5_2 := hN
          clear hN
          have HU5 := Lib.hid (HU4.out.trans (hb5.mono HU4.out.size))
          have HF5 := Lib.hid (HF4.out.below hb5)
          have HSH5 := Lib.hid (HSH4.out.below hb5)
          have hz5 := lt_heap hr5_2
          refine hK.out _ _ (⟨(hb5.block _ (lt_heap hS4c.1)).trans hS4c.1, (hb5.block _ (lt_heap hS4c.2)).trans hS4c.2⟩) (fun hS5a => ?_)
          clear hK K
          refine wpAnyH_ready (rs := [5]) (by kernel_rfl) (by simp) ?_
          refine AllReadyH.cons rfl (fun K hK => ?_) AllReadyH.nil
          go_simp
          go_wp2_with (go_at_call 8; refine (HBL.out _ (⟨al3, cl3, ad3, cd3, an3, cn3, ab3, cb3, ax3, cx3, af3, cf3⟩ : Pl) a2 c2 HF5.out.fat (HSH5.out.h.rw (by decide)) (HN_.out.on HU5.out)).mono ?_; rintro e y6 ⟨⟨a5, c5, rfl, hbl⟩, hb6⟩)
          have hr6_0 := (hb6.block _ (lt_heap hr5_0)).trans hr5_0
          have hr6_1 := (hb6.block _ (lt_heap hr5_1)).trans hr5_1
          have hr6_2 := (hb6.block _ (lt_heap hr5_2)).trans hr5_2
          have HU6 := Lib.hid (HU5.out.trans (hb6.mono HU5.out.size))
          have HF6 := Lib.hid (HF5.out.below hb6)
          have HSH6 := Lib.hid (HSH5.out.below hb6)
          have hz6 := hb6.size
          have HRB6 := Lib.hid ((⟨hbl.lt (by decide)⟩ : R3 _ _ _ _ _))
          refine hK.out _ _ (⟨(hb6.block _ (lt_heap hS5a.1)).trans hS5a.1, (hb6.block _ (lt_heap hS5a.2)).trans hS5a.2⟩) (fun hS6c => ?_)
          clear hK K
          refine wpAnyH_take (i := 6) (v := ?_) rfl (by kernel_rfl) (by kernel_rfl) (by kernel_rfl) (fun _ _ _ h => h) (Or.inl ⟨by kernel_rfl, by (intro wz hSz; go_simp; try with_reducible rfl)⟩) hS6c ?_
          go_simp
          refine wpAnyH_take (i := 7) (v := ?_) rfl (by kernel_rfl) (by kernel_rfl) (by kernel_rfl) (fun _ _ _ h => h) (Or.inl ⟨by kernel_rfl, by (intro wz hSz; go_simp; try with_reducible rfl)⟩) hS6c ?_
          go_simp
          refine wpAnyH_take (i := 8) (v := ?_) rfl (by kernel_rfl) (by kernel_rfl) (by kernel_rfl) (fun _ _ _ h => h) (Or.inl ⟨by kernel_rfl, by (intro wz hSz; go_simp; try with_reducible rfl)⟩) hS6c ?_
          go_simp
          refine wpAnyH_ready (rs := [10]) (by kernel_rfl) (by simp) ?_
          refine AllReadyH.cons rfl (fun K hK => ?_) AllReadyH.nil
          refine step_store_row rfl 36 (.tmp 7) (.tmp 23) rfl #[.int .i64 0, .int .i64 0, .slice none 0 0] #[.int .i64 BW, .int .i64 BH, .slice a5 BN c5] _ 36 hr6_2 rfl (by first | rfl | (go_simp; done) | (go_simp; rfl)) (by kernel_rfl) rfl (by simp [Value.oneCell']) ?_
          have hN := setRow_heap _ (y4.heap.size) _ #[.int .i64 BW, .int .i64 BH, .slice a5 BN c5] _ _ hr6_2
          have hsz := HU6.out.size
          have HUx := below_setRow (g := y4.heap.size) HU6.out (by first | omega | (simp at *; omega)) #[.int .i64 BW, .int .i64 BH, .slice a5 BN c5]
          obtain ⟨y7, hy7⟩ : ∃ y, y6.setRow (y4.heap.size) #[.int .i64 BW, .int .i64 BH, .slice a5 BN c5] = y := ⟨_, rfl⟩
          have hO : ∀ k, k ≠ y4.heap.size → y7.heap[k]? = y6.heap[k]? := fun k hk => by rw [← hy7]; exact setRow_other _ _ _ _ hk
          rw [hy7] at hN HUx ⊢
          clear hy7
          have HU7 := Lib.hid HUx
          clear HUx
          have hr7_0 := (hO _ (by omega)).trans hr6_0
          have hr7_1 := (hO _ (by omega)).trans hr6_1
          have hr7_2 := hN
          clear hN
          have HF7 := Lib.hid (HF6.out.keep (fun b hb => hO b (by omega)))
          have HSH7 := Lib.hid (HSH6.out.keep (fun b hb => hO b (by omega)))
          have HRB7 := Lib.hid (HRB6.out.keep (fun b hb => hO b (by omega)))
          refine hK.out _ _ (⟨(hO _ (by omega)).trans hS6c.1, (hO _ (by omega)).trans hS6c.2⟩) (fun hS7s => ?_)
          clear hK K
          refine wpAnyH_take (i := 11) (v := ?_) rfl (by kernel_rfl) (by kernel_rfl) (by kernel_rfl) (fun _ _ _ h => h) (Or.inl ⟨by kernel_rfl, by (intro wz hSz; go_simp; try with_reducible rfl)⟩) hS7s ?_
          go_simp
          refine wpAnyH_done (by kernel_rfl) ?_ _
          go_wp2_with fail
          go_meet
          exact ⟨_, a5, c5, rfl, rfl, hr7_2, hr7_0, hr7_1, Lib.hid (HRB7.out.h.rw (by decide)), HU7⟩
      · skip
        go_simp
        have hb4 := Ve.below_n1 y3 (.cells #[.int .i64 0, .int .i64 0, .slice none 0 0] 36)
        have hN := heap_alloc_last y3 (.cells #[.int .i64 0, .int .i64 0, .slice none 0 0] 36)
        obtain ⟨y4, hy4⟩ : ∃ y, y3.alloc (.cells #[.int .i64 0, .int .i64 0, .slice none 0 0] 36) = y := ⟨_, rfl⟩
        rw [hy4] at hb4 hN ⊢
        clear hy4
        have hl4_0 := lt_heap hr3_0
        have hr4_0 := (hb4.block _ (lt_heap hr3_0)).trans hr3_0
        have hl4_1 := lt_heap hr3_1
        have hr4_1 := (hb4.block _ (lt_heap hr3_1)).trans hr3_1
        have hr4_2 := hN
        clear hN
        have HU4 := Lib.hid (HU3.out.trans (hb4.mono HU3.out.size))
        have HF4 := Lib.hid (HF3.out.below hb4)
        have hz4 := lt_heap hr4_2
        refine hK.out _ _ (⟨(hb4.block _ (lt_heap hS3c.1)).trans hS3c.1, (hb4.block _ (lt_heap hS3c.2)).trans hS3c.2⟩) (fun hS4a => ?_)
        clear hK K
        refine wpAnyH_ready (rs := [3]) (by kernel_rfl) (by simp) ?_
        refine AllReadyH.cons rfl (fun K hK => ?_) AllReadyH.nil
        go_simp
        go_wp2_with (go_at_call 10; refine (tosheet_any W3 H3 a n c L _ (HM.out.on HU4.out) hm24).mono ?_; rintro e y5 ⟨⟨a2, c2, rfl, hsh⟩, hb5⟩)
        have hr5_0 := (hb5.block _ (lt_heap hr4_0)).trans hr4_0
        have hr5_1 := (hb5.block _ (lt_heap hr4_1)).trans hr4_1
        have hr5_2 := (hb5.block _ (lt_heap hr4_2)).trans hr4_2
        have HU5 := Lib.hid (HU4.out.trans (hb5.mono HU4.out.size))
        have HF5 := Lib.hid (HF4.out.below hb5)
        have hz5 := hb5.size
        have HSH5 := Lib.hid ((⟨hsh.lt (by decide)⟩ : R3 _ _ _ _ _))
        refine hK.out _ _ (⟨(hb5.block _ (lt_heap hS4a.1)).trans hS4a.1, (hb5.block _ (lt_heap hS4a.2)).trans hS4a.2⟩) (fun hS5c => ?_)
        clear hK K
        refine wpAnyH_ready (rs := [5]) (by kernel_rfl) (by simp) ?_
        refine AllReadyH.cons rfl (fun K hK => ?_) AllReadyH.nil
        go_simp
        go_wp2_with (go_at_call 8; refine (HBL.out _ (⟨al3, cl3, ad3, cd3, an3, cn3, ab3, cb3, ax3, cx3, af3, cf3⟩ : Pl) a2 c2 HF5.out.fat (HSH5.out.h.rw (by decide)) (HN_.out.on HU5.out)).mono ?_; rintro e y6 ⟨⟨a5, c5, rfl, hbl⟩, hb6⟩)
        have hr6_0 := (hb6.block _ (lt_heap hr5_0)).trans hr5_0
        have hr6_1 := (hb6.block _ (lt_heap hr5_1)).trans hr5_1
        have hr6_2 := (hb6.block _ (lt_heap hr5_2)).trans hr5_2
        have HU6 := Lib.hid (HU5.out.trans (hb6.mono HU5.out.size))
        have HF6 := Lib.hid (HF5.out.below hb6)
        have HSH6 := Lib.hid (HSH5.out.below hb6)
        have hz6 := hb6.size
        have HRB6 := Lib.hid ((⟨hbl.lt (by decide)⟩ : R3 _ _ _ _ _))
        refine hK.out _ _ (⟨(hb6.block _ (lt_heap hS5c.1)).trans hS5c.1, (hb6.block _ (lt_heap hS5c.2)).trans hS5c.2⟩) (fun hS6c => ?_)
        clear hK K
        refine wpAnyH_take (i := 6) (v := ?_) rfl (by kernel_rfl) (by kernel_rfl) (by kernel_rfl) (fun _ _ _ h => h) (Or.inl ⟨by kernel_rfl, by (intro wz hSz; go_simp; try with_reducible rfl)⟩) hS6c ?_
        go_simp
        refine wpAnyH_take (i := 7) (v := ?_) rfl (by kernel_rfl) (by kernel_rfl) (by kernel_rfl) (fun _ _ _ h => h) (Or.inl ⟨by kernel_rfl, by (intro wz hSz; go_simp; try with_reducible rfl)⟩) hS6c ?_
        go_simp
        refine wpAnyH_take (i := 8) (v := ?_) rfl (by kernel_rfl) (by kernel_rfl) (by kernel_rfl) (fun _ _ _ h => h) (Or.inl ⟨by kernel_rfl, by (intro wz hSz; go_simp; try with_reducible rfl)⟩) hS6c ?_
        go_simp
        refine wpAnyH_ready (rs := [10]) (by kernel_rfl) (by simp) ?_
        refine AllReadyH.cons rfl (fun K hK => ?_) AllReadyH.nil
        refine step_store_row rfl 36 (.tmp 7) (.tmp 23) rfl #[.int .i64 0, .int .i64 0, .slice none 0 0] #[.int .i64 BW, .int .i64 BH, .slice a5 BN c5] _ 36 hr6_2 rfl (by first | rfl | (go_simp; done) | (go_simp; rfl)) (by kernel_rfl) rfl (by simp [Value.oneCell']) ?_
        have hN := setRow_heap _ (y3.heap.size) _ #[.int .i64 BW, .int .i64 BH, .slice a5 BN c5] _ _ hr6_2
        have hsz := HU6.out.size
        have HUx := below_setRow (g := y3.heap.size) HU6.out (by first | omega | (simp at *; omega)) #[.int .i64 BW, .int .i64 BH, .slice a5 BN c5]
        obtain ⟨y7, hy7⟩ : ∃ y, y6.setRow (y3.heap.size) #[.int .i64 BW, .int .i64 BH, .slice a5 BN c5] = y := ⟨_, rfl⟩
        have hO : ∀ k, k ≠ y3.heap.size → y7.heap[k]? = y6.heap[k]? := fun k hk => by rw [← hy7]; exact setRow_other _ _ _ _ hk
        rw [hy7] at hN HUx ⊢
        clear hy7
        have HU7 := Lib.hid HUx
        clear HUx
        have hr7_0 := (hO _ (by omega)).trans hr6_0
        have hr7_1 := (hO _ (by omega)).trans hr6_1
        have hr7_2 := hN
        clear hN
        have HF7 := Lib.hid (HF6.out.keep (fun b hb => hO b (by omega)))
        have HSH7 := Lib.hid (HSH6.out.keep (fun b hb => hO b (by omega)))
        have HRB7 := Lib.hid (HRB6.out.keep (fun b hb => hO b (by omega)))
        refine hK.out _ _ (⟨(hO _ (by omega)).trans hS6c.1, (hO _ (by omega)).trans hS6c.2⟩) (fun hS7s => ?_)
        clear hK K
        refine wpAnyH_take (i := 11) (v := ?_) rfl (by kernel_rfl) (by kernel_rfl) (by kernel_rfl) (fun _ _ _ h => h) (Or.inl ⟨by kernel_rfl, by (intro wz hSz; go_simp; try with_reducible rfl)⟩) hS7s ?_
        go_simp
        refine wpAnyH_done (by kernel_rfl) ?_ _
        go_wp2_with fail
        go_meet
        exact ⟨_, a5, c5, rfl, rfl, hr7_2, hr7_0, hr7_1, Lib.hid (HRB7.out.h.rw (by decide)), HU7⟩
    · skip
      go_simp
      have hb3 := Ve.below_n1 y2 (.cells #[.int .i64 0, .int .i64 0, .slice none 0 0] 36)
      have hN := heap_alloc_last y2 (.cells #[.int .i64 0, .int .i64 0, .slice none 0 0] 36)
      obtain ⟨y3, hy3⟩ : ∃ y, y2.alloc (.cells #[.int .i64 0, .int .i64 0, .slice none 0 0] 36) = y := ⟨_, rfl⟩
      rw [hy3] at hb3 hN ⊢
      clear hy3
      have hl3_0 := lt_heap hr2_0
      have hr3_0 := (hb3.block _ (lt_heap hr2_0)).trans hr2_0
      have hl3_1 := lt_heap hr2_1
      have hr3_1 := (hb3.block _ (lt_heap hr2_1)).trans hr2_1
      have hr3_2 := hN
      clear hN
      have HU3 := Lib.hid (HU2.out.trans (hb3.mono HU2.out.size))
      have hz3 := lt_heap hr3_2
      refine hK.out _ _ (⟨(hb3.block _ (lt_heap hS0.1)).trans hS0.1, (hb3.block _ (lt_heap hS0.2)).trans hS0.2⟩) (fun hS3a => ?_)
      clear hK K
      refine wpAnyH_ready (rs := [1]) (by kernel_rfl) (by simp) ?_
      refine AllReadyH.cons rfl (fun K hK => ?_) AllReadyH.nil
      go_simp
      go_wp2_with (go_at_call 9; refine (to_film_q (⟨W, H, nl, nd, nn, nb, ns, nf, L0, D, N, B, S, F⟩ : Flm) (⟨al, cl, ad, cd, an, cn, ab, cb, ax, cx, af, cf⟩ : Pl) _ (HC.out.at_.on HU3.out) HC.out.bl HC.out.bd HC.out.bn HC.out.bb HC.out.bs HC.out.bf HC.out.ks HC.out.kf).mono ?_; rintro e y4 ⟨⟨⟨al3, cl3, ad3, cd3, an3, cn3, ab3, cb3, ax3, cx3, af3, cf3⟩, rfl, hq1⟩, hb4⟩)
      have hr4_0 := (hb4.block _ (lt_heap hr3_0)).trans hr3_0
      have hr4_1 := (hb4.block _ (lt_heap hr3_1)).trans hr3_1
      have hr4_2 := (hb4.block _ (lt_heap hr3_2)).trans hr3_2
      have HU4 := Lib.hid (HU3.out.trans (hb4.mono HU3.out.size))
      have hz4 := hb4.size
      have HF4 := Lib.hid (hq1.lt)
      refine hK.out _ _ (⟨(hb4.block _ (lt_heap hS3a.1)).trans hS3a.1, (hb4.block _ (lt_heap hS3a.2)).trans hS3a.2⟩) (fun hS4c => ?_)
      clear hK K
      refine wpAnyH_ready (rs := [3]) (by kernel_rfl) (by simp) ?_
      refine AllReadyH.cons rfl (fun K hK => ?_) AllReadyH.nil
      go_simp
      go_wp2_with (go_at_call 10; refine (tosheet_any W3 H3 a n c L _ (HM.out.on HU4.out) hm24).mono ?_; rintro e y5 ⟨⟨a2, c2, rfl, hsh⟩, hb5⟩)
      have hr5_0 := (hb5.block _ (lt_heap hr4_0)).trans hr4_0
      have hr5_1 := (hb5.block _ (lt_heap hr4_1)).trans hr4_1
      have hr5_2 := (hb5.block _ (lt_heap hr4_2)).trans hr4_2
      have HU5 := Lib.hid (HU4.out.trans (hb5.mono HU4.out.size))
      have HF5 := Lib.hid (HF4.out.below hb5)
      have hz5 := hb5.size
      have HSH5 := Lib.hid ((⟨hsh.lt (by decide)⟩ : R3 _ _ _ _ _))
      refine hK.out _ _ (⟨(hb5.block _ (lt_heap hS4c.1)).trans hS4c.1, (hb5.block _ (lt_heap hS4c.2)).trans hS4c.2⟩) (fun hS5c => ?_)
      clear hK K
      refine wpAnyH_ready (rs := [5]) (by kernel_rfl) (by simp) ?_
      refine AllReadyH.cons rfl (fun K hK => ?_) AllReadyH.nil
      go_simp
      go_wp2_with (go_at_call 8; refine (HBL.out _ (⟨al3, cl3, ad3, cd3, an3, cn3, ab3, cb3, ax3, cx3, af3, cf3⟩ : Pl) a2 c2 HF5.out.fat (HSH5.out.h.rw (by decide)) (HN_.out.on HU5.out)).mono ?_; rintro e y6 ⟨⟨a5, c5, rfl, hbl⟩, hb6⟩)
      have hr6_0 := (hb6.block _ (lt_heap hr5_0)).trans hr5_0
      have hr6_1 := (hb6.block _ (lt_heap hr5_1)).trans hr5_1
      have hr6_2 := (hb6.block _ (lt_heap hr5_2)).trans hr5_2
      have HU6 := Lib.hid (HU5.out.trans (hb6.mono HU5.out.size))
      have HF6 := Lib.hid (HF5.out.below hb6)
      have HSH6 := Lib.hid (HSH5.out.below hb6)
      have hz6 := hb6.size
      have HRB6 := Lib.hid ((⟨hbl.lt (by decide)⟩ : R3 _ _ _ _ _))
      refine hK.out _ _ (⟨(hb6.block _ (lt_heap hS5c.1)).trans hS5c.1, (hb6.block _ (lt_heap hS5c.2)).trans hS5c.2⟩) (fun hS6c => ?_)
      clear hK K
      refine wpAnyH_take (i := 6) (v := ?_) rfl (by kernel_rfl) (by kernel_rfl) (by kernel_rfl) (fun _ _ _ h => h) (Or.inl ⟨by kernel_rfl, by (intro wz hSz; go_simp; try with_reducible rfl)⟩) hS6c ?_
      go_simp
      refine wpAnyH_take (i := 7) (v := ?_) rfl (by kernel_rfl) (by kernel_rfl) (by kernel_rfl) (fun _ _ _ h => h) (Or.inl ⟨by kernel_rfl, by (intro wz hSz; go_simp; try with_reducible rfl)⟩) hS6c ?_
      go_simp
      refine wpAnyH_take (i := 8) (v := ?_) rfl (by kernel_rfl) (by kernel_rfl) (by kernel_rfl) (fun _ _ _ h => h) (Or.inl ⟨by kernel_rfl, by (intro wz hSz; go_simp; try with_reducible rfl)⟩) hS6c ?_
      go_simp
      refine wpAnyH_ready (rs := [10]) (by kernel_rfl) (by simp) ?_
      refine AllReadyH.cons rfl (fun K hK => ?_) AllReadyH.nil
      refine step_store_row rfl 36 (.tmp 7) (.tmp 23) rfl #[.int .i64 0, .int .i64 0, .slice none 0 0] #[.int .i64 BW, .int .i64 BH, .slice a5 BN c5] _ 36 hr6_2 rfl (by first | rfl | (go_simp; done) | (go_simp; rfl)) (by kernel_rfl) rfl (by simp [Value.oneCell']) ?_
      have hN := setRow_heap _ (y2.heap.size) _ #[.int .i64 BW, .int .i64 BH, .slice a5 BN c5] _ _ hr6_2
      have hsz := HU6.out.size
      have HUx := below_setRow (g := y2.heap.size) HU6.out (by first | omega | (simp at *; omega)) #[.int .i64 BW, .int .i64 BH, .slice a5 BN c5]
      obtain ⟨y7, hy7⟩ : ∃ y, y6.setRow (y2.heap.size) #[.int .i64 BW, .int .i64 BH, .slice a5 BN c5] = y := ⟨_, rfl⟩
      have hO : ∀ k, k ≠ y2.heap.size → y7.heap[k]? = y6.heap[k]? := fun k hk => by rw [← hy7]; exact setRow_other _ _ _ _ hk
      rw [hy7] at hN HUx ⊢
      clear hy7
      have HU7 := Lib.hid HUx
      clear HUx
      have hr7_0 := (hO _ (by omega)).trans hr6_0
      have hr7_1 := (hO _ (by omega)).trans hr6_1
      have hr7_2 := hN
      clear hN
      have HF7 := Lib.hid (HF6.out.keep (fun b hb => hO b (by omega)))
      have HSH7 := Lib.hid (HSH6.out.keep (fun b hb => hO b (by omega)))
      have HRB7 := Lib.hid (HRB6.out.keep (fun b hb => hO b (by omega)))
      refine hK.out _ _ (⟨(hO _ (by omega)).trans hS6c.1, (hO _ (by omega)).trans hS6c.2⟩) (fun hS7s => ?_)
      clear hK K
      refine wpAnyH_take (i := 11) (v := ?_) rfl (by kernel_rfl) (by kernel_rfl) (by kernel_rfl) (fun _ _ _ h => h) (Or.inl ⟨by kernel_rfl, by (intro wz hSz; go_simp; try with_reducible rfl)⟩) hS7s ?_
      go_simp
      refine wpAnyH_done (by kernel_rfl) ?_ _
      go_wp2_with fail
      go_meet
      exact ⟨_, a5, c5, rfl, rfl, hr7_2, hr7_0, hr7_1, Lib.hid (HRB7.out.h.rw (by decide)), HU7⟩
  case rest =>
    obtain ⟨q3, a5, c5, rfl, rfl, hx, hz0, hz1, HRB, HUz⟩ := hcut
    rename World => y20
    have hr20_0 := hz0
    have hr20_1 := hz1
    have hr20_2 := hx
    have HU20 := HUz
    have HR20 := HRB
    clear hx HUz HRB hz0 hz1
    have c0_0 := cell_of_row _ _ 0 _ _ _ hr20_0
    have c0_1 := cell_of_row _ _ 1 _ _ _ hr20_0
    have c0_2 := cell_of_row _ _ 2 _ _ _ hr20_0
    have c0_3 := cell_of_row _ _ 3 _ _ _ hr20_0
    have c0_4 := cell_of_row _ _ 4 _ _ _ hr20_0
    have c0_5 := cell_of_row _ _ 5 _ _ _ hr20_0
    have c0_6 := cell_of_row _ _ 6 _ _ _ hr20_0
    have c0_7 := cell_of_row _ _ 7 _ _ _ hr20_0
    have c1_0 := cell_of_row _ _ 0 _ _ _ hr20_1
    have c1_1 := cell_of_row _ _ 1 _ _ _ hr20_1
    have c1_2 := cell_of_row _ _ 2 _ _ _ hr20_1
    simp at c0_0 c0_1 c0_2 c0_3 c0_4 c0_5 c0_6 c0_7 c1_0 c1_1 c1_2
    go_wp2_with fail
    refine (HDB.out _ (⟨al, cl, ad, cd, an, cn, ab, cb, ax, cx, af, cf⟩ : Pl) a c (HC.out.at_.on HU20.out) (HM.out.on HU20.out)).mono ?_
    rintro e y21 ⟨⟨a6, c6, rfl, hdb⟩, hb21⟩
    clear c0_0 c0_1 c0_2 c0_3 c0_4 c0_5 c0_6 c0_7 c1_0 c1_1 c1_2
    have hr21_0 := (hb21.block _ (lt_heap hr20_0)).trans hr20_0
    have hr21_1 := (hb21.block _ (lt_heap hr20_1)).trans hr20_1
    have hr21_2 := (hb21.block _ (lt_heap hr20_2)).trans hr20_2
    have HU21 := Lib.hid (HU20.out.trans (hb21.mono HU20.out.size))
    clear hr20_0 hr20_1 hr20_2 HU20
    have HR21 := Lib.hid (HR20.out.on hb21)
    clear HR20
    have HD21 := Lib.hid (hdb.rw (by decide))
    clear hdb
    go_upto_region 5 with fail
    have hb22 := Ve.below_n1 y21 (.cells #[.int .i64 BW, .int .i64 BH, .slice a6 BN c6] 24)
    have hN := heap_alloc_last y21 (.cells #[.int .i64 BW, .int .i64 BH, .slice a6 BN c6] 24)
    obtain ⟨y22, hy22⟩ : ∃ y, y21.alloc (.cells #[.int .i64 BW, .int .i64 BH, .slice a6 BN c6] 24) = y := ⟨_, rfl⟩
    have hs22 : y22.heap.size = y21.heap.size + 1 := by rw [← hy22]; simp
    rw [hy22] at hb22 hN ⊢
    clear hy22
    have hl22_0 := lt_heap hr21_0
    have hl22_1 := lt_heap hr21_1
    have hl22_2 := lt_heap hr21_2
    have hr22_0 := (hb22.block _ (lt_heap hr21_0)).trans hr21_0
    have hr22_1 := (hb22.block _ (lt_heap hr21_1)).trans hr21_1
    have hr22_2 := (hb22.block _ (lt_heap hr21_2)).trans hr21_2
    have HU22 := Lib.hid (HU21.out.trans (hb22.mono HU21.out.size))
    clear hr21_0 hr21_1 hr21_2 HU21
    have hr22_3 := hN
    clear hN
    have HR22 := Lib.hid (HR21.out.on hb22)
    clear HR21
    have HD22 := Lib.hid (HD21.out.on hb22)
    clear HD21
    have hbn24 : BN * 24 ≤ 140737488351232 := by omega
    have hbn1 : BN ≤ 140737488351232 := by omega
    refine wp_region_held_drew (S := fun y => y.heap[q3]? = some (.cells #[.int .i64 BW, .int .i64 BH, .slice a5 BN c5] 36 (0, 0)) ∧ y.heap[y21.heap.size]? = some (.cells #[.int .i64 BW, .int .i64 BH, .slice a6 BN c6] 24 (0, 0))) (by kernel_rfl) (⟨hr22_2, hr22_3⟩) (fun hS0 => ?_)
    obtain ⟨y23, hy23⟩ : ∃ y, y22.drew = y := ⟨_, rfl⟩
    have HU23 := Lib.hid (show Below w.heap.size w y23 by rw [← hy23]; exact HU22.out.drew)
    have hr23_0 : y23.heap[w.heap.size]? = some (.cells #[.int .i64 W, .int .i64 H, .slice al nl cl, .slice ad nd cd, .slice an nn cn, .slice ab nb cb, .slice ax ns cx, .slice af nf cf] 29 (0, 0)) := by rw [← hy23]; exact hr22_0
    have hr23_1 : y23.heap[w.heap.size + 1]? = some (.cells #[.int .i64 W3, .int .i64 H3, .slice a n c] 24 (0, 0)) := by rw [← hy23]; exact hr22_1
    have hr23_2 : y23.heap[q3]? = some (.cells #[.int .i64 BW, .int .i64 BH, .slice a5 BN c5] 36 (0, 0)) := by rw [← hy23]; exact hr22_2
    have hr23_3 : y23.heap[y21.heap.size]? = some (.cells #[.int .i64 BW, .int .i64 BH, .slice a6 BN c6] 24 (0, 0)) := by rw [← hy23]; exact hr22_3
    have hz23 : y22.heap.size ≤ y23.heap.size := by rw [← hy23]; exact Nat.le_refl _
    have HR23 := Lib.hid (show Rw 3 y23 a5 BN LB by rw [← hy23]; exact HR22.out.on (Below.refl _ _).drew)
    have HD23 := Lib.hid (show Rw 3 y23 a6 BN LB by rw [← hy23]; exact HD22.out.on (Below.refl _ _).drew)
    rw [hy23] at hS0 ⊢
    clear hy23
    refine wpAnyH_ready (rs := [0]) (by kernel_rfl) (by simp) ?_
    refine AllReadyH.cons rfl (fun K hK => ?_) AllReadyH.nil
    go_simp
    go_wp2_with (go_at_call 7; refine (lawake_any _ (HN_.out.on HU23.out)).mono ?_; rintro e y24 ⟨rfl, hb24⟩)
    have hr24_0 := (hb24.block _ (lt_heap hr23_0)).trans hr23_0
    have hr24_1 := (hb24.block _ (lt_heap hr23_1)).trans hr23_1
    have hr24_2 := (hb24.block _ (lt_heap hr23_2)).trans hr23_2
    have hr24_3 := (hb24.block _ (lt_heap hr23_3)).trans hr23_3
    have HU24 := Lib.hid (HU23.out.trans (hb24.mono HU23.out.size))
    have HR24 := Lib.hid (HR23.out.on hb24)
    have HD24 := Lib.hid (HD23.out.on hb24)
    have hz24 := hb24.size
    refine hK.out _ _ (⟨(hb24.block _ (lt_heap hS0.1)).trans hS0.1, (hb24.block _ (lt_heap hS0.2)).trans hS0.2⟩) (fun hS24c => ?_)
    clear hK K
    refine wpAnyH_take (i := 1) (v := ?_) rfl (by kernel_rfl) (by kernel_rfl) (by kernel_rfl) (fun _ _ _ h => h) (Or.inl ⟨by kernel_rfl, by (intro wz hSz; go_simp; try with_reducible rfl)⟩) hS24c ?_
    go_simp
    refine wpAnyH_take (i := 2) (v := ?_) rfl (by kernel_rfl) (by kernel_rfl) (by kernel_rfl) (fun _ _ _ h => h) (Or.inl ⟨by kernel_rfl, by (intro wz hSz; go_simp; try with_reducible rfl)⟩) hS24c ?_
    go_simp
    refine wpAnyH_take (i := 3) (v := ?_) rfl (by kernel_rfl) (by kernel_rfl) (by kernel_rfl) (fun _ _ _ h => h) (Or.inl ⟨by kernel_rfl, by (intro wz hSz; go_simp; try with_reducible rfl)⟩) hS24c ?_
    go_simp
    refine wpAnyH_take (i := 4) (v := ?_) rfl (by kernel_rfl) (by kernel_rfl) (by kernel_rfl) (fun _ _ _ h => h) (Or.inl ⟨by kernel_rfl, by (intro wz hSz; go_simp; try with_reducible rfl)⟩) hS24c ?_
    go_simp
    refine wpAnyH_take (i := 5) (v := ?_) rfl (by kernel_rfl) (by kernel_rfl) (by kernel_rfl) (fun _ _ _ h => h) (Or.inl ⟨by kernel_rfl, by (intro wz hSz; go_simp; try with_reducible rfl)⟩) hS24c ?_
    go_simp
    refine wpAnyH_take (i := 6) (v := ?_) rfl (by kernel_rfl) (by kernel_rfl) (by kernel_rfl) (fun _ _ _ h => h) (Or.inl ⟨by kernel_rfl, by (intro wz hSz; go_simp; try with_reducible rfl)⟩) hS24c ?_
    go_simp
    refine wpAnyH_take (i := 7) (v := ?_) rfl (by kernel_rfl) (by kernel_rfl) (by kernel_rfl) (fun _ _ _ h => h) (Or.inl ⟨by kernel_rfl, by (intro wz hSz; have c2_0 := cell_of_row _ _ 0 _ _ _ hSz.1; have c2_1 := cell_of_row _ _ 1 _ _ _ hSz.1; have c2_2 := cell_of_row _ _ 2 _ _ _ hSz.1; have c3_0 := cell_of_row _ _ 0 _ _ _ hSz.2; have c3_1 := cell_of_row _ _ 1 _ _ _ hSz.2; have c3_2 := cell_of_row _ _ 2 _ _ _ hSz.2; simp at c2_0 c2_1 c2_2 c3_0 c3_1 c3_2; go_simp; try with_reducible rfl)⟩) hS24c ?_
    go_simp
    refine wpAnyH_take (i := 9) (v := ?_) rfl (by kernel_rfl) (by kernel_rfl) (by kernel_rfl) (fun _ _ _ h => h) (Or.inl ⟨by kernel_rfl, by (intro wz hSz; have c2_0 := cell_of_row _ _ 0 _ _ _ hSz.1; have c2_1 := cell_of_row _ _ 1 _ _ _ hSz.1; have c2_2 := cell_of_row _ _ 2 _ _ _ hSz.1; have c3_0 := cell_of_row _ _ 0 _ _ _ hSz.2; have c3_1 := cell_of_row _ _ 1 _ _ _ hSz.2; have c3_2 := cell_of_row _ _ 2 _ _ _ hSz.2; simp at c2_0 c2_1 c2_2 c3_0 c3_1 c3_2; go_simp; try with_reducible rfl)⟩) hS24c ?_
    go_simp
    refine wpAnyH_ready (rs := [8]) (by kernel_rfl) (by simp) ?_
    refine AllReadyH.cons rfl (fun K hK => ?_) AllReadyH.nil
    go_simp
    go_wp2_with (go_at_call 13; refine (fromsheet_any BW BH a5 BN c5 LB _ HR24.out hbn24).mono ?_; rintro e y25 ⟨⟨a9, c9, rfl, hft⟩, hb25⟩)
    have hr25_0 := (hb25.block _ (lt_heap hr24_0)).trans hr24_0
    have hr25_1 := (hb25.block _ (lt_heap hr24_1)).trans hr24_1
    have hr25_2 := (hb25.block _ (lt_heap hr24_2)).trans hr24_2
    have hr25_3 := (hb25.block _ (lt_heap hr24_3)).trans hr24_3
    have HU25 := Lib.hid (HU24.out.trans (hb25.mono HU24.out.size))
    have HR25 := Lib.hid (HR24.out.on hb25)
    have HD25 := Lib.hid (HD24.out.on hb25)
    have hz25 := hb25.size
    have HT25 := Lib.hid (hft.rw (by decide))
    refine hK.out _ _ (⟨(hb25.block _ (lt_heap hS24c.1)).trans hS24c.1, (hb25.block _ (lt_heap hS24c.2)).trans hS24c.2⟩) (fun hS25c => ?_)
    clear hK K
    refine wpAnyH_ready (rs := [10]) (by kernel_rfl) (by simp) ?_
    refine AllReadyH.cons rfl (fun K hK => ?_) AllReadyH.nil
    go_simp
    go_wp2_with (go_at_call 12; refine (samesheet_any BW BH BN a9 a6 c9 c6 LB _ HT25.out HD25.out hbn1).mono ?_; rintro e y26 ⟨rfl, hb26⟩)
    have hr26_0 := (hb26.block _ (lt_heap hr25_0)).trans hr25_0
    have hr26_1 := (hb26.block _ (lt_heap hr25_1)).trans hr25_1
    have hr26_2 := (hb26.block _ (lt_heap hr25_2)).trans hr25_2
    have hr26_3 := (hb26.block _ (lt_heap hr25_3)).trans hr25_3
    have HU26 := Lib.hid (HU25.out.trans (hb26.mono HU25.out.size))
    have HR26 := Lib.hid (HR25.out.on hb26)
    have HD26 := Lib.hid (HD25.out.on hb26)
    have HT26 := Lib.hid (HT25.out.on hb26)
    have hz26 := hb26.size
    refine hK.out _ _ (⟨(hb26.block _ (lt_heap hS25c.1)).trans hS25c.1, (hb26.block _ (lt_heap hS25c.2)).trans hS25c.2⟩) (fun hS26c => ?_)
    clear hK K
    refine wpAnyH_take (i := 11) (v := ?_) rfl (by kernel_rfl) (by kernel_rfl) (by kernel_rfl) (fun _ _ _ h => h) (Or.inl ⟨by kernel_rfl, by (intro wz hSz; go_simp; try with_reducible rfl)⟩) hS26c ?_
    go_simp
    refine wpAnyH_take (i := 12) (v := ?_) rfl (by kernel_rfl) (by kernel_rfl) (by kernel_rfl) (fun _ _ _ h => h) (Or.inl ⟨by kernel_rfl, by (intro wz hSz; go_simp; try with_reducible rfl)⟩) hS26c ?_
    go_simp
    refine wpAnyH_done (by kernel_rfl) ?_ _
    go_wp2
    go_ret
    exact ⟨rfl, HU26.out⟩

theorem bn_le (f : Flm) (W3 H3 : Int) (n : Nat) (ok : Prop) [Decidable ok] (h : ok → fitP f W3 H3 n) : (if ok then n else 0) ≤ 5000 := by
  split
  · rename_i k
    have h1 := okSz_mul (h k).2.1.1
    have h2 := (h k).2.1.2
    omega
  · omega

theorem walk (f : Flm) (p : Pl) (W3 H3 : Int) (a : Option Addr) (n c : Nat) (L : Nat → Int) (lv : Int) (w : World) (hc : Came w f p) (hm : Rw 3 w a n L) (hm24 : n * 24 ≤ 140737488351232) (hcn : Cnt w) : Calls Tryd.prog 3 #[.agg (FC f p), .agg #[.int .i64 W3, .int .i64 H3, .slice a n c], .int .i64 lv] w fun e' w' => e' = .returned (.bool true) ∧ Below w.heap.size w w' := by
  obtain ⟨W, H, nl, nd, nn, nb, ns, nf, L0, D, N, B, S, F⟩ := f
  obtain ⟨al, cl, ad, cd, an, cn, ab, cb, ax, cx, af, cf⟩ := p
  by_cases k0 : nl ≤ 100
  case neg => exact big_0 W H al ad an ab ax af cl cd cn cb cx cf nl nd nn nb ns nf L0 D N B S F W3 H3 a n c L lv w hc hm hm24 hcn k0
  by_cases k1 : ns ≤ 100
  case neg => exact big_1 W H al ad an ab ax af cl cd cn cb cx cf nl nd nn nb ns nf L0 D N B S F W3 H3 a n c L lv w hc hm hm24 hcn k0 k1
  by_cases k2 : n ≤ 100
  case neg => exact big_2 W H al ad an ab ax af cl cd cn cb cx cf nl nd nn nb ns nf L0 D N B S F W3 H3 a n c L lv w hc hm hm24 hcn k0 k1 k2
  exact go_on W H al ad an ab ax af cl cd cn cb cx cf nl nd nn nb ns nf L0 D N B S F W3 H3 a n c L lv w hc hm hm24 hcn k0 k1 k2 (if okL (⟨W, H, nl, nd, nn, nb, ns, nf, L0, D, N, B, S, F⟩ : Flm) W3 H3 n lv then W3 else 0) (if okL (⟨W, H, nl, nd, nn, nb, ns, nf, L0, D, N, B, S, F⟩ : Flm) W3 H3 n lv then H3 else 0) (if okL (⟨W, H, nl, nd, nn, nb, ns, nf, L0, D, N, B, S, F⟩ : Flm) W3 H3 n lv then 0 else 1) (if okL (⟨W, H, nl, nd, nn, nb, ns, nf, L0, D, N, B, S, F⟩ : Flm) W3 H3 n lv then n else 0) (lev (⟨W, H, nl, nd, nn, nb, ns, nf, L0, D, N, B, S, F⟩ : Flm) W3.toNat H3.toNat lv.toNat L) (bn_le (⟨W, H, nl, nd, nn, nb, ns, nf, L0, D, N, B, S, F⟩ : Flm) W3 H3 n _ (fun k => k.1)) (fun W' p a c h1 h2 h3 => level_all _ p W3 H3 a n c L lv W' h1 h2 h3) (fun W' p a c h1 h2 => dlevel_all _ p W3 H3 a n c L lv W' h1 h2)

end Go.Proofs.YtgpbnpnnbipfpaaDoor.laceLevelsW
