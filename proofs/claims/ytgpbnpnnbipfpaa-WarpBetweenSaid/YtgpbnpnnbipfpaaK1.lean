/- WarpBetween: where a list is too long; helpers. -/
import Derived.Test.YtgpbnpnnbipfpaaE52
namespace Go.Proofs.Ytgpbnpnnbipfpaa.warpBetweenW
open Go Go.RowKit Go.Proofs.Ytgpbnpnnbipfpaa Go.Proofs.Ytgpbnpnnbipfpaa.Rp Go.Proofs.Ytgpbnpnnbipfpaa.Re Go.Proofs.Ytgpbnpnnbipfpaa.Au Go.Proofs.Ytgpbnpnnbipfpaa.Jw Go.Proofs.Ytgpbnpnnbipfpaa.Fm
set_option linter.unusedVariables false
set_option linter.unusedSimpArgs false

theorem rwp_on {P : Nat → Prop} {c : Nat} {w w' : World} {a : Option Addr} {n : Nat} {L : Nat → Int} (h : RwP P c w a n L) (hc : 0 < c) (hb : Below w.heap.size w w') : RwP P c w' a n L :=
 ((h.lt hc).keep (fun b k => hb.block b k.2)).weak (fun b k => k.1)

theorem fat_low {w : World} {f : Flm} {p : Pl} (h : FAt w f p) : FAtQ (fun b => b < w.heap.size) w f p := by
 have e : ∀ {c : Nat} {a : Option Addr} {n : Nat} {L : Nat → Int}, Rw c w a n L → RwP (fun b => b < w.heap.size) c w a n L := by
  intro c a n L h
  rcases h with h | ⟨b, off, h1, h2, h3⟩
  ·
   exact .inl h
  ·
   exact .inr ⟨b, off, h1, h2, h3⟩
 exact ⟨e h.l, e h.d, e h.n, e h.b, e h.s, e h.f⟩

/-- a row of three numbers each, in blocks of which something is known -/
structure R3 (P : Nat → Prop) (w : World) (a : Option Addr) (n : Nat) (L : Nat → Int) : Prop where
 h : RwP P 3 w a n L

theorem R3.below {P : Nat → Prop} {w w' : World} {a : Option Addr} {n : Nat} {L : Nat → Int} (h : R3 P w a n L) (hb : Below w.heap.size w w') : R3 P w' a n L := ⟨rwp_on h.h (by decide) hb⟩

theorem R3.keep {P : Nat → Prop} {w w' : World} {a : Option Addr} {n : Nat} {L : Nat → Int} (h : R3 P w a n L) (hk : ∀ b, P b → w'.heap[b]? = w.heap[b]?) : R3 P w' a n L := ⟨h.h.keep hk⟩


theorem blend_between (f g : Flm) (hs : span f.L (f.nl * 3)) (hs2 : span g.L (g.nl * 3)) (i c : Nat) (hi : i < f.nl) (hc : c < 3) (hl : g.ns = g.nl) :
  Pl.held (blend f g g.L (i * 3 + c)) = blend f g g.L (i * 3 + c) ∧ (¬ (0 ≤ f.F i ∧ f.F i < g.nl) → blend f g g.L (i * 3 + c) = f.L (i * 3 + c)) ∧ (∀ k : Nat, f.F i = k → k < g.nl → min (f.L (i * 3 + c)) (g.L (k * 3 + c)) ≤ blend f g g.L (i * 3 + c) ∧ blend f g g.L (i * 3 + c) ≤ max (f.L (i * 3 + c)) (g.L (k * 3 + c))) := by
 have hx := hs (i * 3 + c) (by omega)
 have hxh : Pl.held (f.L (i * 3 + c)) = f.L (i * 3 + c) := Pl.held_in hx.1 hx.2
 by_cases hp : hasPast f g i
 ·
  obtain ⟨k, hk⟩ : ∃ k : Nat, f.F i = k := ⟨(f.F i).toNat, by have := hp.1; omega⟩
  have hkt : (f.F i).toNat = k := by omega
  have hkl : k < g.nl := by have := hp.2.1; omega
  have e : blend f g g.L (i * 3 + c) = Pl.lerp (f.L (i * 3 + c)) (g.L (k * 3 + c)) 32768 := by
   unfold blend
   rw [show (i * 3 + c) / 3 = i by omega, if_pos hp, hkt, show (i * 3 + c) % 3 = c by omega]
  have hy := hs2 (k * 3 + c) (by omega)
  have hyh : Pl.held (g.L (k * 3 + c)) = g.L (k * 3 + c) := Pl.held_in hy.1 hy.2
  have hb := Pl.lerp_between (f.L (i * 3 + c)) (g.L (k * 3 + c)) 32768
  rw [hxh, hyh] at hb
  rw [e]
  refine ⟨Pl.held_in (Pl.lerp_lo _ _ _) (Pl.lerp_hi _ _ _), fun h => absurd ⟨hp.1, by omega⟩ h, fun k' h1 h2 => ?_⟩
  obtain rfl : k' = k := by omega
  exact hb
 ·
  have e : blend f g g.L (i * 3 + c) = f.L (i * 3 + c) := by
   unfold blend
   rw [show (i * 3 + c) / 3 = i by omega, if_neg hp]
  rw [e]
  exact ⟨hxh, fun _ => rfl, fun k _ _ => ⟨by omega, by omega⟩⟩

theorem blend_none (f g : Flm) (n : Nat) (h : keptN f g n = 0) (M : Nat → Int) : ∀ j, j < n * 3 → blend f g M j = f.L j := fun j hj => by
 unfold blend
 rw [if_neg (keptN_zero f g n h (j / 3) (by omega))]

theorem Rw.congr {c : Nat} {w : World} {a : Option Addr} {n : Nat} {L L' : Nat → Int} (h : Rw c w a n L) (e : ∀ j, j < n * c → L j = L' j) : Rw c w a n L' := by
 rcases h with h | ⟨b, off, h1, h2, h3⟩
 ·
  exact .inl h
 ·
  exact .inr ⟨b, off, h1, h2, fun j hj => by rw [← e j hj]; exact h3 j hj⟩

set_option maxHeartbeats 16000000 in
set_option maxRecDepth 100000 in
theorem big_0 (W H : Int) (al ad an ab ax af : Option Addr) (cl cd cn cb cx cf nl nd nn nb ns nf : Nat) (L D N B S F : Nat → Int) (W2 H2 : Int) (al2 ad2 an2 ab2 ax2 af2 : Option Addr) (cl2 cd2 cn2 cb2 cx2 cf2 nl2 nd2 nn2 nb2 ns2 nf2 : Nat) (L2 D2 N2 B2 S2 F2 : Nat → Int) (w : World) (hc : Came w (⟨W, H, nl, nd, nn, nb, ns, nf, L, D, N, B, S, F⟩ : Flm) (⟨al, cl, ad, cd, an, cn, ab, cb, ax, cx, af, cf⟩ : Pl)) (hc2 : Came w (⟨W2, H2, nl2, nd2, nn2, nb2, ns2, nf2, L2, D2, N2, B2, S2, F2⟩ : Flm) (⟨al2, cl2, ad2, cd2, an2, cn2, ab2, cb2, ax2, cx2, af2, cf2⟩ : Pl)) (k0 : 5000 < nl) : Calls Try.prog 4 #[.agg #[.int .i64 W, .int .i64 H, .slice al nl cl, .slice ad nd cd, .slice an nn cn, .slice ab nb cb, .slice ax ns cx, .slice af nf cf], .agg #[.int .i64 W2, .int .i64 H2, .slice al2 nl2 cl2, .slice ad2 nd2 cd2, .slice an2 nn2 cn2, .slice ab2 nb2 cb2, .slice ax2 ns2 cx2, .slice af2 nf2 cf2]] w fun e' w' => e' = .returned (.bool true) ∧ Below w.heap.size w w' := by
 have HC := Lib.hid hc
 have HC2 := Lib.hid hc2
 clear hc hc2
 go_enter Try.func4, Try.ntmps4
 go_upto_region 1 with fail
 have hR := Au.rows2 w (.cells #[.int .i64 W, .int .i64 H, .slice al nl cl, .slice ad nd cd, .slice an nn cn, .slice ab nb cb, .slice ax ns cx, .slice af nf cf] 29) (.cells #[.int .i64 W2, .int .i64 H2, .slice al2 nl2 cl2, .slice ad2 nd2 cd2, .slice an2 nn2 cn2, .slice ab2 nb2 cb2, .slice ax2 ns2 cx2, .slice af2 nf2 cf2] 29)
 have HUx := Ve.below_n2 w (.cells #[.int .i64 W, .int .i64 H, .slice al nl cl, .slice ad nd cd, .slice an nn cn, .slice ab nb cb, .slice ax ns cx, .slice af nf cf] 29) (.cells #[.int .i64 W2, .int .i64 H2, .slice al2 nl2 cl2, .slice ad2 nd2 cd2, .slice an2 nn2 cn2, .slice ab2 nb2 cb2, .slice ax2 ns2 cx2, .slice af2 nf2 cf2] 29)
 obtain ⟨y0, hy0⟩ : ∃ y0, (w.alloc (.cells #[.int .i64 W, .int .i64 H, .slice al nl cl, .slice ad nd cd, .slice an nn cn, .slice ab nb cb, .slice ax ns cx, .slice af nf cf] 29)).alloc (.cells #[.int .i64 W2, .int .i64 H2, .slice al2 nl2 cl2, .slice ad2 nd2 cd2, .slice an2 nn2 cn2, .slice ab2 nb2 cb2, .slice ax2 ns2 cx2, .slice af2 nf2 cf2] 29) = y0 := ⟨_, rfl⟩
 rw [hy0] at hR HUx ⊢
 clear hy0
 have HU0 := Lib.hid HUx
 clear HUx
 obtain ⟨hr0_0, hr0_1⟩ := hR
 have c0_0 := cell_of_row _ _ 0 _ _ _ hr0_0
 have c0_1 := cell_of_row _ _ 1 _ _ _ hr0_0
 have c0_2 := cell_of_row _ _ 2 _ _ _ hr0_0
 have c0_3 := cell_of_row _ _ 3 _ _ _ hr0_0
 have c0_4 := cell_of_row _ _ 4 _ _ _ hr0_0
 have c0_5 := cell_of_row _ _ 5 _ _ _ hr0_0
 have c0_6 := cell_of_row _ _ 6 _ _ _ hr0_0
 have c0_7 := cell_of_row _ _ 7 _ _ _ hr0_0
 have c1_0 := cell_of_row _ _ 0 _ _ _ hr0_1
 have c1_1 := cell_of_row _ _ 1 _ _ _ hr0_1
 have c1_2 := cell_of_row _ _ 2 _ _ _ hr0_1
 have c1_3 := cell_of_row _ _ 3 _ _ _ hr0_1
 have c1_4 := cell_of_row _ _ 4 _ _ _ hr0_1
 have c1_5 := cell_of_row _ _ 5 _ _ _ hr0_1
 have c1_6 := cell_of_row _ _ 6 _ _ _ hr0_1
 have c1_7 := cell_of_row _ _ 7 _ _ _ hr0_1
 simp at c0_0 c0_1 c0_2 c0_3 c0_4 c0_5 c0_6 c0_7 c1_0 c1_1 c1_2 c1_3 c1_4 c1_5 c1_6 c1_7
 go_wp2_with fail
 clear c0_0 c0_1 c0_2 c0_3 c0_4 c0_5 c0_6 c0_7 c1_0 c1_1 c1_2 c1_3 c1_4 c1_5 c1_6 c1_7
 have hb1 := Ve.below_n1 y0 (.cells #[.int .i64 W, .int .i64 H, .slice al nl cl, .slice ad nd cd, .slice an nn cn, .slice ab nb cb, .slice ax ns cx, .slice af nf cf, .int .i64 W2, .int .i64 H2, .slice al2 nl2 cl2, .slice ad2 nd2 cd2, .slice an2 nn2 cn2, .slice ab2 nb2 cb2, .slice ax2 ns2 cx2, .slice af2 nf2 cf2] 29)
 have hN := heap_alloc_last y0 (.cells #[.int .i64 W, .int .i64 H, .slice al nl cl, .slice ad nd cd, .slice an nn cn, .slice ab nb cb, .slice ax ns cx, .slice af nf cf, .int .i64 W2, .int .i64 H2, .slice al2 nl2 cl2, .slice ad2 nd2 cd2, .slice an2 nn2 cn2, .slice ab2 nb2 cb2, .slice ax2 ns2 cx2, .slice af2 nf2 cf2] 29)
 obtain ⟨y1, hy1⟩ : ∃ y, y0.alloc (.cells #[.int .i64 W, .int .i64 H, .slice al nl cl, .slice ad nd cd, .slice an nn cn, .slice ab nb cb, .slice ax ns cx, .slice af nf cf, .int .i64 W2, .int .i64 H2, .slice al2 nl2 cl2, .slice ad2 nd2 cd2, .slice an2 nn2 cn2, .slice ab2 nb2 cb2, .slice ax2 ns2 cx2, .slice af2 nf2 cf2] 29) = y := ⟨_, rfl⟩
 have hs1 : y1.heap.size = y0.heap.size + 1 := by rw [← hy1]; simp
 rw [hy1] at hb1 hN ⊢
 clear hy1
 have hl1_0 := lt_heap hr0_0
 have hl1_1 := lt_heap hr0_1
 have hr1_0 := (hb1.block _ (lt_heap hr0_0)).trans hr0_0
 have hr1_1 := (hb1.block _ (lt_heap hr0_1)).trans hr0_1
 have HU1 := Lib.hid (HU0.out.trans (hb1.mono HU0.out.size))
 clear hr0_0 hr0_1 HU0
 have hr1_2 := hN
 clear hN
 refine (light_0 W H W2 H2 al ad an ab ax af al2 ad2 an2 ab2 ax2 af2 cl cd cn cb cx cf nl nd nn nb ns nf cl2 cd2 cn2 cb2 cx2 cf2 nl2 nd2 nn2 nb2 ns2 nf2 _ _ hr1_2 k0).mono ?_
 rintro e y2 ⟨rfl, hb2⟩
 have hr2_0 := (hb2.block _ (lt_heap hr1_0)).trans hr1_0
 have hr2_1 := (hb2.block _ (lt_heap hr1_1)).trans hr1_1
 have hr2_2 := (hb2.block _ (lt_heap hr1_2)).trans hr1_2
 have HU2 := Lib.hid (HU1.out.trans (hb2.mono HU1.out.size))
 clear hr1_0 hr1_1 hr1_2 HU1
 go_wp2_with fail
 refine (wawake_any _).mono ?_
 rintro e y3 ⟨rfl, hb3⟩
 have hr3_0 := (hb3.block _ (lt_heap hr2_0)).trans hr2_0
 have hr3_1 := (hb3.block _ (lt_heap hr2_1)).trans hr2_1
 have hr3_2 := (hb3.block _ (lt_heap hr2_2)).trans hr2_2
 have HU3 := Lib.hid (HU2.out.trans (hb3.mono HU2.out.size))
 clear hr2_0 hr2_1 hr2_2 HU2
 go_wp2
 go_ret
 exact ⟨rfl, HU3.out⟩

set_option maxHeartbeats 16000000 in
set_option maxRecDepth 100000 in
theorem big_1 (W H : Int) (al ad an ab ax af : Option Addr) (cl cd cn cb cx cf nl nd nn nb ns nf : Nat) (L D N B S F : Nat → Int) (W2 H2 : Int) (al2 ad2 an2 ab2 ax2 af2 : Option Addr) (cl2 cd2 cn2 cb2 cx2 cf2 nl2 nd2 nn2 nb2 ns2 nf2 : Nat) (L2 D2 N2 B2 S2 F2 : Nat → Int) (w : World) (hc : Came w (⟨W, H, nl, nd, nn, nb, ns, nf, L, D, N, B, S, F⟩ : Flm) (⟨al, cl, ad, cd, an, cn, ab, cb, ax, cx, af, cf⟩ : Pl)) (hc2 : Came w (⟨W2, H2, nl2, nd2, nn2, nb2, ns2, nf2, L2, D2, N2, B2, S2, F2⟩ : Flm) (⟨al2, cl2, ad2, cd2, an2, cn2, ab2, cb2, ax2, cx2, af2, cf2⟩ : Pl)) (k0 : ¬ 5000 < nl) (k1 : 5000 < ns) : Calls Try.prog 4 #[.agg #[.int .i64 W, .int .i64 H, .slice al nl cl, .slice ad nd cd, .slice an nn cn, .slice ab nb cb, .slice ax ns cx, .slice af nf cf], .agg #[.int .i64 W2, .int .i64 H2, .slice al2 nl2 cl2, .slice ad2 nd2 cd2, .slice an2 nn2 cn2, .slice ab2 nb2 cb2, .slice ax2 ns2 cx2, .slice af2 nf2 cf2]] w fun e' w' => e' = .returned (.bool true) ∧ Below w.heap.size w w' := by
 have HC := Lib.hid hc
 have HC2 := Lib.hid hc2
 clear hc hc2
 go_enter Try.func4, Try.ntmps4
 go_upto_region 1 with fail
 have hR := Au.rows2 w (.cells #[.int .i64 W, .int .i64 H, .slice al nl cl, .slice ad nd cd, .slice an nn cn, .slice ab nb cb, .slice ax ns cx, .slice af nf cf] 29) (.cells #[.int .i64 W2, .int .i64 H2, .slice al2 nl2 cl2, .slice ad2 nd2 cd2, .slice an2 nn2 cn2, .slice ab2 nb2 cb2, .slice ax2 ns2 cx2, .slice af2 nf2 cf2] 29)
 have HUx := Ve.below_n2 w (.cells #[.int .i64 W, .int .i64 H, .slice al nl cl, .slice ad nd cd, .slice an nn cn, .slice ab nb cb, .slice ax ns cx, .slice af nf cf] 29) (.cells #[.int .i64 W2, .int .i64 H2, .slice al2 nl2 cl2, .slice ad2 nd2 cd2, .slice an2 nn2 cn2, .slice ab2 nb2 cb2, .slice ax2 ns2 cx2, .slice af2 nf2 cf2] 29)
 obtain ⟨y0, hy0⟩ : ∃ y0, (w.alloc (.cells #[.int .i64 W, .int .i64 H, .slice al nl cl, .slice ad nd cd, .slice an nn cn, .slice ab nb cb, .slice ax ns cx, .slice af nf cf] 29)).alloc (.cells #[.int .i64 W2, .int .i64 H2, .slice al2 nl2 cl2, .slice ad2 nd2 cd2, .slice an2 nn2 cn2, .slice ab2 nb2 cb2, .slice ax2 ns2 cx2, .slice af2 nf2 cf2] 29) = y0 := ⟨_, rfl⟩
 rw [hy0] at hR HUx ⊢
 clear hy0
 have HU0 := Lib.hid HUx
 clear HUx
 obtain ⟨hr0_0, hr0_1⟩ := hR
 have c0_0 := cell_of_row _ _ 0 _ _ _ hr0_0
 have c0_1 := cell_of_row _ _ 1 _ _ _ hr0_0
 have c0_2 := cell_of_row _ _ 2 _ _ _ hr0_0
 have c0_3 := cell_of_row _ _ 3 _ _ _ hr0_0
 have c0_4 := cell_of_row _ _ 4 _ _ _ hr0_0
 have c0_5 := cell_of_row _ _ 5 _ _ _ hr0_0
 have c0_6 := cell_of_row _ _ 6 _ _ _ hr0_0
 have c0_7 := cell_of_row _ _ 7 _ _ _ hr0_0
 have c1_0 := cell_of_row _ _ 0 _ _ _ hr0_1
 have c1_1 := cell_of_row _ _ 1 _ _ _ hr0_1
 have c1_2 := cell_of_row _ _ 2 _ _ _ hr0_1
 have c1_3 := cell_of_row _ _ 3 _ _ _ hr0_1
 have c1_4 := cell_of_row _ _ 4 _ _ _ hr0_1
 have c1_5 := cell_of_row _ _ 5 _ _ _ hr0_1
 have c1_6 := cell_of_row _ _ 6 _ _ _ hr0_1
 have c1_7 := cell_of_row _ _ 7 _ _ _ hr0_1
 simp at c0_0 c0_1 c0_2 c0_3 c0_4 c0_5 c0_6 c0_7 c1_0 c1_1 c1_2 c1_3 c1_4 c1_5 c1_6 c1_7
 go_wp2_with fail
 clear c0_0 c0_1 c0_2 c0_3 c0_4 c0_5 c0_6 c0_7 c1_0 c1_1 c1_2 c1_3 c1_4 c1_5 c1_6 c1_7
 have hb1 := Ve.below_n1 y0 (.cells #[.int .i64 W, .int .i64 H, .slice al nl cl, .slice ad nd cd, .slice an nn cn, .slice ab nb cb, .slice ax ns cx, .slice af nf cf, .int .i64 W2, .int .i64 H2, .slice al2 nl2 cl2, .slice ad2 nd2 cd2, .slice an2 nn2 cn2, .slice ab2 nb2 cb2, .slice ax2 ns2 cx2, .slice af2 nf2 cf2] 29)
 have hN := heap_alloc_last y0 (.cells #[.int .i64 W, .int .i64 H, .slice al nl cl, .slice ad nd cd, .slice an nn cn, .slice ab nb cb, .slice ax ns cx, .slice af nf cf, .int .i64 W2, .int .i64 H2, .slice al2 nl2 cl2, .slice ad2 nd2 cd2, .slice an2 nn2 cn2, .slice ab2 nb2 cb2, .slice ax2 ns2 cx2, .slice af2 nf2 cf2] 29)
 obtain ⟨y1, hy1⟩ : ∃ y, y0.alloc (.cells #[.int .i64 W, .int .i64 H, .slice al nl cl, .slice ad nd cd, .slice an nn cn, .slice ab nb cb, .slice ax ns cx, .slice af nf cf, .int .i64 W2, .int .i64 H2, .slice al2 nl2 cl2, .slice ad2 nd2 cd2, .slice an2 nn2 cn2, .slice ab2 nb2 cb2, .slice ax2 ns2 cx2, .slice af2 nf2 cf2] 29) = y := ⟨_, rfl⟩
 have hs1 : y1.heap.size = y0.heap.size + 1 := by rw [← hy1]; simp
 rw [hy1] at hb1 hN ⊢
 clear hy1
 have hl1_0 := lt_heap hr0_0
 have hl1_1 := lt_heap hr0_1
 have hr1_0 := (hb1.block _ (lt_heap hr0_0)).trans hr0_0
 have hr1_1 := (hb1.block _ (lt_heap hr0_1)).trans hr0_1
 have HU1 := Lib.hid (HU0.out.trans (hb1.mono HU0.out.size))
 clear hr0_0 hr0_1 HU0
 have hr1_2 := hN
 clear hN
 refine (light_1 W H W2 H2 al ad an ab ax af al2 ad2 an2 ab2 ax2 af2 cl cd cn cb cx cf nl nd nn nb ns nf cl2 cd2 cn2 cb2 cx2 cf2 nl2 nd2 nn2 nb2 ns2 nf2 _ _ hr1_2 k0 k1).mono ?_
 rintro e y2 ⟨rfl, hb2⟩
 have hr2_0 := (hb2.block _ (lt_heap hr1_0)).trans hr1_0
 have hr2_1 := (hb2.block _ (lt_heap hr1_1)).trans hr1_1
 have hr2_2 := (hb2.block _ (lt_heap hr1_2)).trans hr1_2
 have HU2 := Lib.hid (HU1.out.trans (hb2.mono HU1.out.size))
 clear hr1_0 hr1_1 hr1_2 HU1
 go_wp2_with fail
 refine (wawake_any _).mono ?_
 rintro e y3 ⟨rfl, hb3⟩
 have hr3_0 := (hb3.block _ (lt_heap hr2_0)).trans hr2_0
 have hr3_1 := (hb3.block _ (lt_heap hr2_1)).trans hr2_1
 have hr3_2 := (hb3.block _ (lt_heap hr2_2)).trans hr2_2
 have HU3 := Lib.hid (HU2.out.trans (hb3.mono HU2.out.size))
 clear hr2_0 hr2_1 hr2_2 HU2
 go_wp2
 go_ret
 exact ⟨rfl, HU3.out⟩

set_option maxHeartbeats 16000000 in
set_option maxRecDepth 100000 in
theorem big_2 (W H : Int) (al ad an ab ax af : Option Addr) (cl cd cn cb cx cf nl nd nn nb ns nf : Nat) (L D N B S F : Nat → Int) (W2 H2 : Int) (al2 ad2 an2 ab2 ax2 af2 : Option Addr) (cl2 cd2 cn2 cb2 cx2 cf2 nl2 nd2 nn2 nb2 ns2 nf2 : Nat) (L2 D2 N2 B2 S2 F2 : Nat → Int) (w : World) (hc : Came w (⟨W, H, nl, nd, nn, nb, ns, nf, L, D, N, B, S, F⟩ : Flm) (⟨al, cl, ad, cd, an, cn, ab, cb, ax, cx, af, cf⟩ : Pl)) (hc2 : Came w (⟨W2, H2, nl2, nd2, nn2, nb2, ns2, nf2, L2, D2, N2, B2, S2, F2⟩ : Flm) (⟨al2, cl2, ad2, cd2, an2, cn2, ab2, cb2, ax2, cx2, af2, cf2⟩ : Pl)) (k0 : ¬ 5000 < nl) (k1 : ¬ 5000 < ns) (k2 : 5000 < nf) : Calls Try.prog 4 #[.agg #[.int .i64 W, .int .i64 H, .slice al nl cl, .slice ad nd cd, .slice an nn cn, .slice ab nb cb, .slice ax ns cx, .slice af nf cf], .agg #[.int .i64 W2, .int .i64 H2, .slice al2 nl2 cl2, .slice ad2 nd2 cd2, .slice an2 nn2 cn2, .slice ab2 nb2 cb2, .slice ax2 ns2 cx2, .slice af2 nf2 cf2]] w fun e' w' => e' = .returned (.bool true) ∧ Below w.heap.size w w' := by
 have HC := Lib.hid hc
 have HC2 := Lib.hid hc2
 clear hc hc2
 go_enter Try.func4, Try.ntmps4
 go_upto_region 1 with fail
 have hR := Au.rows2 w (.cells #[.int .i64 W, .int .i64 H, .slice al nl cl, .slice ad nd cd, .slice an nn cn, .slice ab nb cb, .slice ax ns cx, .slice af nf cf] 29) (.cells #[.int .i64 W2, .int .i64 H2, .slice al2 nl2 cl2, .slice ad2 nd2 cd2, .slice an2 nn2 cn2, .slice ab2 nb2 cb2, .slice ax2 ns2 cx2, .slice af2 nf2 cf2] 29)
 have HUx := Ve.below_n2 w (.cells #[.int .i64 W, .int .i64 H, .slice al nl cl, .slice ad nd cd, .slice an nn cn, .slice ab nb cb, .slice ax ns cx, .slice af nf cf] 29) (.cells #[.int .i64 W2, .int .i64 H2, .slice al2 nl2 cl2, .slice ad2 nd2 cd2, .slice an2 nn2 cn2, .slice ab2 nb2 cb2, .slice ax2 ns2 cx2, .slice af2 nf2 cf2] 29)
 obtain ⟨y0, hy0⟩ : ∃ y0, (w.alloc (.cells #[.int .i64 W, .int .i64 H, .slice al nl cl, .slice ad nd cd, .slice an nn cn, .slice ab nb cb, .slice ax ns cx, .slice af nf cf] 29)).alloc (.cells #[.int .i64 W2, .int .i64 H2, .slice al2 nl2 cl2, .slice ad2 nd2 cd2, .slice an2 nn2 cn2, .slice ab2 nb2 cb2, .slice ax2 ns2 cx2, .slice af2 nf2 cf2] 29) = y0 := ⟨_, rfl⟩
 rw [hy0] at hR HUx ⊢
 clear hy0
 have HU0 := Lib.hid HUx
 clear HUx
 obtain ⟨hr0_0, hr0_1⟩ := hR
 have c0_0 := cell_of_row _ _ 0 _ _ _ hr0_0
 have c0_1 := cell_of_row _ _ 1 _ _ _ hr0_0
 have c0_2 := cell_of_row _ _ 2 _ _ _ hr0_0
 have c0_3 := cell_of_row _ _ 3 _ _ _ hr0_0
 have c0_4 := cell_of_row _ _ 4 _ _ _ hr0_0
 have c0_5 := cell_of_row _ _ 5 _ _ _ hr0_0
 have c0_6 := cell_of_row _ _ 6 _ _ _ hr0_0
 have c0_7 := cell_of_row _ _ 7 _ _ _ hr0_0
 have c1_0 := cell_of_row _ _ 0 _ _ _ hr0_1
 have c1_1 := cell_of_row _ _ 1 _ _ _ hr0_1
 have c1_2 := cell_of_row _ _ 2 _ _ _ hr0_1
 have c1_3 := cell_of_row _ _ 3 _ _ _ hr0_1
 have c1_4 := cell_of_row _ _ 4 _ _ _ hr0_1
 have c1_5 := cell_of_row _ _ 5 _ _ _ hr0_1
 have c1_6 := cell_of_row _ _ 6 _ _ _ hr0_1
 have c1_7 := cell_of_row _ _ 7 _ _ _ hr0_1
 simp at c0_0 c0_1 c0_2 c0_3 c0_4 c0_5 c0_6 c0_7 c1_0 c1_1 c1_2 c1_3 c1_4 c1_5 c1_6 c1_7
 go_wp2_with fail
 clear c0_0 c0_1 c0_2 c0_3 c0_4 c0_5 c0_6 c0_7 c1_0 c1_1 c1_2 c1_3 c1_4 c1_5 c1_6 c1_7
 have hb1 := Ve.below_n1 y0 (.cells #[.int .i64 W, .int .i64 H, .slice al nl cl, .slice ad nd cd, .slice an nn cn, .slice ab nb cb, .slice ax ns cx, .slice af nf cf, .int .i64 W2, .int .i64 H2, .slice al2 nl2 cl2, .slice ad2 nd2 cd2, .slice an2 nn2 cn2, .slice ab2 nb2 cb2, .slice ax2 ns2 cx2, .slice af2 nf2 cf2] 29)
 have hN := heap_alloc_last y0 (.cells #[.int .i64 W, .int .i64 H, .slice al nl cl, .slice ad nd cd, .slice an nn cn, .slice ab nb cb, .slice ax ns cx, .slice af nf cf, .int .i64 W2, .int .i64 H2, .slice al2 nl2 cl2, .slice ad2 nd2 cd2, .slice an2 nn2 cn2, .slice ab2 nb2 cb2, .slice ax2 ns2 cx2, .slice af2 nf2 cf2] 29)
 obtain ⟨y1, hy1⟩ : ∃ y, y0.alloc (.cells #[.int .i64 W, .int .i64 H, .slice al nl cl, .slice ad nd cd, .slice an nn cn, .slice ab nb cb, .slice ax ns cx, .slice af nf cf, .int .i64 W2, .int .i64 H2, .slice al2 nl2 cl2, .slice ad2 nd2 cd2, .slice an2 nn2 cn2, .slice ab2 nb2 cb2, .slice ax2 ns2 cx2, .slice af2 nf2 cf2] 29) = y := ⟨_, rfl⟩
 have hs1 : y1.heap.size = y0.heap.size + 1 := by rw [← hy1]; simp
 rw [hy1] at hb1 hN ⊢
 clear hy1
 have hl1_0 := lt_heap hr0_0
 have hl1_1 := lt_heap hr0_1
 have hr1_0 := (hb1.block _ (lt_heap hr0_0)).trans hr0_0
 have hr1_1 := (hb1.block _ (lt_heap hr0_1)).trans hr0_1
 have HU1 := Lib.hid (HU0.out.trans (hb1.mono HU0.out.size))
 clear hr0_0 hr0_1 HU0
 have hr1_2 := hN
 clear hN
 refine (light_2 W H W2 H2 al ad an ab ax af al2 ad2 an2 ab2 ax2 af2 cl cd cn cb cx cf nl nd nn nb ns nf cl2 cd2 cn2 cb2 cx2 cf2 nl2 nd2 nn2 nb2 ns2 nf2 _ _ hr1_2 k0 k1 k2).mono ?_
 rintro e y2 ⟨rfl, hb2⟩
 have hr2_0 := (hb2.block _ (lt_heap hr1_0)).trans hr1_0
 have hr2_1 := (hb2.block _ (lt_heap hr1_1)).trans hr1_1
 have hr2_2 := (hb2.block _ (lt_heap hr1_2)).trans hr1_2
 have HU2 := Lib.hid (HU1.out.trans (hb2.mono HU1.out.size))
 clear hr1_0 hr1_1 hr1_2 HU1
 go_wp2_with fail
 refine (wawake_any _).mono ?_
 rintro e y3 ⟨rfl, hb3⟩
 have hr3_0 := (hb3.block _ (lt_heap hr2_0)).trans hr2_0
 have hr3_1 := (hb3.block _ (lt_heap hr2_1)).trans hr2_1
 have hr3_2 := (hb3.block _ (lt_heap hr2_2)).trans hr2_2
 have HU3 := Lib.hid (HU2.out.trans (hb3.mono HU2.out.size))
 clear hr2_0 hr2_1 hr2_2 HU2
 go_wp2
 go_ret
 exact ⟨rfl, HU3.out⟩

set_option maxHeartbeats 16000000 in
set_option maxRecDepth 100000 in
theorem big_3 (W H : Int) (al ad an ab ax af : Option Addr) (cl cd cn cb cx cf nl nd nn nb ns nf : Nat) (L D N B S F : Nat → Int) (W2 H2 : Int) (al2 ad2 an2 ab2 ax2 af2 : Option Addr) (cl2 cd2 cn2 cb2 cx2 cf2 nl2 nd2 nn2 nb2 ns2 nf2 : Nat) (L2 D2 N2 B2 S2 F2 : Nat → Int) (w : World) (hc : Came w (⟨W, H, nl, nd, nn, nb, ns, nf, L, D, N, B, S, F⟩ : Flm) (⟨al, cl, ad, cd, an, cn, ab, cb, ax, cx, af, cf⟩ : Pl)) (hc2 : Came w (⟨W2, H2, nl2, nd2, nn2, nb2, ns2, nf2, L2, D2, N2, B2, S2, F2⟩ : Flm) (⟨al2, cl2, ad2, cd2, an2, cn2, ab2, cb2, ax2, cx2, af2, cf2⟩ : Pl)) (k0 : ¬ 5000 < nl) (k1 : ¬ 5000 < ns) (k2 : ¬ 5000 < nf) (k3 : 5000 < nl2) : Calls Try.prog 4 #[.agg #[.int .i64 W, .int .i64 H, .slice al nl cl, .slice ad nd cd, .slice an nn cn, .slice ab nb cb, .slice ax ns cx, .slice af nf cf], .agg #[.int .i64 W2, .int .i64 H2, .slice al2 nl2 cl2, .slice ad2 nd2 cd2, .slice an2 nn2 cn2, .slice ab2 nb2 cb2, .slice ax2 ns2 cx2, .slice af2 nf2 cf2]] w fun e' w' => e' = .returned (.bool true) ∧ Below w.heap.size w w' := by
 have HC := Lib.hid hc
 have HC2 := Lib.hid hc2
 clear hc hc2
 go_enter Try.func4, Try.ntmps4
 go_upto_region 1 with fail
 have hR := Au.rows2 w (.cells #[.int .i64 W, .int .i64 H, .slice al nl cl, .slice ad nd cd, .slice an nn cn, .slice ab nb cb, .slice ax ns cx, .slice af nf cf] 29) (.cells #[.int .i64 W2, .int .i64 H2, .slice al2 nl2 cl2, .slice ad2 nd2 cd2, .slice an2 nn2 cn2, .slice ab2 nb2 cb2, .slice ax2 ns2 cx2, .slice af2 nf2 cf2] 29)
 have HUx := Ve.below_n2 w (.cells #[.int .i64 W, .int .i64 H, .slice al nl cl, .slice ad nd cd, .slice an nn cn, .slice ab nb cb, .slice ax ns cx, .slice af nf cf] 29) (.cells #[.int .i64 W2, .int .i64 H2, .slice al2 nl2 cl2, .slice ad2 nd2 cd2, .slice an2 nn2 cn2, .slice ab2 nb2 cb2, .slice ax2 ns2 cx2, .slice af2 nf2 cf2] 29)
 obtain ⟨y0, hy0⟩ : ∃ y0, (w.alloc (.cells #[.int .i64 W, .int .i64 H, .slice al nl cl, .slice ad nd cd, .slice an nn cn, .slice ab nb cb, .slice ax ns cx, .slice af nf cf] 29)).alloc (.cells #[.int .i64 W2, .int .i64 H2, .slice al2 nl2 cl2, .slice ad2 nd2 cd2, .slice an2 nn2 cn2, .slice ab2 nb2 cb2, .slice ax2 ns2 cx2, .slice af2 nf2 cf2] 29) = y0 := ⟨_, rfl⟩
 rw [hy0] at hR HUx ⊢
 clear hy0
 have HU0 := Lib.hid HUx
 clear HUx
 obtain ⟨hr0_0, hr0_1⟩ := hR
 have c0_0 := cell_of_row _ _ 0 _ _ _ hr0_0
 have c0_1 := cell_of_row _ _ 1 _ _ _ hr0_0
 have c0_2 := cell_of_row _ _ 2 _ _ _ hr0_0
 have c0_3 := cell_of_row _ _ 3 _ _ _ hr0_0
 have c0_4 := cell_of_row _ _ 4 _ _ _ hr0_0
 have c0_5 := cell_of_row _ _ 5 _ _ _ hr0_0
 have c0_6 := cell_of_row _ _ 6 _ _ _ hr0_0
 have c0_7 := cell_of_row _ _ 7 _ _ _ hr0_0
 have c1_0 := cell_of_row _ _ 0 _ _ _ hr0_1
 have c1_1 := cell_of_row _ _ 1 _ _ _ hr0_1
 have c1_2 := cell_of_row _ _ 2 _ _ _ hr0_1
 have c1_3 := cell_of_row _ _ 3 _ _ _ hr0_1
 have c1_4 := cell_of_row _ _ 4 _ _ _ hr0_1
 have c1_5 := cell_of_row _ _ 5 _ _ _ hr0_1
 have c1_6 := cell_of_row _ _ 6 _ _ _ hr0_1
 have c1_7 := cell_of_row _ _ 7 _ _ _ hr0_1
 simp at c0_0 c0_1 c0_2 c0_3 c0_4 c0_5 c0_6 c0_7 c1_0 c1_1 c1_2 c1_3 c1_4 c1_5 c1_6 c1_7
 go_wp2_with fail
 clear c0_0 c0_1 c0_2 c0_3 c0_4 c0_5 c0_6 c0_7 c1_0 c1_1 c1_2 c1_3 c1_4 c1_5 c1_6 c1_7
 have hb1 := Ve.below_n1 y0 (.cells #[.int .i64 W, .int .i64 H, .slice al nl cl, .slice ad nd cd, .slice an nn cn, .slice ab nb cb, .slice ax ns cx, .slice af nf cf, .int .i64 W2, .int .i64 H2, .slice al2 nl2 cl2, .slice ad2 nd2 cd2, .slice an2 nn2 cn2, .slice ab2 nb2 cb2, .slice ax2 ns2 cx2, .slice af2 nf2 cf2] 29)
 have hN := heap_alloc_last y0 (.cells #[.int .i64 W, .int .i64 H, .slice al nl cl, .slice ad nd cd, .slice an nn cn, .slice ab nb cb, .slice ax ns cx, .slice af nf cf, .int .i64 W2, .int .i64 H2, .slice al2 nl2 cl2, .slice ad2 nd2 cd2, .slice an2 nn2 cn2, .slice ab2 nb2 cb2, .slice ax2 ns2 cx2, .slice af2 nf2 cf2] 29)
 obtain ⟨y1, hy1⟩ : ∃ y, y0.alloc (.cells #[.int .i64 W, .int .i64 H, .slice al nl cl, .slice ad nd cd, .slice an nn cn, .slice ab nb cb, .slice ax ns cx, .slice af nf cf, .int .i64 W2, .int .i64 H2, .slice al2 nl2 cl2, .slice ad2 nd2 cd2, .slice an2 nn2 cn2, .slice ab2 nb2 cb2, .slice ax2 ns2 cx2, .slice af2 nf2 cf2] 29) = y := ⟨_, rfl⟩
 have hs1 : y1.heap.size = y0.heap.size + 1 := by rw [← hy1]; simp
 rw [hy1] at hb1 hN ⊢
 clear hy1
 have hl1_0 := lt_heap hr0_0
 have hl1_1 := lt_heap hr0_1
 have hr1_0 := (hb1.block _ (lt_heap hr0_0)).trans hr0_0
 have hr1_1 := (hb1.block _ (lt_heap hr0_1)).trans hr0_1
 have HU1 := Lib.hid (HU0.out.trans (hb1.mono HU0.out.size))
 clear hr0_0 hr0_1 HU0
 have hr1_2 := hN
 clear hN
 refine (light_3 W H W2 H2 al ad an ab ax af al2 ad2 an2 ab2 ax2 af2 cl cd cn cb cx cf nl nd nn nb ns nf cl2 cd2 cn2 cb2 cx2 cf2 nl2 nd2 nn2 nb2 ns2 nf2 _ _ hr1_2 k0 k1 k2 k3).mono ?_
 rintro e y2 ⟨rfl, hb2⟩
 have hr2_0 := (hb2.block _ (lt_heap hr1_0)).trans hr1_0
 have hr2_1 := (hb2.block _ (lt_heap hr1_1)).trans hr1_1
 have hr2_2 := (hb2.block _ (lt_heap hr1_2)).trans hr1_2
 have HU2 := Lib.hid (HU1.out.trans (hb2.mono HU1.out.size))
 clear hr1_0 hr1_1 hr1_2 HU1
 go_wp2_with fail
 refine (wawake_any _).mono ?_
 rintro e y3 ⟨rfl, hb3⟩
 have hr3_0 := (hb3.block _ (lt_heap hr2_0)).trans hr2_0
 have hr3_1 := (hb3.block _ (lt_heap hr2_1)).trans hr2_1
 have hr3_2 := (hb3.block _ (lt_heap hr2_2)).trans hr2_2
 have HU3 := Lib.hid (HU2.out.trans (hb3.mono HU2.out.size))
 clear hr2_0 hr2_1 hr2_2 HU2
 go_wp2
 go_ret
 exact ⟨rfl, HU3.out⟩

set_option maxHeartbeats 16000000 in
set_option maxRecDepth 100000 in
theorem big_4 (W H : Int) (al ad an ab ax af : Option Addr) (cl cd cn cb cx cf nl nd nn nb ns nf : Nat) (L D N B S F : Nat → Int) (W2 H2 : Int) (al2 ad2 an2 ab2 ax2 af2 : Option Addr) (cl2 cd2 cn2 cb2 cx2 cf2 nl2 nd2 nn2 nb2 ns2 nf2 : Nat) (L2 D2 N2 B2 S2 F2 : Nat → Int) (w : World) (hc : Came w (⟨W, H, nl, nd, nn, nb, ns, nf, L, D, N, B, S, F⟩ : Flm) (⟨al, cl, ad, cd, an, cn, ab, cb, ax, cx, af, cf⟩ : Pl)) (hc2 : Came w (⟨W2, H2, nl2, nd2, nn2, nb2, ns2, nf2, L2, D2, N2, B2, S2, F2⟩ : Flm) (⟨al2, cl2, ad2, cd2, an2, cn2, ab2, cb2, ax2, cx2, af2, cf2⟩ : Pl)) (k0 : ¬ 5000 < nl) (k1 : ¬ 5000 < ns) (k2 : ¬ 5000 < nf) (k3 : ¬ 5000 < nl2) (k4 : 5000 < ns2) : Calls Try.prog 4 #[.agg #[.int .i64 W, .int .i64 H, .slice al nl cl, .slice ad nd cd, .slice an nn cn, .slice ab nb cb, .slice ax ns cx, .slice af nf cf], .agg #[.int .i64 W2, .int .i64 H2, .slice al2 nl2 cl2, .slice ad2 nd2 cd2, .slice an2 nn2 cn2, .slice ab2 nb2 cb2, .slice ax2 ns2 cx2, .slice af2 nf2 cf2]] w fun e' w' => e' = .returned (.bool true) ∧ Below w.heap.size w w' := by
 have HC := Lib.hid hc
 have HC2 := Lib.hid hc2
 clear hc hc2
 go_enter Try.func4, Try.ntmps4
 go_upto_region 1 with fail
 have hR := Au.rows2 w (.cells #[.int .i64 W, .int .i64 H, .slice al nl cl, .slice ad nd cd, .slice an nn cn, .slice ab nb cb, .slice ax ns cx, .slice af nf cf] 29) (.cells #[.int .i64 W2, .int .i64 H2, .slice al2 nl2 cl2, .slice ad2 nd2 cd2, .slice an2 nn2 cn2, .slice ab2 nb2 cb2, .slice ax2 ns2 cx2, .slice af2 nf2 cf2] 29)
 have HUx := Ve.below_n2 w (.cells #[.int .i64 W, .int .i64 H, .slice al nl cl, .slice ad nd cd, .slice an nn cn, .slice ab nb cb, .slice ax ns cx, .slice af nf cf] 29) (.cells #[.int .i64 W2, .int .i64 H2, .slice al2 nl2 cl2, .slice ad2 nd2 cd2, .slice an2 nn2 cn2, .slice ab2 nb2 cb2, .slice ax2 ns2 cx2, .slice af2 nf2 cf2] 29)
 obtain ⟨y0, hy0⟩ : ∃ y0, (w.alloc (.cells #[.int .i64 W, .int .i64 H, .slice al nl cl, .slice ad nd cd, .slice an nn cn, .slice ab nb cb, .slice ax ns cx, .slice af nf cf] 29)).alloc (.cells #[.int .i64 W2, .int .i64 H2, .slice al2 nl2 cl2, .slice ad2 nd2 cd2, .slice an2 nn2 cn2, .slice ab2 nb2 cb2, .slice ax2 ns2 cx2, .slice af2 nf2 cf2] 29) = y0 := ⟨_, rfl⟩
 rw [hy0] at hR HUx ⊢
 clear hy0
 have HU0 := Lib.hid HUx
 clear HUx
 obtain ⟨hr0_0, hr0_1⟩ := hR
 have c0_0 := cell_of_row _ _ 0 _ _ _ hr0_0
 have c0_1 := cell_of_row _ _ 1 _ _ _ hr0_0
 have c0_2 := cell_of_row _ _ 2 _ _ _ hr0_0
 have c0_3 := cell_of_row _ _ 3 _ _ _ hr0_0
 have c0_4 := cell_of_row _ _ 4 _ _ _ hr0_0
 have c0_5 := cell_of_row _ _ 5 _ _ _ hr0_0
 have c0_6 := cell_of_row _ _ 6 _ _ _ hr0_0
 have c0_7 := cell_of_row _ _ 7 _ _ _ hr0_0
 have c1_0 := cell_of_row _ _ 0 _ _ _ hr0_1
 have c1_1 := cell_of_row _ _ 1 _ _ _ hr0_1
 have c1_2 := cell_of_row _ _ 2 _ _ _ hr0_1
 have c1_3 := cell_of_row _ _ 3 _ _ _ hr0_1
 have c1_4 := cell_of_row _ _ 4 _ _ _ hr0_1
 have c1_5 := cell_of_row _ _ 5 _ _ _ hr0_1
 have c1_6 := cell_of_row _ _ 6 _ _ _ hr0_1
 have c1_7 := cell_of_row _ _ 7 _ _ _ hr0_1
 simp at c0_0 c0_1 c0_2 c0_3 c0_4 c0_5 c0_6 c0_7 c1_0 c1_1 c1_2 c1_3 c1_4 c1_5 c1_6 c1_7
 go_wp2_with fail
 clear c0_0 c0_1 c0_2 c0_3 c0_4 c0_5 c0_6 c0_7 c1_0 c1_1 c1_2 c1_3 c1_4 c1_5 c1_6 c1_7
 have hb1 := Ve.below_n1 y0 (.cells #[.int .i64 W, .int .i64 H, .slice al nl cl, .slice ad nd cd, .slice an nn cn, .slice ab nb cb, .slice ax ns cx, .slice af nf cf, .int .i64 W2, .int .i64 H2, .slice al2 nl2 cl2, .slice ad2 nd2 cd2, .slice an2 nn2 cn2, .slice ab2 nb2 cb2, .slice ax2 ns2 cx2, .slice af2 nf2 cf2] 29)
 have hN := heap_alloc_last y0 (.cells #[.int .i64 W, .int .i64 H, .slice al nl cl, .slice ad nd cd, .slice an nn cn, .slice ab nb cb, .slice ax ns cx, .slice af nf cf, .int .i64 W2, .int .i64 H2, .slice al2 nl2 cl2, .slice ad2 nd2 cd2, .slice an2 nn2 cn2, .slice ab2 nb2 cb2, .slice ax2 ns2 cx2, .slice af2 nf2 cf2] 29)
 obtain ⟨y1, hy1⟩ : ∃ y, y0.alloc (.cells #[.int .i64 W, .int .i64 H, .slice al nl cl, .slice ad nd cd, .slice an nn cn, .slice ab nb cb, .slice ax ns cx, .slice af nf cf, .int .i64 W2, .int .i64 H2, .slice al2 nl2 cl2, .slice ad2 nd2 cd2, .slice an2 nn2 cn2, .slice ab2 nb2 cb2, .slice ax2 ns2 cx2, .slice af2 nf2 cf2] 29) = y := ⟨_, rfl⟩
 have hs1 : y1.heap.size = y0.heap.size + 1 := by rw [← hy1]; simp
 rw [hy1] at hb1 hN ⊢
 clear hy1
 have hl1_0 := lt_heap hr0_0
 have hl1_1 := lt_heap hr0_1
 have hr1_0 := (hb1.block _ (lt_heap hr0_0)).trans hr0_0
 have hr1_1 := (hb1.block _ (lt_heap hr0_1)).trans hr0_1
 have HU1 := Lib.hid (HU0.out.trans (hb1.mono HU0.out.size))
 clear hr0_0 hr0_1 HU0
 have hr1_2 := hN
 clear hN
 refine (light_4 W H W2 H2 al ad an ab ax af al2 ad2 an2 ab2 ax2 af2 cl cd cn cb cx cf nl nd nn nb ns nf cl2 cd2 cn2 cb2 cx2 cf2 nl2 nd2 nn2 nb2 ns2 nf2 _ _ hr1_2 k0 k1 k2 k3 k4).mono ?_
 rintro e y2 ⟨rfl, hb2⟩
 have hr2_0 := (hb2.block _ (lt_heap hr1_0)).trans hr1_0
 have hr2_1 := (hb2.block _ (lt_heap hr1_1)).trans hr1_1
 have hr2_2 := (hb2.block _ (lt_heap hr1_2)).trans hr1_2
 have HU2 := Lib.hid (HU1.out.trans (hb2.mono HU1.out.size))
 clear hr1_0 hr1_1 hr1_2 HU1
 go_wp2_with fail
 refine (wawake_any _).mono ?_
 rintro e y3 ⟨rfl, hb3⟩
 have hr3_0 := (hb3.block _ (lt_heap hr2_0)).trans hr2_0
 have hr3_1 := (hb3.block _ (lt_heap hr2_1)).trans hr2_1
 have hr3_2 := (hb3.block _ (lt_heap hr2_2)).trans hr2_2
 have HU3 := Lib.hid (HU2.out.trans (hb3.mono HU2.out.size))
 clear hr2_0 hr2_1 hr2_2 HU2
 go_wp2
 go_ret
 exact ⟨rfl, HU3.out⟩

set_option maxHeartbeats 16000000 in
set_option maxRecDepth 100000 in
theorem big_5 (W H : Int) (al ad an ab ax af : Option Addr) (cl cd cn cb cx cf nl nd nn nb ns nf : Nat) (L D N B S F : Nat → Int) (W2 H2 : Int) (al2 ad2 an2 ab2 ax2 af2 : Option Addr) (cl2 cd2 cn2 cb2 cx2 cf2 nl2 nd2 nn2 nb2 ns2 nf2 : Nat) (L2 D2 N2 B2 S2 F2 : Nat → Int) (w : World) (hc : Came w (⟨W, H, nl, nd, nn, nb, ns, nf, L, D, N, B, S, F⟩ : Flm) (⟨al, cl, ad, cd, an, cn, ab, cb, ax, cx, af, cf⟩ : Pl)) (hc2 : Came w (⟨W2, H2, nl2, nd2, nn2, nb2, ns2, nf2, L2, D2, N2, B2, S2, F2⟩ : Flm) (⟨al2, cl2, ad2, cd2, an2, cn2, ab2, cb2, ax2, cx2, af2, cf2⟩ : Pl)) (k0 : ¬ 5000 < nl) (k1 : ¬ 5000 < ns) (k2 : ¬ 5000 < nf) (k3 : ¬ 5000 < nl2) (k4 : ¬ 5000 < ns2) (k5 : 5000 < nf2) : Calls Try.prog 4 #[.agg #[.int .i64 W, .int .i64 H, .slice al nl cl, .slice ad nd cd, .slice an nn cn, .slice ab nb cb, .slice ax ns cx, .slice af nf cf], .agg #[.int .i64 W2, .int .i64 H2, .slice al2 nl2 cl2, .slice ad2 nd2 cd2, .slice an2 nn2 cn2, .slice ab2 nb2 cb2, .slice ax2 ns2 cx2, .slice af2 nf2 cf2]] w fun e' w' => e' = .returned (.bool true) ∧ Below w.heap.size w w' := by
 have HC := Lib.hid hc
 have HC2 := Lib.hid hc2
 clear hc hc2
 go_enter Try.func4, Try.ntmps4
 go_upto_region 1 with fail
 have hR := Au.rows2 w (.cells #[.int .i64 W, .int .i64 H, .slice al nl cl, .slice ad nd cd, .slice an nn cn, .slice ab nb cb, .slice ax ns cx, .slice af nf cf] 29) (.cells #[.int .i64 W2, .int .i64 H2, .slice al2 nl2 cl2, .slice ad2 nd2 cd2, .slice an2 nn2 cn2, .slice ab2 nb2 cb2, .slice ax2 ns2 cx2, .slice af2 nf2 cf2] 29)
 have HUx := Ve.below_n2 w (.cells #[.int .i64 W, .int .i64 H, .slice al nl cl, .slice ad nd cd, .slice an nn cn, .slice ab nb cb, .slice ax ns cx, .slice af nf cf] 29) (.cells #[.int .i64 W2, .int .i64 H2, .slice al2 nl2 cl2, .slice ad2 nd2 cd2, .slice an2 nn2 cn2, .slice ab2 nb2 cb2, .slice ax2 ns2 cx2, .slice af2 nf2 cf2] 29)
 obtain ⟨y0, hy0⟩ : ∃ y0, (w.alloc (.cells #[.int .i64 W, .int .i64 H, .slice al nl cl, .slice ad nd cd, .slice an nn cn, .slice ab nb cb, .slice ax ns cx, .slice af nf cf] 29)).alloc (.cells #[.int .i64 W2, .int .i64 H2, .slice al2 nl2 cl2, .slice ad2 nd2 cd2, .slice an2 nn2 cn2, .slice ab2 nb2 cb2, .slice ax2 ns2 cx2, .slice af2 nf2 cf2] 29) = y0 := ⟨_, rfl⟩
 rw [hy0] at hR HUx ⊢
 clear hy0
 have HU0 := Lib.hid HUx
 clear HUx
 obtain ⟨hr0_0, hr0_1⟩ := hR
 have c0_0 := cell_of_row _ _ 0 _ _ _ hr0_0
 have c0_1 := cell_of_row _ _ 1 _ _ _ hr0_0
 have c0_2 := cell_of_row _ _ 2 _ _ _ hr0_0
 have c0_3 := cell_of_row _ _ 3 _ _ _ hr0_0
 have c0_4 := cell_of_row _ _ 4 _ _ _ hr0_0
 have c0_5 := cell_of_row _ _ 5 _ _ _ hr0_0
 have c0_6 := cell_of_row _ _ 6 _ _ _ hr0_0
 have c0_7 := cell_of_row _ _ 7 _ _ _ hr0_0
 have c1_0 := cell_of_row _ _ 0 _ _ _ hr0_1
 have c1_1 := cell_of_row _ _ 1 _ _ _ hr0_1
 have c1_2 := cell_of_row _ _ 2 _ _ _ hr0_1
 have c1_3 := cell_of_row _ _ 3 _ _ _ hr0_1
 have c1_4 := cell_of_row _ _ 4 _ _ _ hr0_1
 have c1_5 := cell_of_row _ _ 5 _ _ _ hr0_1
 have c1_6 := cell_of_row _ _ 6 _ _ _ hr0_1
 have c1_7 := cell_of_row _ _ 7 _ _ _ hr0_1
 simp at c0_0 c0_1 c0_2 c0_3 c0_4 c0_5 c0_6 c0_7 c1_0 c1_1 c1_2 c1_3 c1_4 c1_5 c1_6 c1_7
 go_wp2_with fail
 clear c0_0 c0_1 c0_2 c0_3 c0_4 c0_5 c0_6 c0_7 c1_0 c1_1 c1_2 c1_3 c1_4 c1_5 c1_6 c1_7
 have hb1 := Ve.below_n1 y0 (.cells #[.int .i64 W, .int .i64 H, .slice al nl cl, .slice ad nd cd, .slice an nn cn, .slice ab nb cb, .slice ax ns cx, .slice af nf cf, .int .i64 W2, .int .i64 H2, .slice al2 nl2 cl2, .slice ad2 nd2 cd2, .slice an2 nn2 cn2, .slice ab2 nb2 cb2, .slice ax2 ns2 cx2, .slice af2 nf2 cf2] 29)
 have hN := heap_alloc_last y0 (.cells #[.int .i64 W, .int .i64 H, .slice al nl cl, .slice ad nd cd, .slice an nn cn, .slice ab nb cb, .slice ax ns cx, .slice af nf cf, .int .i64 W2, .int .i64 H2, .slice al2 nl2 cl2, .slice ad2 nd2 cd2, .slice an2 nn2 cn2, .slice ab2 nb2 cb2, .slice ax2 ns2 cx2, .slice af2 nf2 cf2] 29)
 obtain ⟨y1, hy1⟩ : ∃ y, y0.alloc (.cells #[.int .i64 W, .int .i64 H, .slice al nl cl, .slice ad nd cd, .slice an nn cn, .slice ab nb cb, .slice ax ns cx, .slice af nf cf, .int .i64 W2, .int .i64 H2, .slice al2 nl2 cl2, .slice ad2 nd2 cd2, .slice an2 nn2 cn2, .slice ab2 nb2 cb2, .slice ax2 ns2 cx2, .slice af2 nf2 cf2] 29) = y := ⟨_, rfl⟩
 have hs1 : y1.heap.size = y0.heap.size + 1 := by rw [← hy1]; simp
 rw [hy1] at hb1 hN ⊢
 clear hy1
 have hl1_0 := lt_heap hr0_0
 have hl1_1 := lt_heap hr0_1
 have hr1_0 := (hb1.block _ (lt_heap hr0_0)).trans hr0_0
 have hr1_1 := (hb1.block _ (lt_heap hr0_1)).trans hr0_1
 have HU1 := Lib.hid (HU0.out.trans (hb1.mono HU0.out.size))
 clear hr0_0 hr0_1 HU0
 have hr1_2 := hN
 clear hN
 refine (light_5 W H W2 H2 al ad an ab ax af al2 ad2 an2 ab2 ax2 af2 cl cd cn cb cx cf nl nd nn nb ns nf cl2 cd2 cn2 cb2 cx2 cf2 nl2 nd2 nn2 nb2 ns2 nf2 _ _ hr1_2 k0 k1 k2 k3 k4 k5).mono ?_
 rintro e y2 ⟨rfl, hb2⟩
 have hr2_0 := (hb2.block _ (lt_heap hr1_0)).trans hr1_0
 have hr2_1 := (hb2.block _ (lt_heap hr1_1)).trans hr1_1
 have hr2_2 := (hb2.block _ (lt_heap hr1_2)).trans hr1_2
 have HU2 := Lib.hid (HU1.out.trans (hb2.mono HU1.out.size))
 clear hr1_0 hr1_1 hr1_2 HU1
 go_wp2_with fail
 refine (wawake_any _).mono ?_
 rintro e y3 ⟨rfl, hb3⟩
 have hr3_0 := (hb3.block _ (lt_heap hr2_0)).trans hr2_0
 have hr3_1 := (hb3.block _ (lt_heap hr2_1)).trans hr2_1
 have hr3_2 := (hb3.block _ (lt_heap hr2_2)).trans hr2_2
 have HU3 := Lib.hid (HU2.out.trans (hb3.mono HU2.out.size))
 clear hr2_0 hr2_1 hr2_2 HU2
 go_wp2
 go_ret
 exact ⟨rfl, HU3.out⟩

end Go.Proofs.Ytgpbnpnnbipfpaa.warpBetweenW
