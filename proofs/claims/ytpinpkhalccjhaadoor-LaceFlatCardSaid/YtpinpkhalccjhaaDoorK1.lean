/- LaceFlat: the painted cells, the walk. -/
import Derived.Test.YtpinpkhalccjhaaDoorF51
namespace Go.Proofs.YtpinpkhalccjhaaDoor.Fm
open Go Go.RowKit Go.Proofs.YtpinpkhalccjhaaDoor Go.Proofs.YtpinpkhalccjhaaDoor.Rp Go.Proofs.YtpinpkhalccjhaaDoor.Re Go.Proofs.YtpinpkhalccjhaaDoor.Au Go.Proofs.YtpinpkhalccjhaaDoor.Jw Go.Proofs.YtpinpkhalccjhaaDoor.Fmt
set_option linter.unusedVariables false
set_option linter.unusedSimpArgs false

def hv3 (x y z : Int) (c : Nat) : Int := if c = 0 then x else if c = 1 then y else z

def Painted (cs0 cs : Array Value) (off k : Nat) (x y z : Int) : Prop :=
  cs.size = cs0.size ∧ (∀ (m : Nat) (u : Int), cs0[m]? = some (Value.int .i64 u) → ∃ u' : Int, cs[m]? = some (Value.int .i64 u')) ∧ ∀ j : Nat, j < 3 * k → cs[off + j]? = some (Value.int .i64 (hv3 x y z (j % 3)))

abbrev paint3 (cs : Array Value) (o : Nat) (x y z : Int) : Array Value :=
  ((cs.setIfInBounds o (.int .i64 x)).setIfInBounds (o + 1) (.int .i64 y)).setIfInBounds (o + 2) (.int .i64 z)

theorem paint_at (cs : Array Value) (o m : Nat) (x y z : Int) (h : o + 2 < cs.size) :
    (paint3 cs o x y z)[m]? = if m = o then some (.int .i64 x) else if m = o + 1 then some (.int .i64 y) else if m = o + 2 then some (.int .i64 z) else cs[m]? := by
  unfold paint3
  rw [Array.getElem?_setIfInBounds, Array.getElem?_setIfInBounds, Array.getElem?_setIfInBounds]
  simp only [Array.size_setIfInBounds]
  by_cases h2 : o + 2 = m
  · rw [if_pos h2, if_pos h, if_neg (by omega), if_neg (by omega), if_pos h2.symm]
  · rw [if_neg h2]
    by_cases h1 : o + 1 = m
    · rw [if_pos h1, if_pos (by omega), if_neg (by omega), if_pos h1.symm]
    · rw [if_neg h1]
      by_cases h0 : o = m
      · rw [if_pos h0, if_pos (by omega), if_pos h0.symm]
      · rw [if_neg h0, if_neg (by omega), if_neg (by omega), if_neg (by omega)]

theorem painted_0 (cs0 : Array Value) (off : Nat) (x y z : Int) : Painted cs0 cs0 off 0 x y z := ⟨rfl, fun m u h => ⟨u, h⟩, fun j h => by omega⟩

theorem painted_step {cs0 cs : Array Value} {off k : Nat} {x y z : Int} (h : Painted cs0 cs off k x y z) (hs : off + k * 3 + 2 < cs0.size) : Painted cs0 (paint3 cs (off + k * 3) x y z) off (k + 1) x y z := by
  obtain ⟨h1, h2, h3⟩ := h
  refine ⟨by simp [h1], fun m u hm => ?_, fun j hj => ?_⟩
  · rw [paint_at _ _ _ _ _ _ (by omega)]
    by_cases e0 : m = off + k * 3
    · rw [if_pos e0]; exact ⟨_, rfl⟩
    · rw [if_neg e0]
      by_cases e1 : m = off + k * 3 + 1
      · rw [if_pos e1]; exact ⟨_, rfl⟩
      · rw [if_neg e1]
        by_cases e2 : m = off + k * 3 + 2
        · rw [if_pos e2]; exact ⟨_, rfl⟩
        · rw [if_neg e2]; exact h2 m u hm
  · rw [paint_at _ _ _ _ _ _ (by omega)]
    by_cases e0 : j = k * 3
    · rw [if_pos (by omega)]; subst e0; unfold hv3; rw [if_pos (by omega)]
    · rw [if_neg (by omega)]
      by_cases e1 : j = k * 3 + 1
      · rw [if_pos (by omega)]; subst e1; unfold hv3; rw [if_neg (by omega), if_pos (by omega)]
      · rw [if_neg (by omega)]
        by_cases e2 : j = k * 3 + 2
        · rw [if_pos (by omega)]; subst e2; unfold hv3; rw [if_neg (by omega), if_neg (by omega)]
        · rw [if_neg (by omega)]; exact h3 j (by omega)

theorem cells_lt {w : World} {b m : Nat} {cs : Array Value} {T : TypeId} {v : Value} (hb : w.heap[b]? = some (.cells cs T (0, 0))) (h : w.cell? ⟨b, m, none⟩ = some v) : m < cs.size := by
  have h' : cs[m]? = some v := by simpa [World.cell?, hb] using h
  rcases Nat.lt_or_ge m cs.size with h1 | h1
  · exact h1
  · rw [Array.getElem?_eq_none h1] at h'; cases h'

theorem cells_some {w : World} {b m : Nat} {cs : Array Value} {T : TypeId} (hb : w.heap[b]? = some (.cells cs T (0, 0))) (h : m < cs.size) : ∃ v, w.cell? ⟨b, m, none⟩ = some v :=
  ⟨cs[m], by simp [World.cell?, hb, h]⟩

theorem painted_heap (w : World) (b o : Nat) (cs : Array Value) (T : TypeId) (x y z : Int) (hb : w.heap[b]? = some (.cells cs T (0, 0))) :
    (((w.setCell ⟨b, o, none⟩ (.int .i64 x)).setCell ⟨b, o + 1, none⟩ (.int .i64 y)).setCell ⟨b, o + 2, none⟩ (.int .i64 z)).heap[b]? = some (.cells (paint3 cs o x y z) T (0, 0)) :=
  heap_setCell_same _ _ _ _ _ _ (heap_setCell_same _ _ _ _ _ _ (heap_setCell_same _ _ _ _ _ _ hb))

/-- a row in another block reads on -/
theorem rwp_other {T T' : TypeId} {P : Nat → Prop} {c : Nat} {w w' : World} {a : Option Addr} {n b : Nat} {L : Nat → Int} {cs : Array Value} (h : RwPT T P c w a n L) (hc : 0 < c) (hb : w.heap[b]? = some (.cells cs T' (0, 0))) (hT : T ≠ T') (ha : Aw (fun z => z < w.heap.size ∧ z ≠ b) w w') : Rw c w' a n L := by
  rcases h with h | ⟨q, off, h1, h2, h3, cq, h4⟩
  · exact .inl h
  · have hq : q < w.heap.size := lt_heap h4
    have hne : q ≠ b := fun e => by
      rw [e, hb] at h4
      injection h4 with h4
      injection h4 with _ h5 _
      exact hT h5.symm
    exact .inr ⟨q, off, h1, Nat.lt_of_lt_of_le hq ha.size, fun j hj => (ha.cell (p := ⟨q, off + j, none⟩) ⟨hq, hne⟩ hq).trans (h3 j hj)⟩

/-- a row in the same block holds numbers still -/
theorem rwp_same {T : TypeId} {P : Nat → Prop} {w w' : World} {a : Option Addr} {n b off k : Nat} {L : Nat → Int} {cs cs' : Array Value} {x y z : Int} (h : RwPT T P 3 w a n L) (hb : w.heap[b]? = some (.cells cs T (0, 0))) (hb' : w'.heap[b]? = some (.cells cs' T (0, 0))) (hp : Painted cs cs' off k x y z) (ha : Aw (fun z => z < w.heap.size ∧ z ≠ b) w w') : ∃ L', Rw 3 w' a n L' := by
  rcases h with h | ⟨q, o, h1, h2, h3, cq, h4⟩
  · exact ⟨L, .inl h⟩
  · have hq : q < w.heap.size := lt_heap h4
    by_cases e : q = b
    · subst e
      have hall : ∀ j, ∃ u, j < n * 3 → w'.cell? ⟨q, o + j, none⟩ = some (.int .i64 u) := fun j => by
        by_cases hj : j < n * 3
        · have h5 := h3 j hj
          have h6 : cs[o + j]? = some (.int .i64 (L j)) := by simpa [World.cell?, hb] using h5
          obtain ⟨u, hu⟩ := hp.2.1 _ _ h6
          exact ⟨u, fun _ => by simp [World.cell?, hb', hu]⟩
        · exact ⟨0, fun h => absurd h hj⟩
      exact ⟨fun j => Classical.choose (hall j), .inr ⟨q, o, h1, lt_heap hb', fun j hj => Classical.choose_spec (hall j) hj⟩⟩
    · exact ⟨L, .inr ⟨q, o, h1, Nat.lt_of_lt_of_le hq ha.size, fun j hj => (ha.cell (p := ⟨q, o + j, none⟩) ⟨hq, e⟩ hq).trans (h3 j hj)⟩⟩

/-- the painted row -/
theorem rwp_painted {T : TypeId} {w' : World} {n b off : Nat} {cs cs' : Array Value} {x y z : Int} (hb' : w'.heap[b]? = some (.cells cs' T (0, 0))) (hp : Painted cs cs' off n x y z) : Rw 3 w' (some ⟨b, off, none⟩) n (fun j => hv3 x y z (j % 3)) :=
  .inr ⟨b, off, rfl, lt_heap hb', fun j hj => by have h := hp.2.2 j (by omega); simp [World.cell?, hb', h]⟩

theorem fat_painted {P : Nat → Prop} {w w' : World} {f : Flm} {p : Pl} {b off : Nat} {cs cs' : Array Value} {x y z : Int} (h : FAtT P w f p) (hal : p.al = some ⟨b, off, none⟩) (hb : w.heap[b]? = some (.cells cs 47 (0, 0))) (hb' : w'.heap[b]? = some (.cells cs' 47 (0, 0))) (hp : Painted cs cs' off f.nl x y z) (ha : Aw (fun z => z < w.heap.size ∧ z ≠ b) w w') :
    ∃ B', FAt w' { f with L := fun j => hv3 x y z (j % 3), B := B' } p := by
  obtain ⟨h1, h2, h3, h4, h5, h6⟩ := h
  obtain ⟨B', hB'⟩ := rwp_same h4 hb hb' hp ha
  exact ⟨B', by rw [hal]; exact rwp_painted hb' hp, rwp_other h2 (by decide) hb (by decide) ha, rwp_other h3 (by decide) hb (by decide) ha, hB', rwp_other h5 (by decide) hb (by decide) ha, rwp_other h6 (by decide) hb (by decide) ha⟩

end Go.Proofs.YtpinpkhalccjhaaDoor.Fm

namespace Go.Proofs.YtpinpkhalccjhaaDoor.laceFlatW
open Go Go.RowKit Go.Proofs.YtpinpkhalccjhaaDoor Go.Proofs.YtpinpkhalccjhaaDoor.Rp Go.Proofs.YtpinpkhalccjhaaDoor.Re Go.Proofs.YtpinpkhalccjhaaDoor.Au Go.Proofs.YtpinpkhalccjhaaDoor.Jw Go.Proofs.YtpinpkhalccjhaaDoor.Fm Go.Proofs.YtpinpkhalccjhaaDoor.Fmt
set_option linter.unusedVariables false
set_option linter.unusedSimpArgs false

set_option maxHeartbeats 16000000 in
set_option maxRecDepth 100000 in
theorem big_0 (W H : Int) (al ad an ab ax af : Option Addr) (cl cd cn cb cx cf nl nd nn nb ns nf : Nat) (L0 D N B S F : Nat → Int) (hx hy hz : Int) (w : World) (hc : Came w (⟨W, H, nl, nd, nn, nb, ns, nf, L0, D, N, B, S, F⟩ : Flm) (⟨al, cl, ad, cd, an, cn, ab, cb, ax, cx, af, cf⟩ : Pl)) (hcn : Cnt w) (k0 : ¬ nl ≤ 100) : Calls Tryd.prog 3 #[.agg #[.int .i64 W, .int .i64 H, .slice al nl cl, .slice ad nd cd, .slice an nn cn, .slice ab nb cb, .slice ax ns cx, .slice af nf cf], .agg #[.int .i64 hx, .int .i64 hy, .int .i64 hz]] w fun e' w' => e' = .returned (.bool true) ∧ Below w.heap.size w w' := by
  have HC := Lib.hid hc
  have HN_ := Lib.hid hcn
  clear hc hcn
  go_enter Tryd.func3, Tryd.ntmps3
  go_upto_region 1 with fail
  have hR := Au.rows2 w (.cells #[.int .i64 W, .int .i64 H, .slice al nl cl, .slice ad nd cd, .slice an nn cn, .slice ab nb cb, .slice ax ns cx, .slice af nf cf] 29) (.cells #[.int .i64 hx, .int .i64 hy, .int .i64 hz] 31)
  have HUx := Ve.below_n2 w (.cells #[.int .i64 W, .int .i64 H, .slice al nl cl, .slice ad nd cd, .slice an nn cn, .slice ab nb cb, .slice ax ns cx, .slice af nf cf] 29) (.cells #[.int .i64 hx, .int .i64 hy, .int .i64 hz] 31)
  obtain ⟨y0, hy0⟩ : ∃ y0, (w.alloc (.cells #[.int .i64 W, .int .i64 H, .slice al nl cl, .slice ad nd cd, .slice an nn cn, .slice ab nb cb, .slice ax ns cx, .slice af nf cf] 29)).alloc (.cells #[.int .i64 hx, .int .i64 hy, .int .i64 hz] 31) = y0 := ⟨_, rfl⟩
  rw [hy0] at hR HUx ⊢
  clear hy0
  have HU0 := Lib.hid HUx
  clear HUx
  obtain ⟨hr0_0, hr0_1⟩ := hR
  have c0_0 := cell_of_row _ _ 0 _ _ _ hr0_0
  have c0_1 := cell_of_row _ _ 1 _ _ _ hr0_0
  have c0_2 := cell_of_row _ _ 2 _ _ _ hr0_0
  have c0_3 := cell_of_row _ _ 3 _ _ _ hr0_0
  have c0_4 := cell_of_row _ _ 4 _ _ _ hr0_0
  have c0_5 := cell_of_row _ _ 5 _ _ _ hr0_0
  have c0_6 := cell_of_row _ _ 6 _ _ _ hr0_0
  have c0_7 := cell_of_row _ _ 7 _ _ _ hr0_0
  simp at c0_0 c0_1 c0_2 c0_3 c0_4 c0_5 c0_6 c0_7
  go_wp2_with fail
  refine (light20_0 (⟨W, H, nl, nd, nn, nb, ns, nf, L0, D, N, B, S, F⟩ : Flm) (⟨al, cl, ad, cd, an, cn, ab, cb, ax, cx, af, cf⟩ : Pl) W H al nl cl L0 _ k0).mono ?_
  rintro e y1 ⟨rfl, hb1⟩
  clear c0_0 c0_1 c0_2 c0_3 c0_4 c0_5 c0_6 c0_7
  have hr1_0 := (hb1.block _ (lt_heap hr0_0)).trans hr0_0
  have hr1_1 := (hb1.block _ (lt_heap hr0_1)).trans hr0_1
  have HU1 := Lib.hid (HU0.out.trans (hb1.mono HU0.out.size))
  clear hr0_0 hr0_1 HU0
  go_wp2_with fail
  refine (lawake_any _ (HN_.out.on HU1.out)).mono ?_
  rintro e y2 ⟨rfl, hb2⟩
  have HU2 := Lib.hid (HU1.out.trans (hb2.mono HU1.out.size))
  go_wp2_with fail
  go_ret
  exact ⟨rfl, HU2.out⟩

set_option maxHeartbeats 16000000 in
set_option maxRecDepth 100000 in
theorem big_1 (W H : Int) (al ad an ab ax af : Option Addr) (cl cd cn cb cx cf nl nd nn nb ns nf : Nat) (L0 D N B S F : Nat → Int) (hx hy hz : Int) (w : World) (hc : Came w (⟨W, H, nl, nd, nn, nb, ns, nf, L0, D, N, B, S, F⟩ : Flm) (⟨al, cl, ad, cd, an, cn, ab, cb, ax, cx, af, cf⟩ : Pl)) (hcn : Cnt w) (k0 : nl ≤ 100) (k1 : ¬ ns ≤ 100) : Calls Tryd.prog 3 #[.agg #[.int .i64 W, .int .i64 H, .slice al nl cl, .slice ad nd cd, .slice an nn cn, .slice ab nb cb, .slice ax ns cx, .slice af nf cf], .agg #[.int .i64 hx, .int .i64 hy, .int .i64 hz]] w fun e' w' => e' = .returned (.bool true) ∧ Below w.heap.size w w' := by
  have HC := Lib.hid hc
  have HN_ := Lib.hid hcn
  clear hc hcn
  go_enter Tryd.func3, Tryd.ntmps3
  go_upto_region 1 with fail
  have hR := Au.rows2 w (.cells #[.int .i64 W, .int .i64 H, .slice al nl cl, .slice ad nd cd, .slice an nn cn, .slice ab nb cb, .slice ax ns cx, .slice af nf cf] 29) (.cells #[.int .i64 hx, .int .i64 hy, .int .i64 hz] 31)
  have HUx := Ve.below_n2 w (.cells #[.int .i64 W, .int .i64 H, .slice al nl cl, .slice ad nd cd, .slice an nn cn, .slice ab nb cb, .slice ax ns cx, .slice af nf cf] 29) (.cells #[.int .i64 hx, .int .i64 hy, .int .i64 hz] 31)
  obtain ⟨y0, hy0⟩ : ∃ y0, (w.alloc (.cells #[.int .i64 W, .int .i64 H, .slice al nl cl, .slice ad nd cd, .slice an nn cn, .slice ab nb cb, .slice ax ns cx, .slice af nf cf] 29)).alloc (.cells #[.int .i64 hx, .int .i64 hy, .int .i64 hz] 31) = y0 := ⟨_, rfl⟩
  rw [hy0] at hR HUx ⊢
  clear hy0
  have HU0 := Lib.hid HUx
  clear HUx
  obtain ⟨hr0_0, hr0_1⟩ := hR
  have c0_0 := cell_of_row _ _ 0 _ _ _ hr0_0
  have c0_1 := cell_of_row _ _ 1 _ _ _ hr0_0
  have c0_2 := cell_of_row _ _ 2 _ _ _ hr0_0
  have c0_3 := cell_of_row _ _ 3 _ _ _ hr0_0
  have c0_4 := cell_of_row _ _ 4 _ _ _ hr0_0
  have c0_5 := cell_of_row _ _ 5 _ _ _ hr0_0
  have c0_6 := cell_of_row _ _ 6 _ _ _ hr0_0
  have c0_7 := cell_of_row _ _ 7 _ _ _ hr0_0
  simp at c0_0 c0_1 c0_2 c0_3 c0_4 c0_5 c0_6 c0_7
  go_wp2_with fail
  refine (light20_1 (⟨W, H, nl, nd, nn, nb, ns, nf, L0, D, N, B, S, F⟩ : Flm) (⟨al, cl, ad, cd, an, cn, ab, cb, ax, cx, af, cf⟩ : Pl) W H al nl cl L0 _ k0 k1).mono ?_
  rintro e y1 ⟨rfl, hb1⟩
  clear c0_0 c0_1 c0_2 c0_3 c0_4 c0_5 c0_6 c0_7
  have hr1_0 := (hb1.block _ (lt_heap hr0_0)).trans hr0_0
  have hr1_1 := (hb1.block _ (lt_heap hr0_1)).trans hr0_1
  have HU1 := Lib.hid (HU0.out.trans (hb1.mono HU0.out.size))
  clear hr0_0 hr0_1 HU0
  go_wp2_with fail
  refine (lawake_any _ (HN_.out.on HU1.out)).mono ?_
  rintro e y2 ⟨rfl, hb2⟩
  have HU2 := Lib.hid (HU1.out.trans (hb2.mono HU1.out.size))
  go_wp2_with fail
  go_ret
  exact ⟨rfl, HU2.out⟩

set_option maxHeartbeats 16000000 in
set_option maxRecDepth 100000 in
theorem no_right (W H : Int) (al ad an ab ax af : Option Addr) (cl cd cn cb cx cf nl nd nn nb ns nf : Nat) (L0 D N B S F : Nat → Int) (hx hy hz : Int) (w : World) (hc : Came w (⟨W, H, nl, nd, nn, nb, ns, nf, L0, D, N, B, S, F⟩ : Flm) (⟨al, cl, ad, cd, an, cn, ab, cb, ax, cx, af, cf⟩ : Pl)) (hcn : Cnt w) (k0 : nl ≤ 100) (k1 : ns ≤ 100) (hk : ¬ okF (⟨W, H, nl, nd, nn, nb, ns, nf, L0, D, N, B, S, F⟩ : Flm)) : Calls Tryd.prog 3 #[.agg #[.int .i64 W, .int .i64 H, .slice al nl cl, .slice ad nd cd, .slice an nn cn, .slice ab nb cb, .slice ax ns cx, .slice af nf cf], .agg #[.int .i64 hx, .int .i64 hy, .int .i64 hz]] w fun e' w' => e' = .returned (.bool true) ∧ Below w.heap.size w w' := by
  have hd : decide (okF (⟨W, H, nl, nd, nn, nb, ns, nf, L0, D, N, B, S, F⟩ : Flm)) = false := decide_eq_false hk
  have HC := Lib.hid hc
  have HN_ := Lib.hid hcn
  clear hc hcn
  go_enter Tryd.func3, Tryd.ntmps3
  go_upto_region 1 with fail
  have hR := Au.rows2 w (.cells #[.int .i64 W, .int .i64 H, .slice al nl cl, .slice ad nd cd, .slice an nn cn, .slice ab nb cb, .slice ax ns cx, .slice af nf cf] 29) (.cells #[.int .i64 hx, .int .i64 hy, .int .i64 hz] 31)
  have HUx := Ve.below_n2 w (.cells #[.int .i64 W, .int .i64 H, .slice al nl cl, .slice ad nd cd, .slice an nn cn, .slice ab nb cb, .slice ax ns cx, .slice af nf cf] 29) (.cells #[.int .i64 hx, .int .i64 hy, .int .i64 hz] 31)
  obtain ⟨y0, hy0⟩ : ∃ y0, (w.alloc (.cells #[.int .i64 W, .int .i64 H, .slice al nl cl, .slice ad nd cd, .slice an nn cn, .slice ab nb cb, .slice ax ns cx, .slice af nf cf] 29)).alloc (.cells #[.int .i64 hx, .int .i64 hy, .int .i64 hz] 31) = y0 := ⟨_, rfl⟩
  rw [hy0] at hR HUx ⊢
  clear hy0
  have HU0 := Lib.hid HUx
  clear HUx
  obtain ⟨hr0_0, hr0_1⟩ := hR
  have c0_0 := cell_of_row _ _ 0 _ _ _ hr0_0
  have c0_1 := cell_of_row _ _ 1 _ _ _ hr0_0
  have c0_2 := cell_of_row _ _ 2 _ _ _ hr0_0
  have c0_3 := cell_of_row _ _ 3 _ _ _ hr0_0
  have c0_4 := cell_of_row _ _ 4 _ _ _ hr0_0
  have c0_5 := cell_of_row _ _ 5 _ _ _ hr0_0
  have c0_6 := cell_of_row _ _ 6 _ _ _ hr0_0
  have c0_7 := cell_of_row _ _ 7 _ _ _ hr0_0
  simp at c0_0 c0_1 c0_2 c0_3 c0_4 c0_5 c0_6 c0_7
  go_wp2_with fail
  refine (light20_3 (⟨W, H, nl, nd, nn, nb, ns, nf, L0, D, N, B, S, F⟩ : Flm) (⟨al, cl, ad, cd, an, cn, ab, cb, ax, cx, af, cf⟩ : Pl) W H al nl cl L0 _ k0 k1 k0).mono ?_
  rintro e y1 ⟨rfl, hb1⟩
  clear c0_0 c0_1 c0_2 c0_3 c0_4 c0_5 c0_6 c0_7
  have hr1_0 := (hb1.block _ (lt_heap hr0_0)).trans hr0_0
  have hr1_1 := (hb1.block _ (lt_heap hr0_1)).trans hr0_1
  have HU1 := Lib.hid (HU0.out.trans (hb1.mono HU0.out.size))
  clear hr0_0 hr0_1 HU0
  have c1_0 := cell_of_row _ _ 0 _ _ _ hr1_0
  have c1_1 := cell_of_row _ _ 1 _ _ _ hr1_0
  have c1_2 := cell_of_row _ _ 2 _ _ _ hr1_0
  have c1_3 := cell_of_row _ _ 3 _ _ _ hr1_0
  have c1_4 := cell_of_row _ _ 4 _ _ _ hr1_0
  have c1_5 := cell_of_row _ _ 5 _ _ _ hr1_0
  have c1_6 := cell_of_row _ _ 6 _ _ _ hr1_0
  have c1_7 := cell_of_row _ _ 7 _ _ _ hr1_0
  simp at c1_0 c1_1 c1_2 c1_3 c1_4 c1_5 c1_6 c1_7
  go_wp2_with fail
  refine (dright_any (⟨W, H, nl, nd, nn, nb, ns, nf, L0, D, N, B, S, F⟩ : Flm) (⟨al, cl, ad, cd, an, cn, ab, cb, ax, cx, af, cf⟩ : Pl) _ (HC.out.at_.on HU1.out)).mono ?_
  rintro e y2 ⟨rfl, hb2⟩
  clear c1_0 c1_1 c1_2 c1_3 c1_4 c1_5 c1_6 c1_7
  have hr2_0 := (hb2.block _ (lt_heap hr1_0)).trans hr1_0
  have hr2_1 := (hb2.block _ (lt_heap hr1_1)).trans hr1_1
  have HU2 := Lib.hid (HU1.out.trans (hb2.mono HU1.out.size))
  clear hr1_0 hr1_1 HU1
  rw [hd]
  go_wp2_with fail
  refine (lawake_any _ (HN_.out.on HU2.out)).mono ?_
  rintro e y3 ⟨rfl, hb3⟩
  have HU3 := Lib.hid (HU2.out.trans (hb3.mono HU2.out.size))
  go_wp2_with fail
  go_ret
  exact ⟨rfl, HU3.out⟩

set_option maxHeartbeats 16000000 in
set_option maxRecDepth 100000 in
theorem main_ (W H : Int) (al ad an ab ax af : Option Addr) (cl cd cn cb cx cf nl nd nn nb ns nf : Nat) (L0 D N B S F : Nat → Int) (hx hy hz : Int) (w : World) (hc : Came w (⟨W, H, nl, nd, nn, nb, ns, nf, L0, D, N, B, S, F⟩ : Flm) (⟨al, cl, ad, cd, an, cn, ab, cb, ax, cx, af, cf⟩ : Pl)) (hcn : Cnt w) (k0 : nl ≤ 100) (k1 : ns ≤ 100) (hk : okF (⟨W, H, nl, nd, nn, nb, ns, nf, L0, D, N, B, S, F⟩ : Flm)) : Calls Tryd.prog 3 #[.agg #[.int .i64 W, .int .i64 H, .slice al nl cl, .slice ad nd cd, .slice an nn cn, .slice ab nb cb, .slice ax ns cx, .slice af nf cf], .agg #[.int .i64 hx, .int .i64 hy, .int .i64 hz]] w fun e' w' => e' = .returned (.bool true) ∧ Below w.heap.size w w' := by
  have hd : decide (okF (⟨W, H, nl, nd, nn, nb, ns, nf, L0, D, N, B, S, F⟩ : Flm)) = true := decide_eq_true hk
  have HC := Lib.hid hc
  have HN_ := Lib.hid hcn
  clear hc hcn
  go_enter Tryd.func3, Tryd.ntmps3
  go_upto_region 1 with fail
  have hR := Au.rows2 w (.cells #[.int .i64 W, .int .i64 H, .slice al nl cl, .slice ad nd cd, .slice an nn cn, .slice ab nb cb, .slice ax ns cx, .slice af nf cf] 29) (.cells #[.int .i64 hx, .int .i64 hy, .int .i64 hz] 31)
  have HUx := Ve.below_n2 w (.cells #[.int .i64 W, .int .i64 H, .slice al nl cl, .slice ad nd cd, .slice an nn cn, .slice ab nb cb, .slice ax ns cx, .slice af nf cf] 29) (.cells #[.int .i64 hx, .int .i64 hy, .int .i64 hz] 31)
  obtain ⟨y0, hy0⟩ : ∃ y0, (w.alloc (.cells #[.int .i64 W, .int .i64 H, .slice al nl cl, .slice ad nd cd, .slice an nn cn, .slice ab nb cb, .slice ax ns cx, .slice af nf cf] 29)).alloc (.cells #[.int .i64 hx, .int .i64 hy, .int .i64 hz] 31) = y0 := ⟨_, rfl⟩
  rw [hy0] at hR HUx ⊢
  clear hy0
  have HU0 := Lib.hid HUx
  clear HUx
  obtain ⟨hr0_0, hr0_1⟩ := hR
  have c0_0 := cell_of_row _ _ 0 _ _ _ hr0_0
  have c0_1 := cell_of_row _ _ 1 _ _ _ hr0_0
  have c0_2 := cell_of_row _ _ 2 _ _ _ hr0_0
  have c0_3 := cell_of_row _ _ 3 _ _ _ hr0_0
  have c0_4 := cell_of_row _ _ 4 _ _ _ hr0_0
  have c0_5 := cell_of_row _ _ 5 _ _ _ hr0_0
  have c0_6 := cell_of_row _ _ 6 _ _ _ hr0_0
  have c0_7 := cell_of_row _ _ 7 _ _ _ hr0_0
  simp at c0_0 c0_1 c0_2 c0_3 c0_4 c0_5 c0_6 c0_7
  go_wp2_with fail
  refine (light20_3 (⟨W, H, nl, nd, nn, nb, ns, nf, L0, D, N, B, S, F⟩ : Flm) (⟨al, cl, ad, cd, an, cn, ab, cb, ax, cx, af, cf⟩ : Pl) W H al nl cl L0 _ k0 k1 k0).mono ?_
  rintro e y1 ⟨rfl, hb1⟩
  clear c0_0 c0_1 c0_2 c0_3 c0_4 c0_5 c0_6 c0_7
  have hr1_0 := (hb1.block _ (lt_heap hr0_0)).trans hr0_0
  have hr1_1 := (hb1.block _ (lt_heap hr0_1)).trans hr0_1
  have HU1 := Lib.hid (HU0.out.trans (hb1.mono HU0.out.size))
  clear hr0_0 hr0_1 HU0
  have c1_0 := cell_of_row _ _ 0 _ _ _ hr1_0
  have c1_1 := cell_of_row _ _ 1 _ _ _ hr1_0
  have c1_2 := cell_of_row _ _ 2 _ _ _ hr1_0
  have c1_3 := cell_of_row _ _ 3 _ _ _ hr1_0
  have c1_4 := cell_of_row _ _ 4 _ _ _ hr1_0
  have c1_5 := cell_of_row _ _ 5 _ _ _ hr1_0
  have c1_6 := cell_of_row _ _ 6 _ _ _ hr1_0
  have c1_7 := cell_of_row _ _ 7 _ _ _ hr1_0
  simp at c1_0 c1_1 c1_2 c1_3 c1_4 c1_5 c1_6 c1_7
  go_wp2_with fail
  refine (dright_any (⟨W, H, nl, nd, nn, nb, ns, nf, L0, D, N, B, S, F⟩ : Flm) (⟨al, cl, ad, cd, an, cn, ab, cb, ax, cx, af, cf⟩ : Pl) _ (HC.out.at_.on HU1.out)).mono ?_
  rintro e y2 ⟨rfl, hb2⟩
  clear c1_0 c1_1 c1_2 c1_3 c1_4 c1_5 c1_6 c1_7
  have hr2_0 := (hb2.block _ (lt_heap hr1_0)).trans hr1_0
  have hr2_1 := (hb2.block _ (lt_heap hr1_1)).trans hr1_1
  have HU2 := Lib.hid (HU1.out.trans (hb2.mono HU1.out.size))
  clear hr1_0 hr1_1 HU1
  rw [hd]
  have HOK := Lib.hid hk
  clear hd hk
  have hnl1 : 1 ≤ nl := by have h1 := okSz_mul HOK.out.1.1; have h2 := HOK.out.1.2; simp only [] at h1 h2; omega
  go_wp2_with fail
  go_loopw [25] (fun i wr => ∃ k : Nat, k ≤ 3 ∧ i = .int .i64 k ∧ wr = y2 ∧ (0 < k → 0 ≤ hx ∧ hx ≤ 1048576) ∧ (1 < k → 0 ≤ hy ∧ hy ≤ 1048576) ∧ (2 < k → 0 ≤ hz ∧ hz ≤ 1048576)) (fun i _ => 3 - (intOf i).toNat)
  case atStart => exact ⟨0, by omega, rfl, rfl, fun h => by omega, fun h => by omega, fun h => by omega⟩
  case round =>
    obtain ⟨k, hk3, rfl, hwy, g0, g1, g2⟩ := hrel
    have hwz := hwy.symm
    subst hwz
    clear hwy
    have d0 := cell_of_row _ _ 0 _ _ _ hr2_1
    have d1 := cell_of_row _ _ 1 _ _ _ hr2_1
    have d2 := cell_of_row _ _ 2 _ _ _ hr2_1
    simp at d0 d1 d2
    rcases (show k = 0 ∨ k = 1 ∨ k = 2 ∨ k = 3 by omega) with rfl | rfl | rfl | rfl
    · by_cases e0 : hx < 0
      · go_wp2_with fail
        refine (lawake_any _ (HN_.out.on HU2.out)).mono ?_
        rintro e y3 ⟨rfl, hb3⟩
        have HU3 := Lib.hid (HU2.out.trans (hb3.mono HU2.out.size))
        go_wp2_with fail
        go_ret
        exact ⟨rfl, HU3.out⟩
      · by_cases e1 : 1048576 < hx
        · go_wp2_with fail
          refine (lawake_any _ (HN_.out.on HU2.out)).mono ?_
          rintro e y3 ⟨rfl, hb3⟩
          have HU3 := Lib.hid (HU2.out.trans (hb3.mono HU2.out.size))
          go_wp2_with fail
          go_ret
          exact ⟨rfl, HU3.out⟩
        · go_wp2_with fail
          go_roundw
          case rel => exact ⟨1, by omega, by go_num, by first | trivial | rfl, fun _ => ⟨by omega, by omega⟩, fun h => by omega, fun h => by omega⟩
          case measure => simp [intOf]
    · by_cases e0 : hy < 0
      · go_wp2_with fail
        refine (lawake_any _ (HN_.out.on HU2.out)).mono ?_
        rintro e y3 ⟨rfl, hb3⟩
        have HU3 := Lib.hid (HU2.out.trans (hb3.mono HU2.out.size))
        go_wp2_with fail
        go_ret
        exact ⟨rfl, HU3.out⟩
      · by_cases e1 : 1048576 < hy
        · go_wp2_with fail
          refine (lawake_any _ (HN_.out.on HU2.out)).mono ?_
          rintro e y3 ⟨rfl, hb3⟩
          have HU3 := Lib.hid (HU2.out.trans (hb3.mono HU2.out.size))
          go_wp2_with fail
          go_ret
          exact ⟨rfl, HU3.out⟩
        · go_wp2_with fail
          go_roundw
          case rel => exact ⟨2, by omega, by go_num, by first | trivial | rfl, fun _ => g0 (by omega), fun h => ⟨by omega, by omega⟩, fun h => by omega⟩
          case measure => simp [intOf]
    · by_cases e0 : hz < 0
      · go_wp2_with fail
        refine (lawake_any _ (HN_.out.on HU2.out)).mono ?_
        rintro e y3 ⟨rfl, hb3⟩
        have HU3 := Lib.hid (HU2.out.trans (hb3.mono HU2.out.size))
        go_wp2_with fail
        go_ret
        exact ⟨rfl, HU3.out⟩
      · by_cases e1 : 1048576 < hz
        · go_wp2_with fail
          refine (lawake_any _ (HN_.out.on HU2.out)).mono ?_
          rintro e y3 ⟨rfl, hb3⟩
          have HU3 := Lib.hid (HU2.out.trans (hb3.mono HU2.out.size))
          go_wp2_with fail
          go_ret
          exact ⟨rfl, HU3.out⟩
        · go_wp2_with fail
          go_roundw
          case rel => exact ⟨3, by omega, by go_num, by first | trivial | rfl, fun _ => g0 (by omega), fun h => g1 (by omega), fun h => ⟨by omega, by omega⟩⟩
          case measure => simp [intOf]
    · have h0 := g0 (by omega)
      have h1 := g1 (by omega)
      have h2 := g2 (by omega)
      clear g0 g1 g2 d0 d1 d2
      have c2_0 := cell_of_row _ _ 0 _ _ _ hr2_0
      have c2_1 := cell_of_row _ _ 1 _ _ _ hr2_0
      have c2_2 := cell_of_row _ _ 2 _ _ _ hr2_0
      have c2_3 := cell_of_row _ _ 3 _ _ _ hr2_0
      have c2_4 := cell_of_row _ _ 4 _ _ _ hr2_0
      have c2_5 := cell_of_row _ _ 5 _ _ _ hr2_0
      have c2_6 := cell_of_row _ _ 6 _ _ _ hr2_0
      have c2_7 := cell_of_row _ _ 7 _ _ _ hr2_0
      simp at c2_0 c2_1 c2_2 c2_3 c2_4 c2_5 c2_6 c2_7
      go_wp2_with fail
      refine (to_film_t (⟨W, H, nl, nd, nn, nb, ns, nf, L0, D, N, B, S, F⟩ : Flm) (⟨al, cl, ad, cd, an, cn, ab, cb, ax, cx, af, cf⟩ : Pl) _ (HC.out.at_.on HU2.out) HC.out.bl HC.out.bd HC.out.bn HC.out.bb HC.out.bs HC.out.bf HC.out.ks HC.out.kf).mono ?_
      rintro e y3 ⟨⟨⟨al3, cl3, ad3, cd3, an3, cn3, ab3, cb3, ax3, cx3, af3, cf3⟩, rfl, hft⟩, hb3⟩
      have hl3 : RwPT 47 (fun b => y2.heap.size ≤ b) 3 y3 al3 nl L0 := hft.l
      rcases hl3 with h | ⟨b, off, hal, hPb, hcl, cs0, hbl⟩
      · omega
      subst hal
      have hsz0 : off + nl * 3 ≤ cs0.size := by have h := cells_lt hbl (hcl (nl * 3 - 1) (by omega)); omega
      have hbq : b < y3.heap.size := lt_heap hbl
      have hl2 := lt_heap hr2_1
      have HFT := Lib.hid hft
      have HBL := Lib.hid hbl
      clear hft hcl c2_0 c2_1 c2_2 c2_3 c2_4 c2_5 c2_6 c2_7
      have hr3_0 := (hb3.block _ (lt_heap hr2_0)).trans hr2_0
      have hr3_1 := (hb3.block _ (lt_heap hr2_1)).trans hr2_1
      have HU3 := Lib.hid (HU2.out.trans (hb3.mono HU2.out.size))
      clear hr2_0 hr2_1 HU2
      go_wp2_with fail
      have hN := heap_alloc_last y3 (.cells #[.int .i64 W, .int .i64 H, .slice (some ⟨b, off, none⟩) nl cl3, .slice ad3 nd cd3, .slice an3 nn cn3, .slice ab3 nb cb3, .slice ax3 ns cx3, .slice af3 nf cf3] 43)
      have hAw : Aw (fun z => z < y3.heap.size ∧ z ≠ b) y3 (y3.alloc (.cells #[.int .i64 W, .int .i64 H, .slice (some ⟨b, off, none⟩) nl cl3, .slice ad3 nd cd3, .slice an3 nn cn3, .slice ab3 nb cb3, .slice ax3 ns cx3, .slice af3 nf cf3] 43)) := (Aw.refl _ _).alloc _
      have hbl3 : (y3.alloc (.cells #[.int .i64 W, .int .i64 H, .slice (some ⟨b, off, none⟩) nl cl3, .slice ad3 nd cd3, .slice an3 nn cn3, .slice ab3 nb cb3, .slice ax3 ns cx3, .slice af3 nf cf3] 43)).heap[b]? = some (.cells cs0 47 (0, 0)) := ((Ve.below_n1 y3 _).block _ hbq).trans hbl
      obtain ⟨yq, hyq⟩ : ∃ y, y3.alloc (.cells #[.int .i64 W, .int .i64 H, .slice (some ⟨b, off, none⟩) nl cl3, .slice ad3 nd cd3, .slice an3 nn cn3, .slice ab3 nb cb3, .slice ax3 ns cx3, .slice af3 nf cf3] 43) = y := ⟨_, rfl⟩
      rw [hyq] at hN hAw hbl3 ⊢
      clear hyq hbl
      obtain ⟨q, hq⟩ : ∃ q, q = y3.heap.size := ⟨_, rfl⟩
      rw [← hq] at hN ⊢
      have hqb : b < q := by omega
      have HQ := Lib.hid hq
      clear hq
      have HN3 := Lib.hid hN
      have HAW := Lib.hid hAw
      have HL3 := Lib.hid hbl3
      have HR3 := Lib.hid hr3_1
      have hl3 := lt_heap hr3_1
      have hne3 : w.heap.size + 1 ≠ b := by omega
      clear hN hAw hbl3 hr3_1 hr3_0
      go_loopw [46] (fun i wr => ∃ (k : Nat) (cs : Array Value), k ≤ nl ∧ i = .int .i64 k ∧ Hid (wr.heap[b]? = some (.cells cs 47 (0, 0))) ∧ Hid (Painted cs0 cs off k hx hy hz) ∧ Hid (wr.heap[q]? = some (.cells #[.int .i64 W, .int .i64 H, .slice (some ⟨b, off, none⟩) nl cl3, .slice ad3 nd cd3, .slice an3 nn cn3, .slice ab3 nb cb3, .slice ax3 ns cx3, .slice af3 nf cf3] 43 (0, 0))) ∧ Hid (Aw (fun z => z < y3.heap.size ∧ z ≠ b) y3 wr)) (fun i _ => nl - (intOf i).toNat)
      case atStart => exact ⟨0, cs0, by omega, rfl, HL3, Lib.hid (painted_0 _ _ _ _ _), HN3, HAW⟩
      case round =>
        obtain ⟨k, cs, hk, rfl, HLW, HPW, HQW, HAWW⟩ := hrel
        have hl13 := HLW.out
        have hq13 := HQW.out
        have hh13 : wr.heap[w.heap.size + 1]? = some (.cells #[.int .i64 hx, .int .i64 hy, .int .i64 hz] 31 (0, 0)) := (HAWW.out.block _ ⟨hl3, hne3⟩ hl3).trans HR3.out
        by_cases hlt : k < nl
        · have hlt' : (k : Int) < nl := by omega
          have hcs : off + k * 3 + 2 < cs.size := by have h := HPW.out.1; omega
          go_wp2_with fail
          refine wp_region_held_drew (S := fun y => y.heap[q]? = some (.cells #[.int .i64 W, .int .i64 H, .slice (some ⟨b, off, none⟩) nl cl3, .slice ad3 nd cd3, .slice an3 nn cn3, .slice ab3 nb cb3, .slice ax3 ns cx3, .slice af3 nf cf3] 43 (0, 0)) ∧ y.heap[w.heap.size + 1]? = some (.cells #[.int .i64 hx, .int .i64 hy, .int .i64 hz] 31 (0, 0))) (by kernel_rfl) (⟨hq13, hh13⟩) (fun hS0 => ?_)
          refine wpAnyH_take (i := 0) (v := ?_) rfl (by kernel_rfl) (by kernel_rfl) (by kernel_rfl) (fun _ _ _ h => h) (Or.inl ⟨by kernel_rfl, by (intro wz hSz; go_simp; try with_reducible rfl)⟩) hS0 ?_
          go_simp
          refine wpAnyH_take (i := 1) (v := ?_) rfl (by kernel_rfl) (by kernel_rfl) (by kernel_rfl) (fun _ _ _ h => h) (Or.inl ⟨by kernel_rfl, by (intro wz hSz; go_simp; try with_reducible rfl)⟩) hS0 ?_
          go_simp
          refine wpAnyH_take (i := 2) (v := ?_) rfl (by kernel_rfl) (by kernel_rfl) (by kernel_rfl) (fun _ _ _ h => h) (Or.inl ⟨by kernel_rfl, by (intro wz hSz; have c2 := cell_of_row _ _ 2 _ _ _ hSz.1; have d0 := cell_of_row _ _ 0 _ _ _ hSz.2; have d1 := cell_of_row _ _ 1 _ _ _ hSz.2; have d2 := cell_of_row _ _ 2 _ _ _ hSz.2; simp at c2 d0 d1 d2; go_simp; try with_reducible rfl)⟩) hS0 ?_
          go_simp
          refine wpAnyH_take (i := 3) (v := ?_) rfl (by kernel_rfl) (by kernel_rfl) (by kernel_rfl) (fun _ _ _ h => h) (Or.inl ⟨by kernel_rfl, by (intro wz hSz; go_simp; try with_reducible rfl)⟩) hS0 ?_
          go_simp
          refine wpAnyH_take (i := 4) (v := ?_) rfl (by kernel_rfl) (by kernel_rfl) (by kernel_rfl) (fun _ _ _ h => h) (Or.inl ⟨by kernel_rfl, by (intro wz hSz; have c2 := cell_of_row _ _ 2 _ _ _ hSz.1; have d0 := cell_of_row _ _ 0 _ _ _ hSz.2; have d1 := cell_of_row _ _ 1 _ _ _ hSz.2; have d2 := cell_of_row _ _ 2 _ _ _ hSz.2; simp at c2 d0 d1 d2; go_simp; try with_reducible rfl)⟩) hS0 ?_
          go_simp
          refine wpAnyH_ready (rs := [5]) (by kernel_rfl) (by simp) ?_
          refine AllReadyH.cons rfl (fun K hK => ?_) AllReadyH.nil
          go_simp
          go_wp2_with (go_at_call 15; refine (He.hto_any hx hy hz _).mono ?_; rintro e z2 ⟨rfl, hbz⟩)
          refine hK.out _ _ (⟨(hbz.block _ (lt_heap hS0.1)).trans hS0.1, (hbz.block _ (lt_heap hS0.2)).trans hS0.2⟩) (fun hSt => ?_)
          clear hK K
          refine wpAnyH_take (i := 6) (v := ?_) rfl (by kernel_rfl) (by kernel_rfl) (by kernel_rfl) (fun _ _ _ h => h) (Or.inl ⟨by kernel_rfl, by (intro wz hSz; go_simp; try with_reducible rfl)⟩) hSt ?_
          go_simp
          refine wpAnyH_ready (rs := [7]) (by kernel_rfl) (by simp) ?_
          refine AllReadyH.cons rfl (fun K hK => ?_) AllReadyH.nil
          have hcb : z2.heap[b]? = some (.cells cs 47 (0, 0)) := (hbz.block _ (lt_heap hl13)).trans hl13
          obtain ⟨v0, hv0⟩ := cells_some (m := off + k * 3) hcb (by omega)
          obtain ⟨v1, hv1⟩ := cells_some (m := off + k * 3 + 1) hcb (by omega)
          obtain ⟨v2, hv2⟩ := cells_some (m := off + k * 3 + 2) hcb (by omega)
          have hf0 : z2.frozen? ⟨b, off + k * 3, none⟩ = false := by simp [World.frozen?, hcb]
          have hf1 : z2.frozen? ⟨b, off + k * 3 + 1, none⟩ = false := by simp [World.frozen?, hcb]
          have hf2 : z2.frozen? ⟨b, off + k * 3 + 2, none⟩ = false := by simp [World.frozen?, hcb]
          go_simp
          have hu0 := painted_heap z2 b (off + k * 3) cs 47 hx hy hz hcb
          have hA0 : Aw (fun z => z ≠ b) z2 (((z2.setCell ⟨b, off + k * 3, none⟩ (.int .i64 hx)).setCell ⟨b, off + k * 3 + 1, none⟩ (.int .i64 hy)).setCell ⟨b, off + k * 3 + 2, none⟩ (.int .i64 hz)) := (((Aw.refl _ _).set (fun h => h rfl) _ _).set (fun h => h rfl) _ _).set (fun h => h rfl) _ _
          obtain ⟨z3, hz3⟩ : ∃ z, (((z2.setCell ⟨b, off + k * 3, none⟩ (.int .i64 hx)).setCell ⟨b, off + k * 3 + 1, none⟩ (.int .i64 hy)).setCell ⟨b, off + k * 3 + 2, none⟩ (.int .i64 hz)) = z := ⟨_, rfl⟩
          rw [hz3] at hu0 hA0 ⊢
          clear hz3 hv0 hv1 hv2 hf0 hf1 hf2
          have hqu : z3.heap[q]? = some (.cells #[.int .i64 W, .int .i64 H, .slice (some ⟨b, off, none⟩) nl cl3, .slice ad3 nd cd3, .slice an3 nn cn3, .slice ab3 nb cb3, .slice ax3 ns cx3, .slice af3 nf cf3] 43 (0, 0)) := (hA0.block _ (by omega) (lt_heap hSt.1)).trans hSt.1
          have hhu : z3.heap[w.heap.size + 1]? = some (.cells #[.int .i64 hx, .int .i64 hy, .int .i64 hz] 31 (0, 0)) := (hA0.block _ hne3 (lt_heap hSt.2)).trans hSt.2
          have HLn := Lib.hid hu0
          have HQn := Lib.hid hqu
          have HAn := Lib.hid (show Aw (fun z => z < y3.heap.size ∧ z ≠ b) y3 z3 from (HAWW.out.trans (Aw.of ((Below.refl _ _).drew.trans hbz))).trans (hA0.weak (fun z h => h.2)))
          refine hK.out _ _ (⟨hqu, hhu⟩) (fun hSu => ?_)
          clear hK K
          refine wpAnyH_done (by kernel_rfl) ?_ _
          clear hSu
          have HPn := Lib.hid (painted_step HPW.out (by have h := HPW.out.1; omega))
          go_wp2_with fail
          go_roundw
          case rel => exact ⟨k + 1, _, by omega, by go_num, HLn, HPn, HQn, HAn⟩
          case measure => simp [intOf]; omega
        · have hge : ¬ (k : Int) < nl := by omega
          have hkq : nl = k := by omega
          subst hkq
          have HUW := Lib.hid (HU3.out.trans (HAWW.out.below (B := w.heap.size) (fun z hz => ⟨by omega, by omega⟩) HU3.out.size))
          obtain ⟨B', hfat⟩ := fat_painted HFT.out rfl HBL.out HLW.out HPW.out HAWW.out
          have hrl := hfat.l
          have hfit : fitP (⟨W, H, nl, nd, nn, nb, ns, nf, (fun j => hv3 hx hy hz (j % 3)), D, N, B', S, F⟩ : Flm) W H nl := ⟨HOK.out, HOK.out.1, rfl, rfl⟩
          have HFIT := Lib.hid hfit
          have hsm := smooth_all (⟨W, H, nl, nd, nn, nb, ns, nf, (fun j => hv3 hx hy hz (j % 3)), D, N, B', S, F⟩ : Flm) (⟨some ⟨b, off, none⟩, cl3, ad3, cd3, an3, cn3, ab3, cb3, ax3, cx3, af3, cf3⟩ : Pl) W H (some ⟨b, off, none⟩) nl cl3 _ wr hfat hrl (HN_.out.on HUW.out)
          have HSM := Lib.hid hsm
          clear hsm hfat hrl hfit
          have cq_0 := cell_of_row _ _ 0 _ _ _ hq13
          have cq_1 := cell_of_row _ _ 1 _ _ _ hq13
          have cq_2 := cell_of_row _ _ 2 _ _ _ hq13
          have cq_3 := cell_of_row _ _ 3 _ _ _ hq13
          have cq_4 := cell_of_row _ _ 4 _ _ _ hq13
          have cq_5 := cell_of_row _ _ 5 _ _ _ hq13
          have cq_6 := cell_of_row _ _ 6 _ _ _ hq13
          have cq_7 := cell_of_row _ _ 7 _ _ _ hq13
          simp at cq_0 cq_1 cq_2 cq_3 cq_4 cq_5 cq_6 cq_7
          go_wp2_with fail
          refine HSM.out.mono ?_
          rintro e y5 ⟨⟨a5, c5, rfl, hrw⟩, hb5⟩
          rw [if_pos HFIT.out, if_pos HFIT.out, if_pos HFIT.out, if_pos HFIT.out]
          rw [if_pos HFIT.out] at hrw
          obtain ⟨Wn, Hn, hWn, hHn, hkn⟩ := fit_sizes HFIT.out
          have hbx := lvs_bd (⟨W, H, nl, nd, nn, nb, ns, nf, (fun j => hv3 hx hy hz (j % 3)), D, N, B', S, F⟩ : Flm) (fun j => hv3 hx hy hz (j % 3)) W.toNat H.toNat (c := 0) (hi := hx) (by decide) h0.1 h0.2 (fun m _ => by unfold hv3; rw [if_pos (by omega)]) 5 (by decide)
          have hby := lvs_bd (⟨W, H, nl, nd, nn, nb, ns, nf, (fun j => hv3 hx hy hz (j % 3)), D, N, B', S, F⟩ : Flm) (fun j => hv3 hx hy hz (j % 3)) W.toNat H.toNat (c := 1) (hi := hy) (by decide) h1.1 h1.2 (fun m _ => by unfold hv3; rw [if_neg (by omega), if_pos (by omega)]) 5 (by decide)
          have hbz := lvs_bd (⟨W, H, nl, nd, nn, nb, ns, nf, (fun j => hv3 hx hy hz (j % 3)), D, N, B', S, F⟩ : Flm) (fun j => hv3 hx hy hz (j % 3)) W.toNat H.toNat (c := 2) (hi := hz) (by decide) h2.1 h2.2 (fun m _ => by unfold hv3; rw [if_neg (by omega), if_neg (by omega)]) 5 (by decide)
          have hWH : W.toNat * H.toNat = nl := by rw [hWn, hHn, hkn]; rfl
          obtain ⟨LB, hLB⟩ : ∃ LB, LB = lvs (⟨W, H, nl, nd, nn, nb, ns, nf, (fun j => hv3 hx hy hz (j % 3)), D, N, B', S, F⟩ : Flm) W.toNat H.toNat (fun j => hv3 hx hy hz (j % 3)) 5 := ⟨_, rfl⟩
          have HRW := Lib.hid (show RwP (fun b => wr.heap.size ≤ b) 3 y5 a5 nl LB by rw [hLB]; exact hrw)
          have HBD := Lib.hid (show ∀ m, m < nl → (hx - 5 ≤ LB (m * 3) ∧ LB (m * 3) ≤ hx) ∧ (hy - 5 ≤ LB (m * 3 + 1) ∧ LB (m * 3 + 1) ≤ hy) ∧ (hz - 5 ≤ LB (m * 3 + 2) ∧ LB (m * 3 + 2) ≤ hz) from fun m hm => by
            rw [← hWH] at hm
            rw [hLB]
            exact ⟨hbx m hm, hby m hm, hbz m hm⟩)
          clear hrw hbx hby hbz hLB hWn hHn hkn hWH HSM cq_0 cq_1 cq_2 cq_3 cq_4 cq_5 cq_6 cq_7
          have HU5 := Lib.hid (HUW.out.trans (hb5.mono HUW.out.size))
          have hh5 := (hb5.block _ (lt_heap hh13)).trans hh13
          clear hl13 hq13 hh13 HLW HPW HQW HAWW HBL HL3 HN3 HAW HFT
          go_wp2_with fail
          have hN := heap_alloc_last y5 (.cells #[.int .i64 W, .int .i64 H, .slice a5 nl c5] 39)
          have hb6 := Ve.below_n1 y5 (.cells #[.int .i64 W, .int .i64 H, .slice a5 nl c5] 39)
          obtain ⟨y6, hy6⟩ : ∃ y, y5.alloc (.cells #[.int .i64 W, .int .i64 H, .slice a5 nl c5] 39) = y := ⟨_, rfl⟩
          rw [hy6] at hN hb6 ⊢
          clear hy6
          have HR6 := Lib.hid (Rw.on (HRW.out.rw (by decide)) hb6)
          have HH6 := Lib.hid ((hb6.block _ (lt_heap hh5)).trans hh5)
          have HU6 := Lib.hid (HU5.out.trans (hb6.mono HU5.out.size))
          clear hN hh5 hb6 HRW HU5
          go_loopw [69] (fun i wr => ∃ m : Nat, m ≤ nl ∧ i = .int .i64 m ∧ Hid (Rw 3 wr a5 nl LB) ∧ Hid (wr.heap[w.heap.size + 1]? = some (.cells #[.int .i64 hx, .int .i64 hy, .int .i64 hz] 31 (0, 0))) ∧ Hid (Below w.heap.size w wr)) (fun i _ => nl - (intOf i).toNat)
          case atStart => exact ⟨0, by omega, rfl, HR6, HH6, HU6⟩
          case round =>
            obtain ⟨m, hm, rfl, HR7, HH7, HU7⟩ := hrel
            have hsz7 := HU7.out.size
            by_cases hlt : m < nl
            · have hlt' : (m : Int) < nl := by omega
              obtain ⟨b5, o5, ha5, e0, e1, e2⟩ := HR7.out.at3 hlt
              subst ha5
              obtain ⟨x5, hx5⟩ : ∃ x, x = LB (m * 3) := ⟨_, rfl⟩
              obtain ⟨y5_, hy5⟩ : ∃ x, x = LB (m * 3 + 1) := ⟨_, rfl⟩
              obtain ⟨z5, hz5⟩ : ∃ x, x = LB (m * 3 + 2) := ⟨_, rfl⟩
              rw [← hx5] at e0
              rw [← hy5] at e1
              rw [← hz5] at e2
              have hbd := HBD.out m hlt
              rw [← hx5, ← hy5, ← hz5] at hbd
              obtain ⟨⟨p0, p1⟩, ⟨q0, q1⟩, ⟨r0, r1⟩⟩ := hbd
              clear hx5 hy5 hz5
              go_wp2_with fail
              refine (He.hfrom_any x5 y5_ z5 _).mono ?_
              rintro e y8 ⟨rfl, hb8⟩
              have hb7 := Ve.below_n1 wr (.cells #[.int .i64 x5, .int .i64 y5_, .int .i64 z5] 47)
              have hb78 := hb7.trans (hb8.mono hb7.size)
              have HR8 := Lib.hid (HR7.out.on hb78)
              have hh8 := (hb78.block _ (lt_heap HH7.out)).trans HH7.out
              have HH8 := Lib.hid hh8
              have HU8 := Lib.hid (HU7.out.trans (hb78.mono hsz7))
              have d0 := cell_of_row _ _ 0 _ _ _ hh8
              have d1 := cell_of_row _ _ 1 _ _ _ hh8
              have d2 := cell_of_row _ _ 2 _ _ _ hh8
              simp at d0 d1 d2
              clear hh8 hb7 hb8 hb78 e0 e1 e2
              go_wp2_with fail
              go_loopw [75] (fun j wq => ∃ i : Nat, i ≤ 3 ∧ j = .int .i64 i ∧ wq = y8) (fun j _ => 3 - (intOf j).toNat)
              case atStart => exact ⟨0, by omega, rfl, by first | trivial | rfl⟩
              case round =>
                obtain ⟨i, hi3, rfl, hwy⟩ := hrel
                have hwz := hwy.symm
                subst hwz
                clear hwy
                rcases (show i = 0 ∨ i = 1 ∨ i = 2 ∨ i = 3 by omega) with rfl | rfl | rfl | rfl
                · have f1 : ¬ hx < x5 := by omega
                  have HJX : ∀ W : World, (Instr.index 31 (.agg #[.int .i64 x5, .int .i64 y5_, .int .i64 z5]) (.int .i64 0)).run Tryd.prog W = .ok (.int .i64 x5) W := fun W => by simp [Instr.index, go_sem]
                  have f2 : ¬ x5 < hx - 5 := by omega
                  go_wp2_with fail
                  go_roundw
                  case rel => exact ⟨1, by omega, by go_num, by first | trivial | rfl⟩
                  case measure => simp [intOf]
                · have f1 : ¬ hy < y5_ := by omega
                  have HJX : ∀ W : World, (Instr.index 31 (.agg #[.int .i64 x5, .int .i64 y5_, .int .i64 z5]) (.int .i64 1)).run Tryd.prog W = .ok (.int .i64 y5_) W := fun W => by simp [Instr.index, go_sem]
                  have f2 : ¬ y5_ < hy - 5 := by omega
                  go_wp2_with fail
                  go_roundw
                  case rel => exact ⟨2, by omega, by go_num, by first | trivial | rfl⟩
                  case measure => simp [intOf]
                · have f1 : ¬ hz < z5 := by omega
                  have HJX : ∀ W : World, (Instr.index 31 (.agg #[.int .i64 x5, .int .i64 y5_, .int .i64 z5]) (.int .i64 2)).run Tryd.prog W = .ok (.int .i64 z5) W := fun W => by simp [Instr.index, go_sem]
                  have f2 : ¬ z5 < hz - 5 := by omega
                  go_wp2_with fail
                  go_roundw
                  case rel => exact ⟨3, by omega, by go_num, by first | trivial | rfl⟩
                  case measure => simp [intOf]
                · go_wp2_with fail
                  go_roundw
                  case rel => exact ⟨m + 1, by omega, by go_num, HR8, HH8, HU8⟩
                  case measure => simp [intOf]; omega
            · have hge2 : ¬ (m : Int) < nl := by omega
              go_wp2_with fail
              refine (lawake_any _ (HN_.out.on HU7.out)).mono ?_
              rintro e y9 ⟨rfl, hb9⟩
              have HU9 := Lib.hid (HU7.out.trans (hb9.mono HU7.out.size))
              go_wp2_with fail
              go_ret
              exact ⟨rfl, HU9.out⟩

theorem walk (f : Flm) (p : Pl) (hx hy hz : Int) (w : World) (hc : Came w f p) (hcn : Cnt w) : Calls Tryd.prog 3 #[.agg (FC f p), .agg #[.int .i64 hx, .int .i64 hy, .int .i64 hz]] w fun e' w' => e' = .returned (.bool true) ∧ Below w.heap.size w w' := by
  obtain ⟨W, H, nl, nd, nn, nb, ns, nf, L0, D, N, B, S, F⟩ := f
  obtain ⟨al, cl, ad, cd, an, cn, ab, cb, ax, cx, af, cf⟩ := p
  by_cases k0 : nl ≤ 100
  case neg => exact big_0 W H al ad an ab ax af cl cd cn cb cx cf nl nd nn nb ns nf L0 D N B S F hx hy hz w hc hcn k0
  by_cases k1 : ns ≤ 100
  case neg => exact big_1 W H al ad an ab ax af cl cd cn cb cx cf nl nd nn nb ns nf L0 D N B S F hx hy hz w hc hcn k0 k1
  by_cases k2 : okF (⟨W, H, nl, nd, nn, nb, ns, nf, L0, D, N, B, S, F⟩ : Flm)
  case neg => exact no_right W H al ad an ab ax af cl cd cn cb cx cf nl nd nn nb ns nf L0 D N B S F hx hy hz w hc hcn k0 k1 k2
  exact main_ W H al ad an ab ax af cl cd cn cb cx cf nl nd nn nb ns nf L0 D N B S F hx hy hz w hc hcn k0 k1 k2

end Go.Proofs.YtpinpkhalccjhaaDoor.laceFlatW
