/- Lights smoothed: how much a pixel counts for another one, by the document. -/
import Derived.Test.YtgpbnpnnbipfpaaDoorF34
import Derived.Test.YtgpbnpnnbipfpaaDoorF18
import Derived.Test.YtgpbnpnnbipfpaaDoorF19
import Derived.Test.YtgpbnpnnbipfpaaDoorF25
namespace Go.Proofs.YtgpbnpnnbipfpaaDoor.Fm
open Go Go.RowKit Go.Proofs.YtgpbnpnnbipfpaaDoor Go.Proofs.YtgpbnpnnbipfpaaDoor.Rp Go.Proofs.YtgpbnpnnbipfpaaDoor.Re Go.Proofs.YtgpbnpnnbipfpaaDoor.Au Go.Proofs.YtgpbnpnnbipfpaaDoor.Jw
set_option linter.unusedVariables false
set_option linter.unusedSimpArgs false

theorem tap_any (a : Int) (k : Nat) (h : k < 5) (ha : a = (k : Int) - 2) (w : World) : Calls Tryd.prog 37 #[.int .i64 a] w fun e' w' => e' = .returned (.int .i64 (tp k)) ∧ w = w' := by
  match k, h with
  | 0, _ =>
    obtain rfl : a = -2 := by omega
    clear ha
    rw [show tp 0 = 1 from rfl]
    go_enter Tryd.func37, Tryd.ntmps37
    go_wp2
    go_ret
    exact ⟨rfl, rfl⟩
  | 1, _ =>
    obtain rfl : a = -1 := by omega
    clear ha
    rw [show tp 1 = 4 from rfl]
    go_enter Tryd.func37, Tryd.ntmps37
    go_wp2
    go_ret
    exact ⟨rfl, rfl⟩
  | 2, _ =>
    obtain rfl : a = 0 := by omega
    clear ha
    rw [show tp 2 = 6 from rfl]
    go_enter Tryd.func37, Tryd.ntmps37
    go_wp2
    go_ret
    exact ⟨rfl, rfl⟩
  | 3, _ =>
    obtain rfl : a = 1 := by omega
    clear ha
    rw [show tp 3 = 4 from rfl]
    go_enter Tryd.func37, Tryd.ntmps37
    go_wp2
    go_ret
    exact ⟨rfl, rfl⟩
  | 4, _ =>
    obtain rfl : a = 2 := by omega
    clear ha
    rw [show tp 4 = 1 from rfl]
    go_enter Tryd.func37, Tryd.ntmps37
    go_wp2
    go_ret
    exact ⟨rfl, rfl⟩

theorem power_any (lv : Nat) (h : lv < 5) (w : World) : Calls Tryd.prog 30 #[.int .i64 (lv : Int)] w fun e' w' => e' = .returned (.int .i64 ((2 : Int) ^ lv)) ∧ w = w' := by
  have HLV := Lib.hid h
  go_enter Tryd.func30, Tryd.ntmps30
  go_wp2_with fail
  go_loopw [4, 3] (fun ix pv wr => ∃ (i : Nat) (P : Int), i ≤ lv ∧ ix = .int .i64 i ∧ pv = .int .i64 P ∧ Hid (P = (2 : Int) ^ i) ∧ wr = w) (fun ix _ _ => lv - (intOf ix).toNat)
  case atStart => exact ⟨0, 1, Nat.zero_le _, rfl, rfl, Lib.hid rfl, rfl⟩
  case round =>
    obtain ⟨i, P, hi, rfl, rfl, HP, rfl⟩ := hrel
    by_cases hlt : i < lv
    · have hlt' : (i : Int) < lv := by omega
      have hb := pow_bd (show i < 5 by have := HLV.out; omega)
      rw [← HP.out] at hb
      obtain ⟨Q, hQ⟩ : ∃ Q, Q = 2 * P := ⟨_, rfl⟩
      have w1 : wrap64 (2 * P) = Q := by rw [hQ]; unfold wrap64; omega
      have w2 : IntKind.i64.wrap (2 * P) = Q := by rw [hQ, IntKind.wrap_i64]; omega
      have HQ := Lib.hid (show Q = (2 : Int) ^ (i + 1) by rw [hQ, HP.out, Int.pow_succ, Int.mul_comm])
      clear hQ
      go_wp2_with fail
      go_roundw
      case rel => exact ⟨i + 1, Q, by omega, by go_num, rfl, HQ, trivial⟩
      case measure => simp [intOf]; omega
    · have hge : ¬ (i : Int) < lv := by omega
      have HE := Lib.hid (show P = (2 : Int) ^ lv by rw [HP.out, show i = lv by omega])
      go_wp2
      go_ret
      exact ⟨by rw [← HE.out]; rfl, rfl⟩

def pdf (d0 d1 d2 : Int) : Nat → Int
  | 0 => 0
  | 1 => Pl.add 0 (Pl.amount d0)
  | 2 => Pl.add (Pl.add 0 (Pl.amount d0)) (Pl.amount d1)
  | _ => Pl.add (Pl.add (Pl.add 0 (Pl.amount d0)) (Pl.amount d1)) (Pl.amount d2)

theorem sub_bd (a b : Int) : -2147483648 ≤ Pl.sub a b ∧ Pl.sub a b ≤ 2147483648 := by unfold Pl.sub; exact ⟨Pl.held_lo _, Pl.held_hi _⟩

set_option maxHeartbeats 4000000 in
set_option maxRecDepth 100000 in
theorem rhdiff_any (x0 x1 x2 y0_ y1_ y2_ : Int) (w : World)  : Calls Tryd.prog 33 #[.agg #[.int .i64 x0, .int .i64 x1, .int .i64 x2], .agg #[.int .i64 y0_, .int .i64 y1_, .int .i64 y2_]] w fun e' w' => e' = .returned (.int .i64 (Pl.add (Pl.add (Pl.add 0 (Pl.amount (Pl.sub x0 y0_))) (Pl.amount (Pl.sub x1 y1_))) (Pl.amount (Pl.sub x2 y2_)))) ∧ Below w.heap.size w w' := by
  go_enter Tryd.func33, Tryd.ntmps33
  go_upto_region 1 with fail
  have hR := Au.rows2 w (.cells #[.int .i64 x0, .int .i64 x1, .int .i64 x2] 54) (.cells #[.int .i64 y0_, .int .i64 y1_, .int .i64 y2_] 54)
  have HUx := Ve.below_n2 w (.cells #[.int .i64 x0, .int .i64 x1, .int .i64 x2] 54) (.cells #[.int .i64 y0_, .int .i64 y1_, .int .i64 y2_] 54)
  obtain ⟨y0, hy0⟩ : ∃ y0, (w.alloc (.cells #[.int .i64 x0, .int .i64 x1, .int .i64 x2] 54)).alloc (.cells #[.int .i64 y0_, .int .i64 y1_, .int .i64 y2_] 54) = y0 := ⟨_, rfl⟩
  rw [hy0] at hR HUx ⊢
  clear hy0
  have HU0 := Lib.hid HUx
  clear HUx
  obtain ⟨hr0_0, hr0_1⟩ := hR
  have c0_0 := cell_of_row _ _ 0 _ _ _ hr0_0
  have c0_1 := cell_of_row _ _ 1 _ _ _ hr0_0
  have c0_2 := cell_of_row _ _ 2 _ _ _ hr0_0
  have c1_0 := cell_of_row _ _ 0 _ _ _ hr0_1
  have c1_1 := cell_of_row _ _ 1 _ _ _ hr0_1
  have c1_2 := cell_of_row _ _ 2 _ _ _ hr0_1
  simp at c0_0 c0_1 c0_2 c1_0 c1_1 c1_2
  go_wp2_with fail
  refine (He.rhsub_any x0 x1 x2 y0_ y1_ y2_ _).mono ?_
  rintro e y1 ⟨rfl, hb1⟩
  clear c0_0 c0_1 c0_2 c1_0 c1_1 c1_2
  have hr1_0 := (hb1.block _ (lt_heap hr0_0)).trans hr0_0
  have hr1_1 := (hb1.block _ (lt_heap hr0_1)).trans hr0_1
  have HU1 := Lib.hid (HU0.out.trans (hb1.mono HU0.out.size))
  clear hr0_0 hr0_1 HU0
  obtain ⟨d0, hd0⟩ : ∃ d, d = Pl.sub x0 y0_ := ⟨_, rfl⟩
  rw [← hd0] at ⊢
  have HE0 := Lib.hid hd0
  have hb0_ := sub_bd x0 y0_
  rw [← hd0] at hb0_
  have HAM0 := Lib.hid (show Pl.amount d0 = if d0 < 0 then -d0 else d0 by rw [hd0]; exact amount_sub _ _)
  clear hd0
  obtain ⟨d1, hd1⟩ : ∃ d, d = Pl.sub x1 y1_ := ⟨_, rfl⟩
  rw [← hd1] at ⊢
  have HE1 := Lib.hid hd1
  have hb1_ := sub_bd x1 y1_
  rw [← hd1] at hb1_
  have HAM1 := Lib.hid (show Pl.amount d1 = if d1 < 0 then -d1 else d1 by rw [hd1]; exact amount_sub _ _)
  clear hd1
  obtain ⟨d2, hd2⟩ : ∃ d, d = Pl.sub x2 y2_ := ⟨_, rfl⟩
  rw [← hd2] at ⊢
  have HE2 := Lib.hid hd2
  have hb2_ := sub_bd x2 y2_
  rw [← hd2] at hb2_
  have HAM2 := Lib.hid (show Pl.amount d2 = if d2 < 0 then -d2 else d2 by rw [hd2]; exact amount_sub _ _)
  clear hd2
  go_upto_region 4 with fail
  have hb2 := Ve.below_n1 y1 (.cells #[.int .i64 d0, .int .i64 d1, .int .i64 d2] 54)
  have hN := heap_alloc_last y1 (.cells #[.int .i64 d0, .int .i64 d1, .int .i64 d2] 54)
  obtain ⟨y2, hy2⟩ : ∃ y, y1.alloc (.cells #[.int .i64 d0, .int .i64 d1, .int .i64 d2] 54) = y := ⟨_, rfl⟩
  have hs2 : y2.heap.size = y1.heap.size + 1 := by rw [← hy2]; simp
  rw [hy2] at hb2 hN ⊢
  clear hy2
  have hl2_0 := lt_heap hr1_0
  have hl2_1 := lt_heap hr1_1
  have hr2_0 := (hb2.block _ (lt_heap hr1_0)).trans hr1_0
  have hr2_1 := (hb2.block _ (lt_heap hr1_1)).trans hr1_1
  have HU2 := Lib.hid (HU1.out.trans (hb2.mono HU1.out.size))
  clear hr1_0 hr1_1 HU1
  have hr2_2 := hN
  clear hN
  have c2_0 := cell_of_row _ _ 0 _ _ _ hr2_2
  have c2_1 := cell_of_row _ _ 1 _ _ _ hr2_2
  have c2_2 := cell_of_row _ _ 2 _ _ _ hr2_2
  simp at c2_0 c2_1 c2_2
  go_loopw [7, 6] (fun ix sv wr => ∃ k : Nat, (k = 0 ∨ k = 1 ∨ k = 2 ∨ k = 3) ∧ ix = .int .i64 k ∧ Hid (sv = .int .i64 (pdf d0 d1 d2 k)) ∧ wr = y2) (fun ix _ _ => 3 - (intOf ix).toNat)
  case atStart => exact ⟨0, .inl rfl, rfl, Lib.hid rfl, rfl⟩
  case round =>
    obtain ⟨k, hk, rfl, HS, rfl⟩ := hrel
    rcases hk with rfl | rfl | rfl | rfl
    · have hs := HS.out
      obtain ⟨s, hse⟩ : ∃ s, s = pdf d0 d1 d2 0 := ⟨_, rfl⟩
      rw [← hse] at hs
      subst hs
      have HSE := Lib.hid hse
      clear hse
      by_cases hn : d0 < 0
      · have HV := Lib.hid (show Pl.amount d0 = -d0 by rw [HAM0.out, if_pos hn])
        have w1 : wrap64 (-d0) = -d0 := by unfold wrap64; omega
        have w2 : IntKind.i64.wrap (-d0) = -d0 := by rw [IntKind.wrap_i64]; omega
        go_wp2_with fail
        refine (Wa.refAdd_any _ _ _).mono ?_
        rintro e ww ⟨rfl, rfl⟩
        have HNX := Lib.hid (show Pl.add s (-d0) = pdf d0 d1 d2 1 by rw [HSE.out]; exact congrArg (Pl.add _) HV.out.symm)
        go_wp2_with fail
        go_roundw
        case rel => exact ⟨1, by omega, by first | rfl | go_num, Lib.hid (by rw [← HNX.out]), trivial⟩
        case measure => simp [intOf]
      · have HV := Lib.hid (show Pl.amount d0 = d0 by rw [HAM0.out, if_neg hn])
        go_wp2_with fail
        refine (Wa.refAdd_any _ _ _).mono ?_
        rintro e ww ⟨rfl, rfl⟩
        have HNX := Lib.hid (show Pl.add s (d0) = pdf d0 d1 d2 1 by rw [HSE.out]; exact congrArg (Pl.add _) HV.out.symm)
        go_wp2_with fail
        go_roundw
        case rel => exact ⟨1, by omega, by first | rfl | go_num, Lib.hid (by rw [← HNX.out]), trivial⟩
        case measure => simp [intOf]
    · have hs := HS.out
      obtain ⟨s, hse⟩ : ∃ s, s = pdf d0 d1 d2 1 := ⟨_, rfl⟩
      rw [← hse] at hs
      subst hs
      have HSE := Lib.hid hse
      clear hse
      by_cases hn : d1 < 0
      · have HV := Lib.hid (show Pl.amount d1 = -d1 by rw [HAM1.out, if_pos hn])
        have w1 : wrap64 (-d1) = -d1 := by unfold wrap64; omega
        have w2 : IntKind.i64.wrap (-d1) = -d1 := by rw [IntKind.wrap_i64]; omega
        go_wp2_with fail
        refine (Wa.refAdd_any _ _ _).mono ?_
        rintro e ww ⟨rfl, rfl⟩
        have HNX := Lib.hid (show Pl.add s (-d1) = pdf d0 d1 d2 2 by rw [HSE.out]; exact congrArg (Pl.add _) HV.out.symm)
        go_wp2_with fail
        go_roundw
        case rel => exact ⟨2, by omega, by first | rfl | go_num, Lib.hid (by rw [← HNX.out]), trivial⟩
        case measure => simp [intOf]
      · have HV := Lib.hid (show Pl.amount d1 = d1 by rw [HAM1.out, if_neg hn])
        go_wp2_with fail
        refine (Wa.refAdd_any _ _ _).mono ?_
        rintro e ww ⟨rfl, rfl⟩
        have HNX := Lib.hid (show Pl.add s (d1) = pdf d0 d1 d2 2 by rw [HSE.out]; exact congrArg (Pl.add _) HV.out.symm)
        go_wp2_with fail
        go_roundw
        case rel => exact ⟨2, by omega, by first | rfl | go_num, Lib.hid (by rw [← HNX.out]), trivial⟩
        case measure => simp [intOf]
    · have hs := HS.out
      obtain ⟨s, hse⟩ : ∃ s, s = pdf d0 d1 d2 2 := ⟨_, rfl⟩
      rw [← hse] at hs
      subst hs
      have HSE := Lib.hid hse
      clear hse
      by_cases hn : d2 < 0
      · have HV := Lib.hid (show Pl.amount d2 = -d2 by rw [HAM2.out, if_pos hn])
        have w1 : wrap64 (-d2) = -d2 := by unfold wrap64; omega
        have w2 : IntKind.i64.wrap (-d2) = -d2 := by rw [IntKind.wrap_i64]; omega
        go_wp2_with fail
        refine (Wa.refAdd_any _ _ _).mono ?_
        rintro e ww ⟨rfl, rfl⟩
        have HNX := Lib.hid (show Pl.add s (-d2) = pdf d0 d1 d2 3 by rw [HSE.out]; exact congrArg (Pl.add _) HV.out.symm)
        go_wp2_with fail
        go_roundw
        case rel => exact ⟨3, by omega, by first | rfl | go_num, Lib.hid (by rw [← HNX.out]), trivial⟩
        case measure => simp [intOf]
      · have HV := Lib.hid (show Pl.amount d2 = d2 by rw [HAM2.out, if_neg hn])
        go_wp2_with fail
        refine (Wa.refAdd_any _ _ _).mono ?_
        rintro e ww ⟨rfl, rfl⟩
        have HNX := Lib.hid (show Pl.add s (d2) = pdf d0 d1 d2 3 by rw [HSE.out]; exact congrArg (Pl.add _) HV.out.symm)
        go_wp2_with fail
        go_roundw
        case rel => exact ⟨3, by omega, by first | rfl | go_num, Lib.hid (by rw [← HNX.out]), trivial⟩
        case measure => simp [intOf]
    · have hs := HS.out
      obtain ⟨s, hse⟩ : ∃ s, s = pdf d0 d1 d2 3 := ⟨_, rfl⟩
      rw [← hse] at hs
      subst hs
      have HSE := Lib.hid hse
      clear hse
      go_wp2
      go_ret
      exact ⟨by rw [← HE0.out, ← HE1.out, ← HE2.out, show Pl.add (Pl.add (Pl.add 0 (Pl.amount d0)) (Pl.amount d1)) (Pl.amount d2) = s from HSE.out.symm]; rfl, HU2.out⟩

set_option maxHeartbeats 4000000 in
set_option maxRecDepth 100000 in
theorem dalike_ne (W H : Int) (al ad an ab af : Option Addr) (cl cd cn cb cx cf nl nd nn nb ns nf xb xo : Nat) (w : World) (i k : Nat) (hi : i < ns) (hk : k < ns) (s1 s2 : Int) (eS : w.cell? ⟨xb, xo + i, none⟩ = some (.int .i64 s1)) (eS2 : w.cell? ⟨xb, xo + k, none⟩ = some (.int .i64 s2)) (hs : ¬ ((0 ≤ s1) ↔ (0 ≤ s2))) : Calls Tryd.prog 34 #[.agg #[.int .i64 W, .int .i64 H, .slice al nl cl, .slice ad nd cd, .slice an nn cn, .slice ab nb cb, .slice (some ⟨xb, xo, none⟩) ns cx, .slice af nf cf], .int .i64 i, .int .i64 k] w fun e' w' => e' = .returned (.int .i64 0) ∧ Below w.heap.size w w' := by
  have hi' : (i : Int) < ns := by omega
  have hk' : (k : Int) < ns := by omega
  obtain ⟨t1, ht1⟩ : ∃ t, decide (0 ≤ s1) = t := ⟨_, rfl⟩
  obtain ⟨t2, ht2⟩ : ∃ t, decide (0 ≤ s2) = t := ⟨_, rfl⟩
  have hne : (t1 != t2) = true := by rw [← ht1, ← ht2]; by_cases h1 : 0 ≤ s1 <;> by_cases h2 : 0 ≤ s2 <;> simp [h1, h2] at hs ⊢
  have hne2 : (!(t1 == t2)) = true := hne
  clear hs
  go_enter Tryd.func34, Tryd.ntmps34
  go_upto_region 1 with fail
  have hR := Au.rows1 w (.cells #[.int .i64 W, .int .i64 H, .slice al nl cl, .slice ad nd cd, .slice an nn cn, .slice ab nb cb, .slice (some ⟨xb, xo, none⟩) ns cx, .slice af nf cf] 29)
  have HUx := Ve.below_n1 w (.cells #[.int .i64 W, .int .i64 H, .slice al nl cl, .slice ad nd cd, .slice an nn cn, .slice ab nb cb, .slice (some ⟨xb, xo, none⟩) ns cx, .slice af nf cf] 29)
  obtain ⟨y0, hy0⟩ : ∃ y0, w.alloc (.cells #[.int .i64 W, .int .i64 H, .slice al nl cl, .slice ad nd cd, .slice an nn cn, .slice ab nb cb, .slice (some ⟨xb, xo, none⟩) ns cx, .slice af nf cf] 29) = y0 := ⟨_, rfl⟩
  rw [hy0] at hR HUx ⊢
  clear hy0
  have HU0 := Lib.hid HUx
  clear HUx
  have hr0_0 := hR
  clear hR
  replace eS := (HU0.out.cell (p := ⟨xb, xo + i, none⟩) (World.block_lt_of_cell? _ _ eS)).trans eS
  replace eS2 := (HU0.out.cell (p := ⟨xb, xo + k, none⟩) (World.block_lt_of_cell? _ _ eS2)).trans eS2
  go_upto_region 1 with fail
  refine wp_region_held_drew (S := fun y => y.heap[w.heap.size]? = some (.cells #[.int .i64 W, .int .i64 H, .slice al nl cl, .slice ad nd cd, .slice an nn cn, .slice ab nb cb, .slice (some ⟨xb, xo, none⟩) ns cx, .slice af nf cf] 29 (0, 0)) ∧ y.cell? ⟨xb, xo + i, none⟩ = some (.int .i64 s1) ∧ y.cell? ⟨xb, xo + k, none⟩ = some (.int .i64 s2)) (by kernel_rfl) (⟨hr0_0, eS, eS2⟩) (fun hS0 => ?_)
  obtain ⟨y1, hy1⟩ : ∃ y, y0.drew = y := ⟨_, rfl⟩
  have HU1 := Lib.hid (show Below w.heap.size w y1 by rw [← hy1]; exact HU0.out.drew)
  have hr1_0 : y1.heap[w.heap.size]? = some (.cells #[.int .i64 W, .int .i64 H, .slice al nl cl, .slice ad nd cd, .slice an nn cn, .slice ab nb cb, .slice (some ⟨xb, xo, none⟩) ns cx, .slice af nf cf] 29 (0, 0)) := by rw [← hy1]; exact hr0_0
  rw [hy1] at hS0 ⊢
  clear hy1
  refine wpAnyH_take (i := 0) (v := ?_) rfl (by kernel_rfl) (by kernel_rfl) (by kernel_rfl) (fun _ _ _ h => h) (Or.inl ⟨by kernel_rfl, by (intro wz hSz; go_simp; try with_reducible rfl)⟩) hS0 ?_
  go_simp
  refine wpAnyH_take (i := 1) (v := ?_) rfl (by kernel_rfl) (by kernel_rfl) (by kernel_rfl) (fun _ _ _ h => h) (Or.inl ⟨by kernel_rfl, by (intro wz hSz; have c0_0 := cell_of_row _ _ 0 _ _ _ hSz.1; have c0_1 := cell_of_row _ _ 1 _ _ _ hSz.1; have c0_2 := cell_of_row _ _ 2 _ _ _ hSz.1; have c0_3 := cell_of_row _ _ 3 _ _ _ hSz.1; have c0_4 := cell_of_row _ _ 4 _ _ _ hSz.1; have c0_5 := cell_of_row _ _ 5 _ _ _ hSz.1; have c0_6 := cell_of_row _ _ 6 _ _ _ hSz.1; have c0_7 := cell_of_row _ _ 7 _ _ _ hSz.1; simp at c0_0 c0_1 c0_2 c0_3 c0_4 c0_5 c0_6 c0_7; have eSz := hSz.2.1; have eS2z := hSz.2.2; go_simp; try with_reducible rfl)⟩) hS0 ?_
  go_simp
  refine wpAnyH_take (i := 2) (v := ?_) rfl (by kernel_rfl) (by kernel_rfl) (by kernel_rfl) (fun _ _ _ h => h) (Or.inl ⟨by kernel_rfl, by (intro wz hSz; go_simp; try with_reducible rfl)⟩) hS0 ?_
  go_simp
  refine wpAnyH_take (i := 3) (v := ?_) rfl (by kernel_rfl) (by kernel_rfl) (by kernel_rfl) (fun _ _ _ h => h) (Or.inl ⟨by kernel_rfl, by (intro wz hSz; go_simp; try with_reducible rfl)⟩) hS0 ?_
  go_simp
  refine wpAnyH_take (i := 4) (v := ?_) rfl (by kernel_rfl) (by kernel_rfl) (by kernel_rfl) (fun _ _ _ h => h) (Or.inl ⟨by kernel_rfl, by (intro wz hSz; have c0_0 := cell_of_row _ _ 0 _ _ _ hSz.1; have c0_1 := cell_of_row _ _ 1 _ _ _ hSz.1; have c0_2 := cell_of_row _ _ 2 _ _ _ hSz.1; have c0_3 := cell_of_row _ _ 3 _ _ _ hSz.1; have c0_4 := cell_of_row _ _ 4 _ _ _ hSz.1; have c0_5 := cell_of_row _ _ 5 _ _ _ hSz.1; have c0_6 := cell_of_row _ _ 6 _ _ _ hSz.1; have c0_7 := cell_of_row _ _ 7 _ _ _ hSz.1; simp at c0_0 c0_1 c0_2 c0_3 c0_4 c0_5 c0_6 c0_7; have eSz := hSz.2.1; have eS2z := hSz.2.2; go_simp; try with_reducible rfl)⟩) hS0 ?_
  go_simp
  refine wpAnyH_take (i := 5) (v := ?_) rfl (by kernel_rfl) (by kernel_rfl) (by kernel_rfl) (fun _ _ _ h => h) (Or.inl ⟨by kernel_rfl, by (intro wz hSz; go_simp; try with_reducible rfl)⟩) hS0 ?_
  go_simp
  refine wpAnyH_take (i := 6) (v := ?_) rfl (by kernel_rfl) (by kernel_rfl) (by kernel_rfl) (fun _ _ _ h => h) (Or.inl ⟨by kernel_rfl, by (intro wz hSz; go_simp; try with_reducible rfl)⟩) hS0 ?_
  go_simp
  refine wpAnyH_take (i := 7) (v := ?_) rfl (by kernel_rfl) (by kernel_rfl) (by kernel_rfl) (fun _ _ _ h => h) (Or.inl ⟨by kernel_rfl, by (intro wz hSz; have c0_0 := cell_of_row _ _ 0 _ _ _ hSz.1; have c0_1 := cell_of_row _ _ 1 _ _ _ hSz.1; have c0_2 := cell_of_row _ _ 2 _ _ _ hSz.1; have c0_3 := cell_of_row _ _ 3 _ _ _ hSz.1; have c0_4 := cell_of_row _ _ 4 _ _ _ hSz.1; have c0_5 := cell_of_row _ _ 5 _ _ _ hSz.1; have c0_6 := cell_of_row _ _ 6 _ _ _ hSz.1; have c0_7 := cell_of_row _ _ 7 _ _ _ hSz.1; simp at c0_0 c0_1 c0_2 c0_3 c0_4 c0_5 c0_6 c0_7; have eSz := hSz.2.1; have eS2z := hSz.2.2; go_simp; try with_reducible rfl)⟩) hS0 ?_
  go_simp
  refine wpAnyH_take (i := 8) (v := ?_) rfl (by kernel_rfl) (by kernel_rfl) (by kernel_rfl) (fun _ _ _ h => h) (Or.inl ⟨by kernel_rfl, by (intro wz hSz; go_simp; try with_reducible rfl)⟩) hS0 ?_
  go_simp
  refine wpAnyH_take (i := 9) (v := ?_) rfl (by kernel_rfl) (by kernel_rfl) (by kernel_rfl) (fun _ _ _ h => h) (Or.inl ⟨by kernel_rfl, by (intro wz hSz; go_simp; try with_reducible rfl)⟩) hS0 ?_
  go_simp
  refine wpAnyH_take (i := 10) (v := ?_) rfl (by kernel_rfl) (by kernel_rfl) (by kernel_rfl) (fun _ _ _ h => h) (Or.inl ⟨by kernel_rfl, by (intro wz hSz; have c0_0 := cell_of_row _ _ 0 _ _ _ hSz.1; have c0_1 := cell_of_row _ _ 1 _ _ _ hSz.1; have c0_2 := cell_of_row _ _ 2 _ _ _ hSz.1; have c0_3 := cell_of_row _ _ 3 _ _ _ hSz.1; have c0_4 := cell_of_row _ _ 4 _ _ _ hSz.1; have c0_5 := cell_of_row _ _ 5 _ _ _ hSz.1; have c0_6 := cell_of_row _ _ 6 _ _ _ hSz.1; have c0_7 := cell_of_row _ _ 7 _ _ _ hSz.1; simp at c0_0 c0_1 c0_2 c0_3 c0_4 c0_5 c0_6 c0_7; have eSz := hSz.2.1; have eS2z := hSz.2.2; go_simp; try with_reducible rfl)⟩) hS0 ?_
  go_simp
  refine wpAnyH_take (i := 11) (v := ?_) rfl (by kernel_rfl) (by kernel_rfl) (by kernel_rfl) (fun _ _ _ h => h) (Or.inl ⟨by kernel_rfl, by (intro wz hSz; go_simp; try with_reducible rfl)⟩) hS0 ?_
  go_simp
  refine wpAnyH_take (i := 12) (v := ?_) rfl (by kernel_rfl) (by kernel_rfl) (by kernel_rfl) (fun _ _ _ h => h) (Or.inl ⟨by kernel_rfl, by (intro wz hSz; go_simp; try with_reducible rfl)⟩) hS0 ?_
  go_simp
  refine wpAnyH_take (i := 13) (v := ?_) rfl (by kernel_rfl) (by kernel_rfl) (by kernel_rfl) (fun _ _ _ h => h) (Or.inl ⟨by kernel_rfl, by (intro wz hSz; go_simp; try with_reducible rfl)⟩) hS0 ?_
  go_simp
  refine wpAnyH_done (by kernel_rfl) ?_ _
  go_wp2
  go_ret
  exact ⟨rfl, HU1.out⟩

set_option maxHeartbeats 4000000 in
set_option maxRecDepth 100000 in
theorem dalike_none (W H : Int) (al ad an ab af : Option Addr) (cl cd cn cb cx cf nl nd nn nb ns nf xb xo : Nat) (w : World) (i k : Nat) (hi : i < ns) (hk : k < ns) (s1 s2 : Int) (eS : w.cell? ⟨xb, xo + i, none⟩ = some (.int .i64 s1)) (eS2 : w.cell? ⟨xb, xo + k, none⟩ = some (.int .i64 s2)) (hs : ¬ 0 ≤ s1) (hs2 : ¬ 0 ≤ s2) : Calls Tryd.prog 34 #[.agg #[.int .i64 W, .int .i64 H, .slice al nl cl, .slice ad nd cd, .slice an nn cn, .slice ab nb cb, .slice (some ⟨xb, xo, none⟩) ns cx, .slice af nf cf], .int .i64 i, .int .i64 k] w fun e' w' => e' = .returned (.int .i64 65536) ∧ Below w.heap.size w w' := by
  have hi' : (i : Int) < ns := by omega
  have hk' : (k : Int) < ns := by omega
  have ht1 : decide (0 ≤ s1) = false := decide_eq_false hs
  have ht2 : decide (0 ≤ s2) = false := decide_eq_false hs2
  clear hs hs2
  go_enter Tryd.func34, Tryd.ntmps34
  go_upto_region 1 with fail
  have hR := Au.rows1 w (.cells #[.int .i64 W, .int .i64 H, .slice al nl cl, .slice ad nd cd, .slice an nn cn, .slice ab nb cb, .slice (some ⟨xb, xo, none⟩) ns cx, .slice af nf cf] 29)
  have HUx := Ve.below_n1 w (.cells #[.int .i64 W, .int .i64 H, .slice al nl cl, .slice ad nd cd, .slice an nn cn, .slice ab nb cb, .slice (some ⟨xb, xo, none⟩) ns cx, .slice af nf cf] 29)
  obtain ⟨y0, hy0⟩ : ∃ y0, w.alloc (.cells #[.int .i64 W, .int .i64 H, .slice al nl cl, .slice ad nd cd, .slice an nn cn, .slice ab nb cb, .slice (some ⟨xb, xo, none⟩) ns cx, .slice af nf cf] 29) = y0 := ⟨_, rfl⟩
  rw [hy0] at hR HUx ⊢
  clear hy0
  have HU0 := Lib.hid HUx
  clear HUx
  have hr0_0 := hR
  clear hR
  replace eS := (HU0.out.cell (p := ⟨xb, xo + i, none⟩) (World.block_lt_of_cell? _ _ eS)).trans eS
  replace eS2 := (HU0.out.cell (p := ⟨xb, xo + k, none⟩) (World.block_lt_of_cell? _ _ eS2)).trans eS2
  go_upto_region 1 with fail
  refine wp_region_held_drew (S := fun y => y.heap[w.heap.size]? = some (.cells #[.int .i64 W, .int .i64 H, .slice al nl cl, .slice ad nd cd, .slice an nn cn, .slice ab nb cb, .slice (some ⟨xb, xo, none⟩) ns cx, .slice af nf cf] 29 (0, 0)) ∧ y.cell? ⟨xb, xo + i, none⟩ = some (.int .i64 s1) ∧ y.cell? ⟨xb, xo + k, none⟩ = some (.int .i64 s2)) (by kernel_rfl) (⟨hr0_0, eS, eS2⟩) (fun hS0 => ?_)
  obtain ⟨y1, hy1⟩ : ∃ y, y0.drew = y := ⟨_, rfl⟩
  have HU1 := Lib.hid (show Below w.heap.size w y1 by rw [← hy1]; exact HU0.out.drew)
  have hr1_0 : y1.heap[w.heap.size]? = some (.cells #[.int .i64 W, .int .i64 H, .slice al nl cl, .slice ad nd cd, .slice an nn cn, .slice ab nb cb, .slice (some ⟨xb, xo, none⟩) ns cx, .slice af nf cf] 29 (0, 0)) := by rw [← hy1]; exact hr0_0
  rw [hy1] at hS0 ⊢
  clear hy1
  refine wpAnyH_take (i := 0) (v := ?_) rfl (by kernel_rfl) (by kernel_rfl) (by kernel_rfl) (fun _ _ _ h => h) (Or.inl ⟨by kernel_rfl, by (intro wz hSz; go_simp; try with_reducible rfl)⟩) hS0 ?_
  go_simp
  refine wpAnyH_take (i := 1) (v := ?_) rfl (by kernel_rfl) (by kernel_rfl) (by kernel_rfl) (fun _ _ _ h => h) (Or.inl ⟨by kernel_rfl, by (intro wz hSz; have c0_0 := cell_of_row _ _ 0 _ _ _ hSz.1; have c0_1 := cell_of_row _ _ 1 _ _ _ hSz.1; have c0_2 := cell_of_row _ _ 2 _ _ _ hSz.1; have c0_3 := cell_of_row _ _ 3 _ _ _ hSz.1; have c0_4 := cell_of_row _ _ 4 _ _ _ hSz.1; have c0_5 := cell_of_row _ _ 5 _ _ _ hSz.1; have c0_6 := cell_of_row _ _ 6 _ _ _ hSz.1; have c0_7 := cell_of_row _ _ 7 _ _ _ hSz.1; simp at c0_0 c0_1 c0_2 c0_3 c0_4 c0_5 c0_6 c0_7; have eSz := hSz.2.1; have eS2z := hSz.2.2; go_simp; try with_reducible rfl)⟩) hS0 ?_
  go_simp
  refine wpAnyH_take (i := 2) (v := ?_) rfl (by kernel_rfl) (by kernel_rfl) (by kernel_rfl) (fun _ _ _ h => h) (Or.inl ⟨by kernel_rfl, by (intro wz hSz; go_simp; try with_reducible rfl)⟩) hS0 ?_
  go_simp
  refine wpAnyH_take (i := 3) (v := ?_) rfl (by kernel_rfl) (by kernel_rfl) (by kernel_rfl) (fun _ _ _ h => h) (Or.inl ⟨by kernel_rfl, by (intro wz hSz; go_simp; try with_reducible rfl)⟩) hS0 ?_
  go_simp
  refine wpAnyH_take (i := 4) (v := ?_) rfl (by kernel_rfl) (by kernel_rfl) (by kernel_rfl) (fun _ _ _ h => h) (Or.inl ⟨by kernel_rfl, by (intro wz hSz; have c0_0 := cell_of_row _ _ 0 _ _ _ hSz.1; have c0_1 := cell_of_row _ _ 1 _ _ _ hSz.1; have c0_2 := cell_of_row _ _ 2 _ _ _ hSz.1; have c0_3 := cell_of_row _ _ 3 _ _ _ hSz.1; have c0_4 := cell_of_row _ _ 4 _ _ _ hSz.1; have c0_5 := cell_of_row _ _ 5 _ _ _ hSz.1; have c0_6 := cell_of_row _ _ 6 _ _ _ hSz.1; have c0_7 := cell_of_row _ _ 7 _ _ _ hSz.1; simp at c0_0 c0_1 c0_2 c0_3 c0_4 c0_5 c0_6 c0_7; have eSz := hSz.2.1; have eS2z := hSz.2.2; go_simp; try with_reducible rfl)⟩) hS0 ?_
  go_simp
  refine wpAnyH_take (i := 5) (v := ?_) rfl (by kernel_rfl) (by kernel_rfl) (by kernel_rfl) (fun _ _ _ h => h) (Or.inl ⟨by kernel_rfl, by (intro wz hSz; go_simp; try with_reducible rfl)⟩) hS0 ?_
  go_simp
  refine wpAnyH_take (i := 6) (v := ?_) rfl (by kernel_rfl) (by kernel_rfl) (by kernel_rfl) (fun _ _ _ h => h) (Or.inl ⟨by kernel_rfl, by (intro wz hSz; go_simp; try with_reducible rfl)⟩) hS0 ?_
  go_simp
  refine wpAnyH_take (i := 7) (v := ?_) rfl (by kernel_rfl) (by kernel_rfl) (by kernel_rfl) (fun _ _ _ h => h) (Or.inl ⟨by kernel_rfl, by (intro wz hSz; have c0_0 := cell_of_row _ _ 0 _ _ _ hSz.1; have c0_1 := cell_of_row _ _ 1 _ _ _ hSz.1; have c0_2 := cell_of_row _ _ 2 _ _ _ hSz.1; have c0_3 := cell_of_row _ _ 3 _ _ _ hSz.1; have c0_4 := cell_of_row _ _ 4 _ _ _ hSz.1; have c0_5 := cell_of_row _ _ 5 _ _ _ hSz.1; have c0_6 := cell_of_row _ _ 6 _ _ _ hSz.1; have c0_7 := cell_of_row _ _ 7 _ _ _ hSz.1; simp at c0_0 c0_1 c0_2 c0_3 c0_4 c0_5 c0_6 c0_7; have eSz := hSz.2.1; have eS2z := hSz.2.2; go_simp; try with_reducible rfl)⟩) hS0 ?_
  go_simp
  refine wpAnyH_take (i := 8) (v := ?_) rfl (by kernel_rfl) (by kernel_rfl) (by kernel_rfl) (fun _ _ _ h => h) (Or.inl ⟨by kernel_rfl, by (intro wz hSz; go_simp; try with_reducible rfl)⟩) hS0 ?_
  go_simp
  refine wpAnyH_take (i := 9) (v := ?_) rfl (by kernel_rfl) (by kernel_rfl) (by kernel_rfl) (fun _ _ _ h => h) (Or.inl ⟨by kernel_rfl, by (intro wz hSz; go_simp; try with_reducible rfl)⟩) hS0 ?_
  go_simp
  refine wpAnyH_take (i := 10) (v := ?_) rfl (by kernel_rfl) (by kernel_rfl) (by kernel_rfl) (fun _ _ _ h => h) (Or.inl ⟨by kernel_rfl, by (intro wz hSz; have c0_0 := cell_of_row _ _ 0 _ _ _ hSz.1; have c0_1 := cell_of_row _ _ 1 _ _ _ hSz.1; have c0_2 := cell_of_row _ _ 2 _ _ _ hSz.1; have c0_3 := cell_of_row _ _ 3 _ _ _ hSz.1; have c0_4 := cell_of_row _ _ 4 _ _ _ hSz.1; have c0_5 := cell_of_row _ _ 5 _ _ _ hSz.1; have c0_6 := cell_of_row _ _ 6 _ _ _ hSz.1; have c0_7 := cell_of_row _ _ 7 _ _ _ hSz.1; simp at c0_0 c0_1 c0_2 c0_3 c0_4 c0_5 c0_6 c0_7; have eSz := hSz.2.1; have eS2z := hSz.2.2; go_simp; try with_reducible rfl)⟩) hS0 ?_
  go_simp
  refine wpAnyH_take (i := 11) (v := ?_) rfl (by kernel_rfl) (by kernel_rfl) (by kernel_rfl) (fun _ _ _ h => h) (Or.inl ⟨by kernel_rfl, by (intro wz hSz; go_simp; try with_reducible rfl)⟩) hS0 ?_
  go_simp
  refine wpAnyH_take (i := 12) (v := ?_) rfl (by kernel_rfl) (by kernel_rfl) (by kernel_rfl) (fun _ _ _ h => h) (Or.inl ⟨by kernel_rfl, by (intro wz hSz; go_simp; try with_reducible rfl)⟩) hS0 ?_
  go_simp
  refine wpAnyH_take (i := 13) (v := ?_) rfl (by kernel_rfl) (by kernel_rfl) (by kernel_rfl) (fun _ _ _ h => h) (Or.inl ⟨by kernel_rfl, by (intro wz hSz; go_simp; try with_reducible rfl)⟩) hS0 ?_
  go_simp
  refine wpAnyH_done (by kernel_rfl) ?_ _
  go_wp2
  go_ret
  exact ⟨rfl, HU1.out⟩

set_option maxHeartbeats 4000000 in
set_option maxRecDepth 100000 in
theorem dalike_neg (W H : Int) (al ab af : Option Addr) (cl cd cn cb cx cf nl nd nn nb ns nf xb xo db do_ vb vo : Nat) (w : World) (i k : Nat) (hi : i < ns) (hk : k < ns) (s1 s2 : Int) (eS : w.cell? ⟨xb, xo + i, none⟩ = some (.int .i64 s1)) (eS2 : w.cell? ⟨xb, xo + k, none⟩ = some (.int .i64 s2)) (hs : 0 ≤ s1) (hs2 : 0 ≤ s2) (hnd : nd = ns) (hnn : nn = ns) (d1 d2 : Int) (hsg : Pl.sub d1 d2 < 0) (eD : w.cell? ⟨db, do_ + i, none⟩ = some (.int .i64 d1)) (eD2 : w.cell? ⟨db, do_ + k, none⟩ = some (.int .i64 d2)) (a1 a2 a3 : Int) (ea1 : w.cell? ⟨vb, vo + i * 3, none⟩ = some (.int .i64 a1)) (ea2 : w.cell? ⟨vb, vo + i * 3 + 1, none⟩ = some (.int .i64 a2)) (ea3 : w.cell? ⟨vb, vo + i * 3 + 2, none⟩ = some (.int .i64 a3)) (b1 b2 b3 : Int) (eb1 : w.cell? ⟨vb, vo + k * 3, none⟩ = some (.int .i64 b1)) (eb2 : w.cell? ⟨vb, vo + k * 3 + 1, none⟩ = some (.int .i64 b2)) (eb3 : w.cell? ⟨vb, vo + k * 3 + 2, none⟩ = some (.int .i64 b3)) (z : Int) (hT : ∀ W : World, Calls Tryd.prog 55 #[.agg #[.int .i64 a1, .int .i64 a2, .int .i64 a3], .agg #[.int .i64 b1, .int .i64 b2, .int .i64 b3]] W fun e' w' => e' = .returned (.int .i64 z) ∧ Below W.heap.size W w') : Calls Tryd.prog 34 #[.agg #[.int .i64 W, .int .i64 H, .slice al nl cl, .slice (some ⟨db, do_, none⟩) nd cd, .slice (some ⟨vb, vo, none⟩) nn cn, .slice ab nb cb, .slice (some ⟨xb, xo, none⟩) ns cx, .slice af nf cf], .int .i64 i, .int .i64 k] w fun e' w' => e' = .returned (.int .i64 (Pl.mul (Pl.unit z) (lsn 262144 (Pl.amount (Pl.sub d1 d2))))) ∧ Below w.heap.size w w' := by
  have hi' : (i : Int) < ns := by omega
  have hk' : (k : Int) < ns := by omega
  have ht1 : decide (0 ≤ s1) = true := decide_eq_true hs
  have ht2 : decide (0 ≤ s2) = true := decide_eq_true hs2
  clear hs hs2
  have hid : (i : Int) < nd := by omega
  have hkd : (k : Int) < nd := by omega
  have hin : (i : Int) < nn := by omega
  have hkn : (k : Int) < nn := by omega
  clear hnd hnn
  obtain ⟨ap, hap⟩ : ∃ t, t = Pl.sub d1 d2 := ⟨_, rfl⟩
  rw [← hap] at hsg
  have hbd := sub_bd d1 d2
  rw [← hap] at hbd
  have HAM := Lib.hid (show Pl.amount (Pl.sub d1 d2) = -ap by rw [amount_sub, ← hap, if_pos hsg])
  have HSB := Lib.hid (show ∀ W : World, Calls Tryd.prog 53 #[.int .i64 d1, .int .i64 d2] W (fun e' w' => e' = .returned (.int .i64 ap) ∧ W = w') from fun W => by rw [hap]; exact Wa.refSub_any _ _ W)
  clear hap
  have w1 : wrap64 (-ap) = -ap := by unfold wrap64; omega
  have w2 : IntKind.i64.wrap (-ap) = -ap := by rw [IntKind.wrap_i64]; omega
  have dsg : decide (ap < 0) = true := decide_eq_true hsg
  clear hsg
  go_enter Tryd.func34, Tryd.ntmps34
  go_upto_region 1 with fail
  have hR := Au.rows1 w (.cells #[.int .i64 W, .int .i64 H, .slice al nl cl, .slice (some ⟨db, do_, none⟩) nd cd, .slice (some ⟨vb, vo, none⟩) nn cn, .slice ab nb cb, .slice (some ⟨xb, xo, none⟩) ns cx, .slice af nf cf] 29)
  have HUx := Ve.below_n1 w (.cells #[.int .i64 W, .int .i64 H, .slice al nl cl, .slice (some ⟨db, do_, none⟩) nd cd, .slice (some ⟨vb, vo, none⟩) nn cn, .slice ab nb cb, .slice (some ⟨xb, xo, none⟩) ns cx, .slice af nf cf] 29)
  obtain ⟨y0, hy0⟩ : ∃ y0, w.alloc (.cells #[.int .i64 W, .int .i64 H, .slice al nl cl, .slice (some ⟨db, do_, none⟩) nd cd, .slice (some ⟨vb, vo, none⟩) nn cn, .slice ab nb cb, .slice (some ⟨xb, xo, none⟩) ns cx, .slice af nf cf] 29) = y0 := ⟨_, rfl⟩
  rw [hy0] at hR HUx ⊢
  clear hy0
  have HU0 := Lib.hid HUx
  clear HUx
  have hr0_0 := hR
  clear hR
  replace eS := (HU0.out.cell (p := ⟨xb, xo + i, none⟩) (World.block_lt_of_cell? _ _ eS)).trans eS
  replace eS2 := (HU0.out.cell (p := ⟨xb, xo + k, none⟩) (World.block_lt_of_cell? _ _ eS2)).trans eS2
  replace eD := (HU0.out.cell (p := ⟨db, do_ + i, none⟩) (World.block_lt_of_cell? _ _ eD)).trans eD
  replace eD2 := (HU0.out.cell (p := ⟨db, do_ + k, none⟩) (World.block_lt_of_cell? _ _ eD2)).trans eD2
  replace ea1 := (HU0.out.cell (p := ⟨vb, vo + i * 3, none⟩) (World.block_lt_of_cell? _ _ ea1)).trans ea1
  replace ea2 := (HU0.out.cell (p := ⟨vb, vo + i * 3 + 1, none⟩) (World.block_lt_of_cell? _ _ ea2)).trans ea2
  replace ea3 := (HU0.out.cell (p := ⟨vb, vo + i * 3 + 2, none⟩) (World.block_lt_of_cell? _ _ ea3)).trans ea3
  replace eb1 := (HU0.out.cell (p := ⟨vb, vo + k * 3, none⟩) (World.block_lt_of_cell? _ _ eb1)).trans eb1
  replace eb2 := (HU0.out.cell (p := ⟨vb, vo + k * 3 + 1, none⟩) (World.block_lt_of_cell? _ _ eb2)).trans eb2
  replace eb3 := (HU0.out.cell (p := ⟨vb, vo + k * 3 + 2, none⟩) (World.block_lt_of_cell? _ _ eb3)).trans eb3
  go_upto_region 1 with fail
  refine wp_region_held_drew (S := fun y => y.heap[w.heap.size]? = some (.cells #[.int .i64 W, .int .i64 H, .slice al nl cl, .slice (some ⟨db, do_, none⟩) nd cd, .slice (some ⟨vb, vo, none⟩) nn cn, .slice ab nb cb, .slice (some ⟨xb, xo, none⟩) ns cx, .slice af nf cf] 29 (0, 0)) ∧ y.cell? ⟨xb, xo + i, none⟩ = some (.int .i64 s1) ∧ y.cell? ⟨xb, xo + k, none⟩ = some (.int .i64 s2) ∧ y.cell? ⟨db, do_ + i, none⟩ = some (.int .i64 d1) ∧ y.cell? ⟨db, do_ + k, none⟩ = some (.int .i64 d2) ∧ y.cell? ⟨vb, vo + i * 3, none⟩ = some (.int .i64 a1) ∧ y.cell? ⟨vb, vo + i * 3 + 1, none⟩ = some (.int .i64 a2) ∧ y.cell? ⟨vb, vo + i * 3 + 2, none⟩ = some (.int .i64 a3) ∧ y.cell? ⟨vb, vo + k * 3, none⟩ = some (.int .i64 b1) ∧ y.cell? ⟨vb, vo + k * 3 + 1, none⟩ = some (.int .i64 b2) ∧ y.cell? ⟨vb, vo + k * 3 + 2, none⟩ = some (.int .i64 b3)) (by kernel_rfl) (⟨hr0_0, eS, eS2, eD, eD2, ea1, ea2, ea3, eb1, eb2, eb3⟩) (fun hS0 => ?_)
  obtain ⟨y1, hy1⟩ : ∃ y, y0.drew = y := ⟨_, rfl⟩
  have HU1 := Lib.hid (show Below w.heap.size w y1 by rw [← hy1]; exact HU0.out.drew)
  have hr1_0 : y1.heap[w.heap.size]? = some (.cells #[.int .i64 W, .int .i64 H, .slice al nl cl, .slice (some ⟨db, do_, none⟩) nd cd, .slice (some ⟨vb, vo, none⟩) nn cn, .slice ab nb cb, .slice (some ⟨xb, xo, none⟩) ns cx, .slice af nf cf] 29 (0, 0)) := by rw [← hy1]; exact hr0_0
  rw [hy1] at hS0 ⊢
  clear hy1
  refine wpAnyH_take (i := 0) (v := ?_) rfl (by kernel_rfl) (by kernel_rfl) (by kernel_rfl) (fun _ _ _ h => h) (Or.inl ⟨by kernel_rfl, by (intro wz hSz; go_simp; try with_reducible rfl)⟩) hS0 ?_
  go_simp
  refine wpAnyH_take (i := 1) (v := ?_) rfl (by kernel_rfl) (by kernel_rfl) (by kernel_rfl) (fun _ _ _ h => h) (Or.inl ⟨by kernel_rfl, by (intro wz hSz; have c0_0 := cell_of_row _ _ 0 _ _ _ hSz.1; have c0_1 := cell_of_row _ _ 1 _ _ _ hSz.1; have c0_2 := cell_of_row _ _ 2 _ _ _ hSz.1; have c0_3 := cell_of_row _ _ 3 _ _ _ hSz.1; have c0_4 := cell_of_row _ _ 4 _ _ _ hSz.1; have c0_5 := cell_of_row _ _ 5 _ _ _ hSz.1; have c0_6 := cell_of_row _ _ 6 _ _ _ hSz.1; have c0_7 := cell_of_row _ _ 7 _ _ _ hSz.1; simp at c0_0 c0_1 c0_2 c0_3 c0_4 c0_5 c0_6 c0_7; have eSz := hSz.2.1; have eS2z := hSz.2.2.1; have eDz := hSz.2.2.2.1; have eD2z := hSz.2.2.2.2.1; have ea1z := hSz.2.2.2.2.2.1; have ea2z := hSz.2.2.2.2.2.2.1; have ea3z := hSz.2.2.2.2.2.2.2.1; have eb1z := hSz.2.2.2.2.2.2.2.2.1; have eb2z := hSz.2.2.2.2.2.2.2.2.2.1; have eb3z := hSz.2.2.2.2.2.2.2.2.2.2; go_simp; try with_reducible rfl)⟩) hS0 ?_
  go_simp
  refine wpAnyH_take (i := 2) (v := ?_) rfl (by kernel_rfl) (by kernel_rfl) (by kernel_rfl) (fun _ _ _ h => h) (Or.inl ⟨by kernel_rfl, by (intro wz hSz; go_simp; try with_reducible rfl)⟩) hS0 ?_
  go_simp
  refine wpAnyH_take (i := 3) (v := ?_) rfl (by kernel_rfl) (by kernel_rfl) (by kernel_rfl) (fun _ _ _ h => h) (Or.inl ⟨by kernel_rfl, by (intro wz hSz; go_simp; try with_reducible rfl)⟩) hS0 ?_
  go_simp
  refine wpAnyH_take (i := 4) (v := ?_) rfl (by kernel_rfl) (by kernel_rfl) (by kernel_rfl) (fun _ _ _ h => h) (Or.inl ⟨by kernel_rfl, by (intro wz hSz; have c0_0 := cell_of_row _ _ 0 _ _ _ hSz.1; have c0_1 := cell_of_row _ _ 1 _ _ _ hSz.1; have c0_2 := cell_of_row _ _ 2 _ _ _ hSz.1; have c0_3 := cell_of_row _ _ 3 _ _ _ hSz.1; have c0_4 := cell_of_row _ _ 4 _ _ _ hSz.1; have c0_5 := cell_of_row _ _ 5 _ _ _ hSz.1; have c0_6 := cell_of_row _ _ 6 _ _ _ hSz.1; have c0_7 := cell_of_row _ _ 7 _ _ _ hSz.1; simp at c0_0 c0_1 c0_2 c0_3 c0_4 c0_5 c0_6 c0_7; have eSz := hSz.2.1; have eS2z := hSz.2.2.1; have eDz := hSz.2.2.2.1; have eD2z := hSz.2.2.2.2.1; have ea1z := hSz.2.2.2.2.2.1; have ea2z := hSz.2.2.2.2.2.2.1; have ea3z := hSz.2.2.2.2.2.2.2.1; have eb1z := hSz.2.2.2.2.2.2.2.2.1; have eb2z := hSz.2.2.2.2.2.2.2.2.2.1; have eb3z := hSz.2.2.2.2.2.2.2.2.2.2; go_simp; try with_reducible rfl)⟩) hS0 ?_
  go_simp
  refine wpAnyH_take (i := 5) (v := ?_) rfl (by kernel_rfl) (by kernel_rfl) (by kernel_rfl) (fun _ _ _ h => h) (Or.inl ⟨by kernel_rfl, by (intro wz hSz; go_simp; try with_reducible rfl)⟩) hS0 ?_
  go_simp
  refine wpAnyH_take (i := 6) (v := ?_) rfl (by kernel_rfl) (by kernel_rfl) (by kernel_rfl) (fun _ _ _ h => h) (Or.inl ⟨by kernel_rfl, by (intro wz hSz; go_simp; try with_reducible rfl)⟩) hS0 ?_
  go_simp
  refine wpAnyH_take (i := 7) (v := ?_) rfl (by kernel_rfl) (by kernel_rfl) (by kernel_rfl) (fun _ _ _ h => h) (Or.inl ⟨by kernel_rfl, by (intro wz hSz; have c0_0 := cell_of_row _ _ 0 _ _ _ hSz.1; have c0_1 := cell_of_row _ _ 1 _ _ _ hSz.1; have c0_2 := cell_of_row _ _ 2 _ _ _ hSz.1; have c0_3 := cell_of_row _ _ 3 _ _ _ hSz.1; have c0_4 := cell_of_row _ _ 4 _ _ _ hSz.1; have c0_5 := cell_of_row _ _ 5 _ _ _ hSz.1; have c0_6 := cell_of_row _ _ 6 _ _ _ hSz.1; have c0_7 := cell_of_row _ _ 7 _ _ _ hSz.1; simp at c0_0 c0_1 c0_2 c0_3 c0_4 c0_5 c0_6 c0_7; have eSz := hSz.2.1; have eS2z := hSz.2.2.1; have eDz := hSz.2.2.2.1; have eD2z := hSz.2.2.2.2.1; have ea1z := hSz.2.2.2.2.2.1; have ea2z := hSz.2.2.2.2.2.2.1; have ea3z := hSz.2.2.2.2.2.2.2.1; have eb1z := hSz.2.2.2.2.2.2.2.2.1; have eb2z := hSz.2.2.2.2.2.2.2.2.2.1; have eb3z := hSz.2.2.2.2.2.2.2.2.2.2; go_simp; try with_reducible rfl)⟩) hS0 ?_
  go_simp
  refine wpAnyH_take (i := 8) (v := ?_) rfl (by kernel_rfl) (by kernel_rfl) (by kernel_rfl) (fun _ _ _ h => h) (Or.inl ⟨by kernel_rfl, by (intro wz hSz; go_simp; try with_reducible rfl)⟩) hS0 ?_
  go_simp
  refine wpAnyH_take (i := 9) (v := ?_) rfl (by kernel_rfl) (by kernel_rfl) (by kernel_rfl) (fun _ _ _ h => h) (Or.inl ⟨by kernel_rfl, by (intro wz hSz; go_simp; try with_reducible rfl)⟩) hS0 ?_
  go_simp
  refine wpAnyH_take (i := 10) (v := ?_) rfl (by kernel_rfl) (by kernel_rfl) (by kernel_rfl) (fun _ _ _ h => h) (Or.inl ⟨by kernel_rfl, by (intro wz hSz; have c0_0 := cell_of_row _ _ 0 _ _ _ hSz.1; have c0_1 := cell_of_row _ _ 1 _ _ _ hSz.1; have c0_2 := cell_of_row _ _ 2 _ _ _ hSz.1; have c0_3 := cell_of_row _ _ 3 _ _ _ hSz.1; have c0_4 := cell_of_row _ _ 4 _ _ _ hSz.1; have c0_5 := cell_of_row _ _ 5 _ _ _ hSz.1; have c0_6 := cell_of_row _ _ 6 _ _ _ hSz.1; have c0_7 := cell_of_row _ _ 7 _ _ _ hSz.1; simp at c0_0 c0_1 c0_2 c0_3 c0_4 c0_5 c0_6 c0_7; have eSz := hSz.2.1; have eS2z := hSz.2.2.1; have eDz := hSz.2.2.2.1; have eD2z := hSz.2.2.2.2.1; have ea1z := hSz.2.2.2.2.2.1; have ea2z := hSz.2.2.2.2.2.2.1; have ea3z := hSz.2.2.2.2.2.2.2.1; have eb1z := hSz.2.2.2.2.2.2.2.2.1; have eb2z := hSz.2.2.2.2.2.2.2.2.2.1; have eb3z := hSz.2.2.2.2.2.2.2.2.2.2; go_simp; try with_reducible rfl)⟩) hS0 ?_
  go_simp
  refine wpAnyH_take (i := 11) (v := ?_) rfl (by kernel_rfl) (by kernel_rfl) (by kernel_rfl) (fun _ _ _ h => h) (Or.inl ⟨by kernel_rfl, by (intro wz hSz; go_simp; try with_reducible rfl)⟩) hS0 ?_
  go_simp
  refine wpAnyH_take (i := 12) (v := ?_) rfl (by kernel_rfl) (by kernel_rfl) (by kernel_rfl) (fun _ _ _ h => h) (Or.inl ⟨by kernel_rfl, by (intro wz hSz; go_simp; try with_reducible rfl)⟩) hS0 ?_
  go_simp
  refine wpAnyH_take (i := 13) (v := ?_) rfl (by kernel_rfl) (by kernel_rfl) (by kernel_rfl) (fun _ _ _ h => h) (Or.inl ⟨by kernel_rfl, by (intro wz hSz; go_simp; try with_reducible rfl)⟩) hS0 ?_
  go_simp
  refine wpAnyH_done (by kernel_rfl) ?_ _
  have eS := hS0.2.1
  have eS2 := hS0.2.2.1
  have eD := hS0.2.2.2.1
  have eD2 := hS0.2.2.2.2.1
  have ea1 := hS0.2.2.2.2.2.1
  have ea2 := hS0.2.2.2.2.2.2.1
  have ea3 := hS0.2.2.2.2.2.2.2.1
  have eb1 := hS0.2.2.2.2.2.2.2.2.1
  have eb2 := hS0.2.2.2.2.2.2.2.2.2.1
  have eb3 := hS0.2.2.2.2.2.2.2.2.2.2
  go_upto_region 6 with fail
  refine wp_region_held_drew (S := fun y => y.heap[w.heap.size]? = some (.cells #[.int .i64 W, .int .i64 H, .slice al nl cl, .slice (some ⟨db, do_, none⟩) nd cd, .slice (some ⟨vb, vo, none⟩) nn cn, .slice ab nb cb, .slice (some ⟨xb, xo, none⟩) ns cx, .slice af nf cf] 29 (0, 0)) ∧ y.cell? ⟨db, do_ + i, none⟩ = some (.int .i64 d1) ∧ y.cell? ⟨db, do_ + k, none⟩ = some (.int .i64 d2) ∧ y.cell? ⟨vb, vo + i * 3, none⟩ = some (.int .i64 a1) ∧ y.cell? ⟨vb, vo + i * 3 + 1, none⟩ = some (.int .i64 a2) ∧ y.cell? ⟨vb, vo + i * 3 + 2, none⟩ = some (.int .i64 a3) ∧ y.cell? ⟨vb, vo + k * 3, none⟩ = some (.int .i64 b1) ∧ y.cell? ⟨vb, vo + k * 3 + 1, none⟩ = some (.int .i64 b2) ∧ y.cell? ⟨vb, vo + k * 3 + 2, none⟩ = some (.int .i64 b3)) (by kernel_rfl) (⟨hr1_0, eD, eD2, ea1, ea2, ea3, eb1, eb2, eb3⟩) (fun hS0 => ?_)
  obtain ⟨y2, hy2⟩ : ∃ y, y1.drew = y := ⟨_, rfl⟩
  have HU2 := Lib.hid (show Below w.heap.size w y2 by rw [← hy2]; exact HU1.out.drew)
  have hr2_0 : y2.heap[w.heap.size]? = some (.cells #[.int .i64 W, .int .i64 H, .slice al nl cl, .slice (some ⟨db, do_, none⟩) nd cd, .slice (some ⟨vb, vo, none⟩) nn cn, .slice ab nb cb, .slice (some ⟨xb, xo, none⟩) ns cx, .slice af nf cf] 29 (0, 0)) := by rw [← hy2]; exact hr1_0
  rw [hy2] at hS0 ⊢
  clear hy2
  refine wpAnyH_take (i := 0) (v := ?_) rfl (by kernel_rfl) (by kernel_rfl) (by kernel_rfl) (fun _ _ _ h => h) (Or.inl ⟨by kernel_rfl, by (intro wz hSz; go_simp; try with_reducible rfl)⟩) hS0 ?_
  go_simp
  refine wpAnyH_take (i := 1) (v := ?_) rfl (by kernel_rfl) (by kernel_rfl) (by kernel_rfl) (fun _ _ _ h => h) (Or.inl ⟨by kernel_rfl, by (intro wz hSz; have c0_0 := cell_of_row _ _ 0 _ _ _ hSz.1; have c0_1 := cell_of_row _ _ 1 _ _ _ hSz.1; have c0_2 := cell_of_row _ _ 2 _ _ _ hSz.1; have c0_3 := cell_of_row _ _ 3 _ _ _ hSz.1; have c0_4 := cell_of_row _ _ 4 _ _ _ hSz.1; have c0_5 := cell_of_row _ _ 5 _ _ _ hSz.1; have c0_6 := cell_of_row _ _ 6 _ _ _ hSz.1; have c0_7 := cell_of_row _ _ 7 _ _ _ hSz.1; simp at c0_0 c0_1 c0_2 c0_3 c0_4 c0_5 c0_6 c0_7; have eDz := hSz.2.1; have eD2z := hSz.2.2.1; have ea1z := hSz.2.2.2.1; have ea2z := hSz.2.2.2.2.1; have ea3z := hSz.2.2.2.2.2.1; have eb1z := hSz.2.2.2.2.2.2.1; have eb2z := hSz.2.2.2.2.2.2.2.1; have eb3z := hSz.2.2.2.2.2.2.2.2; go_simp; try with_reducible rfl)⟩) hS0 ?_
  go_simp
  refine wpAnyH_take (i := 2) (v := ?_) rfl (by kernel_rfl) (by kernel_rfl) (by kernel_rfl) (fun _ _ _ h => h) (Or.inl ⟨by kernel_rfl, by (intro wz hSz; go_simp; try with_reducible rfl)⟩) hS0 ?_
  go_simp
  refine wpAnyH_take (i := 3) (v := ?_) rfl (by kernel_rfl) (by kernel_rfl) (by kernel_rfl) (fun _ _ _ h => h) (Or.inl ⟨by kernel_rfl, by (intro wz hSz; go_simp; try with_reducible rfl)⟩) hS0 ?_
  go_simp
  refine wpAnyH_take (i := 4) (v := ?_) rfl (by kernel_rfl) (by kernel_rfl) (by kernel_rfl) (fun _ _ _ h => h) (Or.inl ⟨by kernel_rfl, by (intro wz hSz; have c0_0 := cell_of_row _ _ 0 _ _ _ hSz.1; have c0_1 := cell_of_row _ _ 1 _ _ _ hSz.1; have c0_2 := cell_of_row _ _ 2 _ _ _ hSz.1; have c0_3 := cell_of_row _ _ 3 _ _ _ hSz.1; have c0_4 := cell_of_row _ _ 4 _ _ _ hSz.1; have c0_5 := cell_of_row _ _ 5 _ _ _ hSz.1; have c0_6 := cell_of_row _ _ 6 _ _ _ hSz.1; have c0_7 := cell_of_row _ _ 7 _ _ _ hSz.1; simp at c0_0 c0_1 c0_2 c0_3 c0_4 c0_5 c0_6 c0_7; have eDz := hSz.2.1; have eD2z := hSz.2.2.1; have ea1z := hSz.2.2.2.1; have ea2z := hSz.2.2.2.2.1; have ea3z := hSz.2.2.2.2.2.1; have eb1z := hSz.2.2.2.2.2.2.1; have eb2z := hSz.2.2.2.2.2.2.2.1; have eb3z := hSz.2.2.2.2.2.2.2.2; go_simp; try with_reducible rfl)⟩) hS0 ?_
  go_simp
  refine wpAnyH_take (i := 5) (v := ?_) rfl (by kernel_rfl) (by kernel_rfl) (by kernel_rfl) (fun _ _ _ h => h) (Or.inl ⟨by kernel_rfl, by (intro wz hSz; go_simp; try with_reducible rfl)⟩) hS0 ?_
  go_simp
  refine wpAnyH_take (i := 6) (v := ?_) rfl (by kernel_rfl) (by kernel_rfl) (by kernel_rfl) (fun _ _ _ h => h) (Or.inl ⟨by kernel_rfl, by (intro wz hSz; have c0_0 := cell_of_row _ _ 0 _ _ _ hSz.1; have c0_1 := cell_of_row _ _ 1 _ _ _ hSz.1; have c0_2 := cell_of_row _ _ 2 _ _ _ hSz.1; have c0_3 := cell_of_row _ _ 3 _ _ _ hSz.1; have c0_4 := cell_of_row _ _ 4 _ _ _ hSz.1; have c0_5 := cell_of_row _ _ 5 _ _ _ hSz.1; have c0_6 := cell_of_row _ _ 6 _ _ _ hSz.1; have c0_7 := cell_of_row _ _ 7 _ _ _ hSz.1; simp at c0_0 c0_1 c0_2 c0_3 c0_4 c0_5 c0_6 c0_7; have eDz := hSz.2.1; have eD2z := hSz.2.2.1; have ea1z := hSz.2.2.2.1; have ea2z := hSz.2.2.2.2.1; have ea3z := hSz.2.2.2.2.2.1; have eb1z := hSz.2.2.2.2.2.2.1; have eb2z := hSz.2.2.2.2.2.2.2.1; have eb3z := hSz.2.2.2.2.2.2.2.2; go_simp; try with_reducible rfl)⟩) hS0 ?_
  go_simp
  refine wpAnyH_take (i := 7) (v := ?_) rfl (by kernel_rfl) (by kernel_rfl) (by kernel_rfl) (fun _ _ _ h => h) (Or.inl ⟨by kernel_rfl, by (intro wz hSz; go_simp; try with_reducible rfl)⟩) hS0 ?_
  go_simp
  refine wpAnyH_take (i := 8) (v := ?_) rfl (by kernel_rfl) (by kernel_rfl) (by kernel_rfl) (fun _ _ _ h => h) (Or.inl ⟨by kernel_rfl, by (intro wz hSz; go_simp; try with_reducible rfl)⟩) hS0 ?_
  go_simp
  refine wpAnyH_take (i := 9) (v := ?_) rfl (by kernel_rfl) (by kernel_rfl) (by kernel_rfl) (fun _ _ _ h => h) (Or.inl ⟨by kernel_rfl, by (intro wz hSz; have c0_0 := cell_of_row _ _ 0 _ _ _ hSz.1; have c0_1 := cell_of_row _ _ 1 _ _ _ hSz.1; have c0_2 := cell_of_row _ _ 2 _ _ _ hSz.1; have c0_3 := cell_of_row _ _ 3 _ _ _ hSz.1; have c0_4 := cell_of_row _ _ 4 _ _ _ hSz.1; have c0_5 := cell_of_row _ _ 5 _ _ _ hSz.1; have c0_6 := cell_of_row _ _ 6 _ _ _ hSz.1; have c0_7 := cell_of_row _ _ 7 _ _ _ hSz.1; simp at c0_0 c0_1 c0_2 c0_3 c0_4 c0_5 c0_6 c0_7; have eDz := hSz.2.1; have eD2z := hSz.2.2.1; have ea1z := hSz.2.2.2.1; have ea2z := hSz.2.2.2.2.1; have ea3z := hSz.2.2.2.2.2.1; have eb1z := hSz.2.2.2.2.2.2.1; have eb2z := hSz.2.2.2.2.2.2.2.1; have eb3z := hSz.2.2.2.2.2.2.2.2; go_simp; try with_reducible rfl)⟩) hS0 ?_
  go_simp
  refine wpAnyH_ready (rs := [10]) (by kernel_rfl) (by simp) ?_
  refine AllReadyH.cons rfl (fun K hK => ?_) AllReadyH.nil
  go_simp
  go_wp2_with (go_at_call 53; refine (HSB.out _).mono ?_; rintro e ww ⟨rfl, rfl⟩)
  refine hK.out _ _ (hS0) (fun hS2q10 => ?_)
  clear hK K
  refine wpAnyH_take (i := 11) (v := ?_) rfl (by kernel_rfl) (by kernel_rfl) (by kernel_rfl) (fun _ _ _ h => h) (Or.inl ⟨by kernel_rfl, by (intro wz hSz; go_simp; try with_reducible rfl)⟩) hS2q10 ?_
  go_simp
  refine wpAnyH_done (by kernel_rfl) ?_ _
  have eD := hS2q10.2.1
  have eD2 := hS2q10.2.2.1
  have ea1 := hS2q10.2.2.2.1
  have ea2 := hS2q10.2.2.2.2.1
  have ea3 := hS2q10.2.2.2.2.2.1
  have eb1 := hS2q10.2.2.2.2.2.2.1
  have eb2 := hS2q10.2.2.2.2.2.2.2.1
  have eb3 := hS2q10.2.2.2.2.2.2.2.2
  go_upto_region 9 with fail
  refine wp_region_held_drew (S := fun y => y.heap[w.heap.size]? = some (.cells #[.int .i64 W, .int .i64 H, .slice al nl cl, .slice (some ⟨db, do_, none⟩) nd cd, .slice (some ⟨vb, vo, none⟩) nn cn, .slice ab nb cb, .slice (some ⟨xb, xo, none⟩) ns cx, .slice af nf cf] 29 (0, 0)) ∧ y.cell? ⟨vb, vo + i * 3, none⟩ = some (.int .i64 a1) ∧ y.cell? ⟨vb, vo + i * 3 + 1, none⟩ = some (.int .i64 a2) ∧ y.cell? ⟨vb, vo + i * 3 + 2, none⟩ = some (.int .i64 a3) ∧ y.cell? ⟨vb, vo + k * 3, none⟩ = some (.int .i64 b1) ∧ y.cell? ⟨vb, vo + k * 3 + 1, none⟩ = some (.int .i64 b2) ∧ y.cell? ⟨vb, vo + k * 3 + 2, none⟩ = some (.int .i64 b3)) (by kernel_rfl) (⟨hr2_0, ea1, ea2, ea3, eb1, eb2, eb3⟩) (fun hS0 => ?_)
  obtain ⟨y3, hy3⟩ : ∃ y, y2.drew = y := ⟨_, rfl⟩
  have HU3 := Lib.hid (show Below w.heap.size w y3 by rw [← hy3]; exact HU2.out.drew)
  have hr3_0 : y3.heap[w.heap.size]? = some (.cells #[.int .i64 W, .int .i64 H, .slice al nl cl, .slice (some ⟨db, do_, none⟩) nd cd, .slice (some ⟨vb, vo, none⟩) nn cn, .slice ab nb cb, .slice (some ⟨xb, xo, none⟩) ns cx, .slice af nf cf] 29 (0, 0)) := by rw [← hy3]; exact hr2_0
  rw [hy3] at hS0 ⊢
  clear hy3
  refine wpAnyH_take (i := 0) (v := ?_) rfl (by kernel_rfl) (by kernel_rfl) (by kernel_rfl) (fun _ _ _ h => h) (Or.inl ⟨by kernel_rfl, by (intro wz hSz; go_simp; try with_reducible rfl)⟩) hS0 ?_
  go_simp
  refine wpAnyH_take (i := 1) (v := ?_) rfl (by kernel_rfl) (by kernel_rfl) (by kernel_rfl) (fun _ _ _ h => h) (Or.inl ⟨by kernel_rfl, by (intro wz hSz; have c0_0 := cell_of_row _ _ 0 _ _ _ hSz.1; have c0_1 := cell_of_row _ _ 1 _ _ _ hSz.1; have c0_2 := cell_of_row _ _ 2 _ _ _ hSz.1; have c0_3 := cell_of_row _ _ 3 _ _ _ hSz.1; have c0_4 := cell_of_row _ _ 4 _ _ _ hSz.1; have c0_5 := cell_of_row _ _ 5 _ _ _ hSz.1; have c0_6 := cell_of_row _ _ 6 _ _ _ hSz.1; have c0_7 := cell_of_row _ _ 7 _ _ _ hSz.1; simp at c0_0 c0_1 c0_2 c0_3 c0_4 c0_5 c0_6 c0_7; have ea1z := hSz.2.1; have ea2z := hSz.2.2.1; have ea3z := hSz.2.2.2.1; have eb1z := hSz.2.2.2.2.1; have eb2z := hSz.2.2.2.2.2.1; have eb3z := hSz.2.2.2.2.2.2; go_simp; try with_reducible rfl)⟩) hS0 ?_
  go_simp
  refine wpAnyH_take (i := 2) (v := ?_) rfl (by kernel_rfl) (by kernel_rfl) (by kernel_rfl) (fun _ _ _ h => h) (Or.inl ⟨by kernel_rfl, by (intro wz hSz; go_simp; try with_reducible rfl)⟩) hS0 ?_
  go_simp
  refine wpAnyH_take (i := 3) (v := ?_) rfl (by kernel_rfl) (by kernel_rfl) (by kernel_rfl) (fun _ _ _ h => h) (Or.inl ⟨by kernel_rfl, by (intro wz hSz; go_simp; try with_reducible rfl)⟩) hS0 ?_
  go_simp
  refine wpAnyH_take (i := 4) (v := ?_) rfl (by kernel_rfl) (by kernel_rfl) (by kernel_rfl) (fun _ _ _ h => h) (Or.inl ⟨by kernel_rfl, by (intro wz hSz; have c0_0 := cell_of_row _ _ 0 _ _ _ hSz.1; have c0_1 := cell_of_row _ _ 1 _ _ _ hSz.1; have c0_2 := cell_of_row _ _ 2 _ _ _ hSz.1; have c0_3 := cell_of_row _ _ 3 _ _ _ hSz.1; have c0_4 := cell_of_row _ _ 4 _ _ _ hSz.1; have c0_5 := cell_of_row _ _ 5 _ _ _ hSz.1; have c0_6 := cell_of_row _ _ 6 _ _ _ hSz.1; have c0_7 := cell_of_row _ _ 7 _ _ _ hSz.1; simp at c0_0 c0_1 c0_2 c0_3 c0_4 c0_5 c0_6 c0_7; have ea1z := hSz.2.1; have ea2z := hSz.2.2.1; have ea3z := hSz.2.2.2.1; have eb1z := hSz.2.2.2.2.1; have eb2z := hSz.2.2.2.2.2.1; have eb3z := hSz.2.2.2.2.2.2; go_simp; try with_reducible rfl)⟩) hS0 ?_
  go_simp
  refine wpAnyH_take (i := 5) (v := ?_) rfl (by kernel_rfl) (by kernel_rfl) (by kernel_rfl) (fun _ _ _ h => h) (Or.inl ⟨by kernel_rfl, by (intro wz hSz; go_simp; try with_reducible rfl)⟩) hS0 ?_
  go_simp
  refine wpAnyH_take (i := 6) (v := ?_) rfl (by kernel_rfl) (by kernel_rfl) (by kernel_rfl) (fun _ _ _ h => h) (Or.inl ⟨by kernel_rfl, by (intro wz hSz; have c0_0 := cell_of_row _ _ 0 _ _ _ hSz.1; have c0_1 := cell_of_row _ _ 1 _ _ _ hSz.1; have c0_2 := cell_of_row _ _ 2 _ _ _ hSz.1; have c0_3 := cell_of_row _ _ 3 _ _ _ hSz.1; have c0_4 := cell_of_row _ _ 4 _ _ _ hSz.1; have c0_5 := cell_of_row _ _ 5 _ _ _ hSz.1; have c0_6 := cell_of_row _ _ 6 _ _ _ hSz.1; have c0_7 := cell_of_row _ _ 7 _ _ _ hSz.1; simp at c0_0 c0_1 c0_2 c0_3 c0_4 c0_5 c0_6 c0_7; have ea1z := hSz.2.1; have ea2z := hSz.2.2.1; have ea3z := hSz.2.2.2.1; have eb1z := hSz.2.2.2.2.1; have eb2z := hSz.2.2.2.2.2.1; have eb3z := hSz.2.2.2.2.2.2; go_simp; try with_reducible rfl)⟩) hS0 ?_
  go_simp
  refine wpAnyH_take (i := 7) (v := ?_) rfl (by kernel_rfl) (by kernel_rfl) (by kernel_rfl) (fun _ _ _ h => h) (Or.inl ⟨by kernel_rfl, by (intro wz hSz; go_simp; try with_reducible rfl)⟩) hS0 ?_
  go_simp
  refine wpAnyH_take (i := 8) (v := ?_) rfl (by kernel_rfl) (by kernel_rfl) (by kernel_rfl) (fun _ _ _ h => h) (Or.inl ⟨by kernel_rfl, by (intro wz hSz; go_simp; try with_reducible rfl)⟩) hS0 ?_
  go_simp
  refine wpAnyH_take (i := 9) (v := ?_) rfl (by kernel_rfl) (by kernel_rfl) (by kernel_rfl) (fun _ _ _ h => h) (Or.inl ⟨by kernel_rfl, by (intro wz hSz; have c0_0 := cell_of_row _ _ 0 _ _ _ hSz.1; have c0_1 := cell_of_row _ _ 1 _ _ _ hSz.1; have c0_2 := cell_of_row _ _ 2 _ _ _ hSz.1; have c0_3 := cell_of_row _ _ 3 _ _ _ hSz.1; have c0_4 := cell_of_row _ _ 4 _ _ _ hSz.1; have c0_5 := cell_of_row _ _ 5 _ _ _ hSz.1; have c0_6 := cell_of_row _ _ 6 _ _ _ hSz.1; have c0_7 := cell_of_row _ _ 7 _ _ _ hSz.1; simp at c0_0 c0_1 c0_2 c0_3 c0_4 c0_5 c0_6 c0_7; have ea1z := hSz.2.1; have ea2z := hSz.2.2.1; have ea3z := hSz.2.2.2.1; have eb1z := hSz.2.2.2.2.1; have eb2z := hSz.2.2.2.2.2.1; have eb3z := hSz.2.2.2.2.2.2; go_simp; try with_reducible rfl)⟩) hS0 ?_
  go_simp
  refine wpAnyH_take (i := 12) (v := ?_) rfl (by kernel_rfl) (by kernel_rfl) (by kernel_rfl) (fun _ _ _ h => h) (Or.inl ⟨by kernel_rfl, by (intro wz hSz; go_simp; try with_reducible rfl)⟩) hS0 ?_
  go_simp
  refine wpAnyH_ready (rs := [10]) (by kernel_rfl) (by simp) ?_
  refine AllReadyH.cons rfl (fun K hK => ?_) AllReadyH.nil
  go_simp
  go_wp2_with (go_at_call 55; refine (hT _).mono ?_; rintro e y4 ⟨rfl, hb4⟩)
  have hr4_0 := (hb4.block _ (lt_heap hr3_0)).trans hr3_0
  have HU4 := Lib.hid (HU3.out.trans (hb4.mono HU3.out.size))
  refine hK.out _ _ (⟨(hb4.block _ (lt_heap hS0.1)).trans hS0.1, (hb4.cell (p := ⟨vb, vo + i * 3, none⟩) (World.block_lt_of_cell? _ _ (hS0.2.1))).trans hS0.2.1, (hb4.cell (p := ⟨vb, vo + i * 3 + 1, none⟩) (World.block_lt_of_cell? _ _ (hS0.2.2.1))).trans hS0.2.2.1, (hb4.cell (p := ⟨vb, vo + i * 3 + 2, none⟩) (World.block_lt_of_cell? _ _ (hS0.2.2.2.1))).trans hS0.2.2.2.1, (hb4.cell (p := ⟨vb, vo + k * 3, none⟩) (World.block_lt_of_cell? _ _ (hS0.2.2.2.2.1))).trans hS0.2.2.2.2.1, (hb4.cell (p := ⟨vb, vo + k * 3 + 1, none⟩) (World.block_lt_of_cell? _ _ (hS0.2.2.2.2.2.1))).trans hS0.2.2.2.2.2.1, (hb4.cell (p := ⟨vb, vo + k * 3 + 2, none⟩) (World.block_lt_of_cell? _ _ (hS0.2.2.2.2.2.2))).trans hS0.2.2.2.2.2.2⟩) (fun hS4c => ?_)
  clear hK K
  refine wpAnyH_ready (rs := [11]) (by kernel_rfl) (by simp) ?_
  refine AllReadyH.cons rfl (fun K hK => ?_) AllReadyH.nil
  go_simp
  go_wp2_with (go_at_call 54; refine (Wa.refUnit_any _ _).mono ?_; rintro e ww ⟨rfl, rfl⟩)
  refine hK.out _ _ (hS4c) (fun hS4q11 => ?_)
  clear hK K
  refine wpAnyH_ready (rs := [13]) (by kernel_rfl) (by simp) ?_
  refine AllReadyH.cons rfl (fun K hK => ?_) AllReadyH.nil
  go_simp
  go_wp2_with (go_at_call 31; refine (Wa.refMul_any _ _ _).mono ?_; rintro e ww ⟨rfl, rfl⟩)
  refine hK.out _ _ (hS4q11) (fun hS4q13 => ?_)
  clear hK K
  refine wpAnyH_ready (rs := [14]) (by kernel_rfl) (by simp) ?_
  refine AllReadyH.cons rfl (fun K hK => ?_) AllReadyH.nil
  go_simp
  go_wp2_with (go_at_call 36; refine (Wa.refAdd_any _ _ _).mono ?_; rintro e ww ⟨rfl, rfl⟩)
  refine hK.out _ _ (hS4q13) (fun hS4q14 => ?_)
  clear hK K
  refine wpAnyH_ready (rs := [15]) (by kernel_rfl) (by simp) ?_
  refine AllReadyH.cons rfl (fun K hK => ?_) AllReadyH.nil
  go_simp
  go_wp2_with (go_at_call 35; refine (Wa.refDiv_any _ _ _).mono ?_; rintro e ww ⟨rfl, rfl⟩)
  refine hK.out _ _ (hS4q14) (fun hS4q15 => ?_)
  clear hK K
  refine wpAnyH_ready (rs := [16]) (by kernel_rfl) (by simp) ?_
  refine AllReadyH.cons rfl (fun K hK => ?_) AllReadyH.nil
  go_simp
  go_wp2_with (go_at_call 31; refine (Wa.refMul_any _ _ _).mono ?_; rintro e ww ⟨rfl, rfl⟩)
  refine hK.out _ _ (hS4q15) (fun hS4q16 => ?_)
  clear hK K
  refine wpAnyH_take (i := 17) (v := ?_) rfl (by kernel_rfl) (by kernel_rfl) (by kernel_rfl) (fun _ _ _ h => h) (Or.inl ⟨by kernel_rfl, by (intro wz hSz; go_simp; try with_reducible rfl)⟩) hS4q16 ?_
  go_simp
  refine wpAnyH_done (by kernel_rfl) ?_ _
  go_wp2
  go_ret
  exact ⟨by rw [HAM.out]; rfl, HU4.out⟩

set_option maxHeartbeats 4000000 in
set_option maxRecDepth 100000 in
theorem dalike_pos (W H : Int) (al ab af : Option Addr) (cl cd cn cb cx cf nl nd nn nb ns nf xb xo db do_ vb vo : Nat) (w : World) (i k : Nat) (hi : i < ns) (hk : k < ns) (s1 s2 : Int) (eS : w.cell? ⟨xb, xo + i, none⟩ = some (.int .i64 s1)) (eS2 : w.cell? ⟨xb, xo + k, none⟩ = some (.int .i64 s2)) (hs : 0 ≤ s1) (hs2 : 0 ≤ s2) (hnd : nd = ns) (hnn : nn = ns) (d1 d2 : Int) (hsg : ¬ Pl.sub d1 d2 < 0) (eD : w.cell? ⟨db, do_ + i, none⟩ = some (.int .i64 d1)) (eD2 : w.cell? ⟨db, do_ + k, none⟩ = some (.int .i64 d2)) (a1 a2 a3 : Int) (ea1 : w.cell? ⟨vb, vo + i * 3, none⟩ = some (.int .i64 a1)) (ea2 : w.cell? ⟨vb, vo + i * 3 + 1, none⟩ = some (.int .i64 a2)) (ea3 : w.cell? ⟨vb, vo + i * 3 + 2, none⟩ = some (.int .i64 a3)) (b1 b2 b3 : Int) (eb1 : w.cell? ⟨vb, vo + k * 3, none⟩ = some (.int .i64 b1)) (eb2 : w.cell? ⟨vb, vo + k * 3 + 1, none⟩ = some (.int .i64 b2)) (eb3 : w.cell? ⟨vb, vo + k * 3 + 2, none⟩ = some (.int .i64 b3)) (z : Int) (hT : ∀ W : World, Calls Tryd.prog 55 #[.agg #[.int .i64 a1, .int .i64 a2, .int .i64 a3], .agg #[.int .i64 b1, .int .i64 b2, .int .i64 b3]] W fun e' w' => e' = .returned (.int .i64 z) ∧ Below W.heap.size W w') : Calls Tryd.prog 34 #[.agg #[.int .i64 W, .int .i64 H, .slice al nl cl, .slice (some ⟨db, do_, none⟩) nd cd, .slice (some ⟨vb, vo, none⟩) nn cn, .slice ab nb cb, .slice (some ⟨xb, xo, none⟩) ns cx, .slice af nf cf], .int .i64 i, .int .i64 k] w fun e' w' => e' = .returned (.int .i64 (Pl.mul (Pl.unit z) (lsn 262144 (Pl.amount (Pl.sub d1 d2))))) ∧ Below w.heap.size w w' := by
  have hi' : (i : Int) < ns := by omega
  have hk' : (k : Int) < ns := by omega
  have ht1 : decide (0 ≤ s1) = true := decide_eq_true hs
  have ht2 : decide (0 ≤ s2) = true := decide_eq_true hs2
  clear hs hs2
  have hid : (i : Int) < nd := by omega
  have hkd : (k : Int) < nd := by omega
  have hin : (i : Int) < nn := by omega
  have hkn : (k : Int) < nn := by omega
  clear hnd hnn
  obtain ⟨ap, hap⟩ : ∃ t, t = Pl.sub d1 d2 := ⟨_, rfl⟩
  rw [← hap] at hsg
  have hbd := sub_bd d1 d2
  rw [← hap] at hbd
  have HAM := Lib.hid (show Pl.amount (Pl.sub d1 d2) = ap by rw [amount_sub, ← hap, if_neg hsg])
  have HSB := Lib.hid (show ∀ W : World, Calls Tryd.prog 53 #[.int .i64 d1, .int .i64 d2] W (fun e' w' => e' = .returned (.int .i64 ap) ∧ W = w') from fun W => by rw [hap]; exact Wa.refSub_any _ _ W)
  clear hap
  have dsg : decide (ap < 0) = false := decide_eq_false hsg
  clear hsg
  go_enter Tryd.func34, Tryd.ntmps34
  go_upto_region 1 with fail
  have hR := Au.rows1 w (.cells #[.int .i64 W, .int .i64 H, .slice al nl cl, .slice (some ⟨db, do_, none⟩) nd cd, .slice (some ⟨vb, vo, none⟩) nn cn, .slice ab nb cb, .slice (some ⟨xb, xo, none⟩) ns cx, .slice af nf cf] 29)
  have HUx := Ve.below_n1 w (.cells #[.int .i64 W, .int .i64 H, .slice al nl cl, .slice (some ⟨db, do_, none⟩) nd cd, .slice (some ⟨vb, vo, none⟩) nn cn, .slice ab nb cb, .slice (some ⟨xb, xo, none⟩) ns cx, .slice af nf cf] 29)
  obtain ⟨y0, hy0⟩ : ∃ y0, w.alloc (.cells #[.int .i64 W, .int .i64 H, .slice al nl cl, .slice (some ⟨db, do_, none⟩) nd cd, .slice (some ⟨vb, vo, none⟩) nn cn, .slice ab nb cb, .slice (some ⟨xb, xo, none⟩) ns cx, .slice af nf cf] 29) = y0 := ⟨_, rfl⟩
  rw [hy0] at hR HUx ⊢
  clear hy0
  have HU0 := Lib.hid HUx
  clear HUx
  have hr0_0 := hR
  clear hR
  replace eS := (HU0.out.cell (p := ⟨xb, xo + i, none⟩) (World.block_lt_of_cell? _ _ eS)).trans eS
  replace eS2 := (HU0.out.cell (p := ⟨xb, xo + k, none⟩) (World.block_lt_of_cell? _ _ eS2)).trans eS2
  replace eD := (HU0.out.cell (p := ⟨db, do_ + i, none⟩) (World.block_lt_of_cell? _ _ eD)).trans eD
  replace eD2 := (HU0.out.cell (p := ⟨db, do_ + k, none⟩) (World.block_lt_of_cell? _ _ eD2)).trans eD2
  replace ea1 := (HU0.out.cell (p := ⟨vb, vo + i * 3, none⟩) (World.block_lt_of_cell? _ _ ea1)).trans ea1
  replace ea2 := (HU0.out.cell (p := ⟨vb, vo + i * 3 + 1, none⟩) (World.block_lt_of_cell? _ _ ea2)).trans ea2
  replace ea3 := (HU0.out.cell (p := ⟨vb, vo + i * 3 + 2, none⟩) (World.block_lt_of_cell? _ _ ea3)).trans ea3
  replace eb1 := (HU0.out.cell (p := ⟨vb, vo + k * 3, none⟩) (World.block_lt_of_cell? _ _ eb1)).trans eb1
  replace eb2 := (HU0.out.cell (p := ⟨vb, vo + k * 3 + 1, none⟩) (World.block_lt_of_cell? _ _ eb2)).trans eb2
  replace eb3 := (HU0.out.cell (p := ⟨vb, vo + k * 3 + 2, none⟩) (World.block_lt_of_cell? _ _ eb3)).trans eb3
  go_upto_region 1 with fail
  refine wp_region_held_drew (S := fun y => y.heap[w.heap.size]? = some (.cells #[.int .i64 W, .int .i64 H, .slice al nl cl, .slice (some ⟨db, do_, none⟩) nd cd, .slice (some ⟨vb, vo, none⟩) nn cn, .slice ab nb cb, .slice (some ⟨xb, xo, none⟩) ns cx, .slice af nf cf] 29 (0, 0)) ∧ y.cell? ⟨xb, xo + i, none⟩ = some (.int .i64 s1) ∧ y.cell? ⟨xb, xo + k, none⟩ = some (.int .i64 s2) ∧ y.cell? ⟨db, do_ + i, none⟩ = some (.int .i64 d1) ∧ y.cell? ⟨db, do_ + k, none⟩ = some (.int .i64 d2) ∧ y.cell? ⟨vb, vo + i * 3, none⟩ = some (.int .i64 a1) ∧ y.cell? ⟨vb, vo + i * 3 + 1, none⟩ = some (.int .i64 a2) ∧ y.cell? ⟨vb, vo + i * 3 + 2, none⟩ = some (.int .i64 a3) ∧ y.cell? ⟨vb, vo + k * 3, none⟩ = some (.int .i64 b1) ∧ y.cell? ⟨vb, vo + k * 3 + 1, none⟩ = some (.int .i64 b2) ∧ y.cell? ⟨vb, vo + k * 3 + 2, none⟩ = some (.int .i64 b3)) (by kernel_rfl) (⟨hr0_0, eS, eS2, eD, eD2, ea1, ea2, ea3, eb1, eb2, eb3⟩) (fun hS0 => ?_)
  obtain ⟨y1, hy1⟩ : ∃ y, y0.drew = y := ⟨_, rfl⟩
  have HU1 := Lib.hid (show Below w.heap.size w y1 by rw [← hy1]; exact HU0.out.drew)
  have hr1_0 : y1.heap[w.heap.size]? = some (.cells #[.int .i64 W, .int .i64 H, .slice al nl cl, .slice (some ⟨db, do_, none⟩) nd cd, .slice (some ⟨vb, vo, none⟩) nn cn, .slice ab nb cb, .slice (some ⟨xb, xo, none⟩) ns cx, .slice af nf cf] 29 (0, 0)) := by rw [← hy1]; exact hr0_0
  rw [hy1] at hS0 ⊢
  clear hy1
  refine wpAnyH_take (i := 0) (v := ?_) rfl (by kernel_rfl) (by kernel_rfl) (by kernel_rfl) (fun _ _ _ h => h) (Or.inl ⟨by kernel_rfl, by (intro wz hSz; go_simp; try with_reducible rfl)⟩) hS0 ?_
  go_simp
  refine wpAnyH_take (i := 1) (v := ?_) rfl (by kernel_rfl) (by kernel_rfl) (by kernel_rfl) (fun _ _ _ h => h) (Or.inl ⟨by kernel_rfl, by (intro wz hSz; have c0_0 := cell_of_row _ _ 0 _ _ _ hSz.1; have c0_1 := cell_of_row _ _ 1 _ _ _ hSz.1; have c0_2 := cell_of_row _ _ 2 _ _ _ hSz.1; have c0_3 := cell_of_row _ _ 3 _ _ _ hSz.1; have c0_4 := cell_of_row _ _ 4 _ _ _ hSz.1; have c0_5 := cell_of_row _ _ 5 _ _ _ hSz.1; have c0_6 := cell_of_row _ _ 6 _ _ _ hSz.1; have c0_7 := cell_of_row _ _ 7 _ _ _ hSz.1; simp at c0_0 c0_1 c0_2 c0_3 c0_4 c0_5 c0_6 c0_7; have eSz := hSz.2.1; have eS2z := hSz.2.2.1; have eDz := hSz.2.2.2.1; have eD2z := hSz.2.2.2.2.1; have ea1z := hSz.2.2.2.2.2.1; have ea2z := hSz.2.2.2.2.2.2.1; have ea3z := hSz.2.2.2.2.2.2.2.1; have eb1z := hSz.2.2.2.2.2.2.2.2.1; have eb2z := hSz.2.2.2.2.2.2.2.2.2.1; have eb3z := hSz.2.2.2.2.2.2.2.2.2.2; go_simp; try with_reducible rfl)⟩) hS0 ?_
  go_simp
  refine wpAnyH_take (i := 2) (v := ?_) rfl (by kernel_rfl) (by kernel_rfl) (by kernel_rfl) (fun _ _ _ h => h) (Or.inl ⟨by kernel_rfl, by (intro wz hSz; go_simp; try with_reducible rfl)⟩) hS0 ?_
  go_simp
  refine wpAnyH_take (i := 3) (v := ?_) rfl (by kernel_rfl) (by kernel_rfl) (by kernel_rfl) (fun _ _ _ h => h) (Or.inl ⟨by kernel_rfl, by (intro wz hSz; go_simp; try with_reducible rfl)⟩) hS0 ?_
  go_simp
  refine wpAnyH_take (i := 4) (v := ?_) rfl (by kernel_rfl) (by kernel_rfl) (by kernel_rfl) (fun _ _ _ h => h) (Or.inl ⟨by kernel_rfl, by (intro wz hSz; have c0_0 := cell_of_row _ _ 0 _ _ _ hSz.1; have c0_1 := cell_of_row _ _ 1 _ _ _ hSz.1; have c0_2 := cell_of_row _ _ 2 _ _ _ hSz.1; have c0_3 := cell_of_row _ _ 3 _ _ _ hSz.1; have c0_4 := cell_of_row _ _ 4 _ _ _ hSz.1; have c0_5 := cell_of_row _ _ 5 _ _ _ hSz.1; have c0_6 := cell_of_row _ _ 6 _ _ _ hSz.1; have c0_7 := cell_of_row _ _ 7 _ _ _ hSz.1; simp at c0_0 c0_1 c0_2 c0_3 c0_4 c0_5 c0_6 c0_7; have eSz := hSz.2.1; have eS2z := hSz.2.2.1; have eDz := hSz.2.2.2.1; have eD2z := hSz.2.2.2.2.1; have ea1z := hSz.2.2.2.2.2.1; have ea2z := hSz.2.2.2.2.2.2.1; have ea3z := hSz.2.2.2.2.2.2.2.1; have eb1z := hSz.2.2.2.2.2.2.2.2.1; have eb2z := hSz.2.2.2.2.2.2.2.2.2.1; have eb3z := hSz.2.2.2.2.2.2.2.2.2.2; go_simp; try with_reducible rfl)⟩) hS0 ?_
  go_simp
  refine wpAnyH_take (i := 5) (v := ?_) rfl (by kernel_rfl) (by kernel_rfl) (by kernel_rfl) (fun _ _ _ h => h) (Or.inl ⟨by kernel_rfl, by (intro wz hSz; go_simp; try with_reducible rfl)⟩) hS0 ?_
  go_simp
  refine wpAnyH_take (i := 6) (v := ?_) rfl (by kernel_rfl) (by kernel_rfl) (by kernel_rfl) (fun _ _ _ h => h) (Or.inl ⟨by kernel_rfl, by (intro wz hSz; go_simp; try with_reducible rfl)⟩) hS0 ?_
  go_simp
  refine wpAnyH_take (i := 7) (v := ?_) rfl (by kernel_rfl) (by kernel_rfl) (by kernel_rfl) (fun _ _ _ h => h) (Or.inl ⟨by kernel_rfl, by (intro wz hSz; have c0_0 := cell_of_row _ _ 0 _ _ _ hSz.1; have c0_1 := cell_of_row _ _ 1 _ _ _ hSz.1; have c0_2 := cell_of_row _ _ 2 _ _ _ hSz.1; have c0_3 := cell_of_row _ _ 3 _ _ _ hSz.1; have c0_4 := cell_of_row _ _ 4 _ _ _ hSz.1; have c0_5 := cell_of_row _ _ 5 _ _ _ hSz.1; have c0_6 := cell_of_row _ _ 6 _ _ _ hSz.1; have c0_7 := cell_of_row _ _ 7 _ _ _ hSz.1; simp at c0_0 c0_1 c0_2 c0_3 c0_4 c0_5 c0_6 c0_7; have eSz := hSz.2.1; have eS2z := hSz.2.2.1; have eDz := hSz.2.2.2.1; have eD2z := hSz.2.2.2.2.1; have ea1z := hSz.2.2.2.2.2.1; have ea2z := hSz.2.2.2.2.2.2.1; have ea3z := hSz.2.2.2.2.2.2.2.1; have eb1z := hSz.2.2.2.2.2.2.2.2.1; have eb2z := hSz.2.2.2.2.2.2.2.2.2.1; have eb3z := hSz.2.2.2.2.2.2.2.2.2.2; go_simp; try with_reducible rfl)⟩) hS0 ?_
  go_simp
  refine wpAnyH_take (i := 8) (v := ?_) rfl (by kernel_rfl) (by kernel_rfl) (by kernel_rfl) (fun _ _ _ h => h) (Or.inl ⟨by kernel_rfl, by (intro wz hSz; go_simp; try with_reducible rfl)⟩) hS0 ?_
  go_simp
  refine wpAnyH_take (i := 9) (v := ?_) rfl (by kernel_rfl) (by kernel_rfl) (by kernel_rfl) (fun _ _ _ h => h) (Or.inl ⟨by kernel_rfl, by (intro wz hSz; go_simp; try with_reducible rfl)⟩) hS0 ?_
  go_simp
  refine wpAnyH_take (i := 10) (v := ?_) rfl (by kernel_rfl) (by kernel_rfl) (by kernel_rfl) (fun _ _ _ h => h) (Or.inl ⟨by kernel_rfl, by (intro wz hSz; have c0_0 := cell_of_row _ _ 0 _ _ _ hSz.1; have c0_1 := cell_of_row _ _ 1 _ _ _ hSz.1; have c0_2 := cell_of_row _ _ 2 _ _ _ hSz.1; have c0_3 := cell_of_row _ _ 3 _ _ _ hSz.1; have c0_4 := cell_of_row _ _ 4 _ _ _ hSz.1; have c0_5 := cell_of_row _ _ 5 _ _ _ hSz.1; have c0_6 := cell_of_row _ _ 6 _ _ _ hSz.1; have c0_7 := cell_of_row _ _ 7 _ _ _ hSz.1; simp at c0_0 c0_1 c0_2 c0_3 c0_4 c0_5 c0_6 c0_7; have eSz := hSz.2.1; have eS2z := hSz.2.2.1; have eDz := hSz.2.2.2.1; have eD2z := hSz.2.2.2.2.1; have ea1z := hSz.2.2.2.2.2.1; have ea2z := hSz.2.2.2.2.2.2.1; have ea3z := hSz.2.2.2.2.2.2.2.1; have eb1z := hSz.2.2.2.2.2.2.2.2.1; have eb2z := hSz.2.2.2.2.2.2.2.2.2.1; have eb3z := hSz.2.2.2.2.2.2.2.2.2.2; go_simp; try with_reducible rfl)⟩) hS0 ?_
  go_simp
  refine wpAnyH_take (i := 11) (v := ?_) rfl (by kernel_rfl) (by kernel_rfl) (by kernel_rfl) (fun _ _ _ h => h) (Or.inl ⟨by kernel_rfl, by (intro wz hSz; go_simp; try with_reducible rfl)⟩) hS0 ?_
  go_simp
  refine wpAnyH_take (i := 12) (v := ?_) rfl (by kernel_rfl) (by kernel_rfl) (by kernel_rfl) (fun _ _ _ h => h) (Or.inl ⟨by kernel_rfl, by (intro wz hSz; go_simp; try with_reducible rfl)⟩) hS0 ?_
  go_simp
  refine wpAnyH_take (i := 13) (v := ?_) rfl (by kernel_rfl) (by kernel_rfl) (by kernel_rfl) (fun _ _ _ h => h) (Or.inl ⟨by kernel_rfl, by (intro wz hSz; go_simp; try with_reducible rfl)⟩) hS0 ?_
  go_simp
  refine wpAnyH_done (by kernel_rfl) ?_ _
  have eS := hS0.2.1
  have eS2 := hS0.2.2.1
  have eD := hS0.2.2.2.1
  have eD2 := hS0.2.2.2.2.1
  have ea1 := hS0.2.2.2.2.2.1
  have ea2 := hS0.2.2.2.2.2.2.1
  have ea3 := hS0.2.2.2.2.2.2.2.1
  have eb1 := hS0.2.2.2.2.2.2.2.2.1
  have eb2 := hS0.2.2.2.2.2.2.2.2.2.1
  have eb3 := hS0.2.2.2.2.2.2.2.2.2.2
  go_upto_region 6 with fail
  refine wp_region_held_drew (S := fun y => y.heap[w.heap.size]? = some (.cells #[.int .i64 W, .int .i64 H, .slice al nl cl, .slice (some ⟨db, do_, none⟩) nd cd, .slice (some ⟨vb, vo, none⟩) nn cn, .slice ab nb cb, .slice (some ⟨xb, xo, none⟩) ns cx, .slice af nf cf] 29 (0, 0)) ∧ y.cell? ⟨db, do_ + i, none⟩ = some (.int .i64 d1) ∧ y.cell? ⟨db, do_ + k, none⟩ = some (.int .i64 d2) ∧ y.cell? ⟨vb, vo + i * 3, none⟩ = some (.int .i64 a1) ∧ y.cell? ⟨vb, vo + i * 3 + 1, none⟩ = some (.int .i64 a2) ∧ y.cell? ⟨vb, vo + i * 3 + 2, none⟩ = some (.int .i64 a3) ∧ y.cell? ⟨vb, vo + k * 3, none⟩ = some (.int .i64 b1) ∧ y.cell? ⟨vb, vo + k * 3 + 1, none⟩ = some (.int .i64 b2) ∧ y.cell? ⟨vb, vo + k * 3 + 2, none⟩ = some (.int .i64 b3)) (by kernel_rfl) (⟨hr1_0, eD, eD2, ea1, ea2, ea3, eb1, eb2, eb3⟩) (fun hS0 => ?_)
  obtain ⟨y2, hy2⟩ : ∃ y, y1.drew = y := ⟨_, rfl⟩
  have HU2 := Lib.hid (show Below w.heap.size w y2 by rw [← hy2]; exact HU1.out.drew)
  have hr2_0 : y2.heap[w.heap.size]? = some (.cells #[.int .i64 W, .int .i64 H, .slice al nl cl, .slice (some ⟨db, do_, none⟩) nd cd, .slice (some ⟨vb, vo, none⟩) nn cn, .slice ab nb cb, .slice (some ⟨xb, xo, none⟩) ns cx, .slice af nf cf] 29 (0, 0)) := by rw [← hy2]; exact hr1_0
  rw [hy2] at hS0 ⊢
  clear hy2
  refine wpAnyH_take (i := 0) (v := ?_) rfl (by kernel_rfl) (by kernel_rfl) (by kernel_rfl) (fun _ _ _ h => h) (Or.inl ⟨by kernel_rfl, by (intro wz hSz; go_simp; try with_reducible rfl)⟩) hS0 ?_
  go_simp
  refine wpAnyH_take (i := 1) (v := ?_) rfl (by kernel_rfl) (by kernel_rfl) (by kernel_rfl) (fun _ _ _ h => h) (Or.inl ⟨by kernel_rfl, by (intro wz hSz; have c0_0 := cell_of_row _ _ 0 _ _ _ hSz.1; have c0_1 := cell_of_row _ _ 1 _ _ _ hSz.1; have c0_2 := cell_of_row _ _ 2 _ _ _ hSz.1; have c0_3 := cell_of_row _ _ 3 _ _ _ hSz.1; have c0_4 := cell_of_row _ _ 4 _ _ _ hSz.1; have c0_5 := cell_of_row _ _ 5 _ _ _ hSz.1; have c0_6 := cell_of_row _ _ 6 _ _ _ hSz.1; have c0_7 := cell_of_row _ _ 7 _ _ _ hSz.1; simp at c0_0 c0_1 c0_2 c0_3 c0_4 c0_5 c0_6 c0_7; have eDz := hSz.2.1; have eD2z := hSz.2.2.1; have ea1z := hSz.2.2.2.1; have ea2z := hSz.2.2.2.2.1; have ea3z := hSz.2.2.2.2.2.1; have eb1z := hSz.2.2.2.2.2.2.1; have eb2z := hSz.2.2.2.2.2.2.2.1; have eb3z := hSz.2.2.2.2.2.2.2.2; go_simp; try with_reducible rfl)⟩) hS0 ?_
  go_simp
  refine wpAnyH_take (i := 2) (v := ?_) rfl (by kernel_rfl) (by kernel_rfl) (by kernel_rfl) (fun _ _ _ h => h) (Or.inl ⟨by kernel_rfl, by (intro wz hSz; go_simp; try with_reducible rfl)⟩) hS0 ?_
  go_simp
  refine wpAnyH_take (i := 3) (v := ?_) rfl (by kernel_rfl) (by kernel_rfl) (by kernel_rfl) (fun _ _ _ h => h) (Or.inl ⟨by kernel_rfl, by (intro wz hSz; go_simp; try with_reducible rfl)⟩) hS0 ?_
  go_simp
  refine wpAnyH_take (i := 4) (v := ?_) rfl (by kernel_rfl) (by kernel_rfl) (by kernel_rfl) (fun _ _ _ h => h) (Or.inl ⟨by kernel_rfl, by (intro wz hSz; have c0_0 := cell_of_row _ _ 0 _ _ _ hSz.1; have c0_1 := cell_of_row _ _ 1 _ _ _ hSz.1; have c0_2 := cell_of_row _ _ 2 _ _ _ hSz.1; have c0_3 := cell_of_row _ _ 3 _ _ _ hSz.1; have c0_4 := cell_of_row _ _ 4 _ _ _ hSz.1; have c0_5 := cell_of_row _ _ 5 _ _ _ hSz.1; have c0_6 := cell_of_row _ _ 6 _ _ _ hSz.1; have c0_7 := cell_of_row _ _ 7 _ _ _ hSz.1; simp at c0_0 c0_1 c0_2 c0_3 c0_4 c0_5 c0_6 c0_7; have eDz := hSz.2.1; have eD2z := hSz.2.2.1; have ea1z := hSz.2.2.2.1; have ea2z := hSz.2.2.2.2.1; have ea3z := hSz.2.2.2.2.2.1; have eb1z := hSz.2.2.2.2.2.2.1; have eb2z := hSz.2.2.2.2.2.2.2.1; have eb3z := hSz.2.2.2.2.2.2.2.2; go_simp; try with_reducible rfl)⟩) hS0 ?_
  go_simp
  refine wpAnyH_take (i := 5) (v := ?_) rfl (by kernel_rfl) (by kernel_rfl) (by kernel_rfl) (fun _ _ _ h => h) (Or.inl ⟨by kernel_rfl, by (intro wz hSz; go_simp; try with_reducible rfl)⟩) hS0 ?_
  go_simp
  refine wpAnyH_take (i := 6) (v := ?_) rfl (by kernel_rfl) (by kernel_rfl) (by kernel_rfl) (fun _ _ _ h => h) (Or.inl ⟨by kernel_rfl, by (intro wz hSz; have c0_0 := cell_of_row _ _ 0 _ _ _ hSz.1; have c0_1 := cell_of_row _ _ 1 _ _ _ hSz.1; have c0_2 := cell_of_row _ _ 2 _ _ _ hSz.1; have c0_3 := cell_of_row _ _ 3 _ _ _ hSz.1; have c0_4 := cell_of_row _ _ 4 _ _ _ hSz.1; have c0_5 := cell_of_row _ _ 5 _ _ _ hSz.1; have c0_6 := cell_of_row _ _ 6 _ _ _ hSz.1; have c0_7 := cell_of_row _ _ 7 _ _ _ hSz.1; simp at c0_0 c0_1 c0_2 c0_3 c0_4 c0_5 c0_6 c0_7; have eDz := hSz.2.1; have eD2z := hSz.2.2.1; have ea1z := hSz.2.2.2.1; have ea2z := hSz.2.2.2.2.1; have ea3z := hSz.2.2.2.2.2.1; have eb1z := hSz.2.2.2.2.2.2.1; have eb2z := hSz.2.2.2.2.2.2.2.1; have eb3z := hSz.2.2.2.2.2.2.2.2; go_simp; try with_reducible rfl)⟩) hS0 ?_
  go_simp
  refine wpAnyH_take (i := 7) (v := ?_) rfl (by kernel_rfl) (by kernel_rfl) (by kernel_rfl) (fun _ _ _ h => h) (Or.inl ⟨by kernel_rfl, by (intro wz hSz; go_simp; try with_reducible rfl)⟩) hS0 ?_
  go_simp
  refine wpAnyH_take (i := 8) (v := ?_) rfl (by kernel_rfl) (by kernel_rfl) (by kernel_rfl) (fun _ _ _ h => h) (Or.inl ⟨by kernel_rfl, by (intro wz hSz; go_simp; try with_reducible rfl)⟩) hS0 ?_
  go_simp
  refine wpAnyH_take (i := 9) (v := ?_) rfl (by kernel_rfl) (by kernel_rfl) (by kernel_rfl) (fun _ _ _ h => h) (Or.inl ⟨by kernel_rfl, by (intro wz hSz; have c0_0 := cell_of_row _ _ 0 _ _ _ hSz.1; have c0_1 := cell_of_row _ _ 1 _ _ _ hSz.1; have c0_2 := cell_of_row _ _ 2 _ _ _ hSz.1; have c0_3 := cell_of_row _ _ 3 _ _ _ hSz.1; have c0_4 := cell_of_row _ _ 4 _ _ _ hSz.1; have c0_5 := cell_of_row _ _ 5 _ _ _ hSz.1; have c0_6 := cell_of_row _ _ 6 _ _ _ hSz.1; have c0_7 := cell_of_row _ _ 7 _ _ _ hSz.1; simp at c0_0 c0_1 c0_2 c0_3 c0_4 c0_5 c0_6 c0_7; have eDz := hSz.2.1; have eD2z := hSz.2.2.1; have ea1z := hSz.2.2.2.1; have ea2z := hSz.2.2.2.2.1; have ea3z := hSz.2.2.2.2.2.1; have eb1z := hSz.2.2.2.2.2.2.1; have eb2z := hSz.2.2.2.2.2.2.2.1; have eb3z := hSz.2.2.2.2.2.2.2.2; go_simp; try with_reducible rfl)⟩) hS0 ?_
  go_simp
  refine wpAnyH_ready (rs := [10]) (by kernel_rfl) (by simp) ?_
  refine AllReadyH.cons rfl (fun K hK => ?_) AllReadyH.nil
  go_simp
  go_wp2_with (go_at_call 53; refine (HSB.out _).mono ?_; rintro e ww ⟨rfl, rfl⟩)
  refine hK.out _ _ (hS0) (fun hS2q10 => ?_)
  clear hK K
  refine wpAnyH_take (i := 11) (v := ?_) rfl (by kernel_rfl) (by kernel_rfl) (by kernel_rfl) (fun _ _ _ h => h) (Or.inl ⟨by kernel_rfl, by (intro wz hSz; go_simp; try with_reducible rfl)⟩) hS2q10 ?_
  go_simp
  refine wpAnyH_done (by kernel_rfl) ?_ _
  have eD := hS2q10.2.1
  have eD2 := hS2q10.2.2.1
  have ea1 := hS2q10.2.2.2.1
  have ea2 := hS2q10.2.2.2.2.1
  have ea3 := hS2q10.2.2.2.2.2.1
  have eb1 := hS2q10.2.2.2.2.2.2.1
  have eb2 := hS2q10.2.2.2.2.2.2.2.1
  have eb3 := hS2q10.2.2.2.2.2.2.2.2
  go_upto_region 9 with fail
  refine wp_region_held_drew (S := fun y => y.heap[w.heap.size]? = some (.cells #[.int .i64 W, .int .i64 H, .slice al nl cl, .slice (some ⟨db, do_, none⟩) nd cd, .slice (some ⟨vb, vo, none⟩) nn cn, .slice ab nb cb, .slice (some ⟨xb, xo, none⟩) ns cx, .slice af nf cf] 29 (0, 0)) ∧ y.cell? ⟨vb, vo + i * 3, none⟩ = some (.int .i64 a1) ∧ y.cell? ⟨vb, vo + i * 3 + 1, none⟩ = some (.int .i64 a2) ∧ y.cell? ⟨vb, vo + i * 3 + 2, none⟩ = some (.int .i64 a3) ∧ y.cell? ⟨vb, vo + k * 3, none⟩ = some (.int .i64 b1) ∧ y.cell? ⟨vb, vo + k * 3 + 1, none⟩ = some (.int .i64 b2) ∧ y.cell? ⟨vb, vo + k * 3 + 2, none⟩ = some (.int .i64 b3)) (by kernel_rfl) (⟨hr2_0, ea1, ea2, ea3, eb1, eb2, eb3⟩) (fun hS0 => ?_)
  obtain ⟨y3, hy3⟩ : ∃ y, y2.drew = y := ⟨_, rfl⟩
  have HU3 := Lib.hid (show Below w.heap.size w y3 by rw [← hy3]; exact HU2.out.drew)
  have hr3_0 : y3.heap[w.heap.size]? = some (.cells #[.int .i64 W, .int .i64 H, .slice al nl cl, .slice (some ⟨db, do_, none⟩) nd cd, .slice (some ⟨vb, vo, none⟩) nn cn, .slice ab nb cb, .slice (some ⟨xb, xo, none⟩) ns cx, .slice af nf cf] 29 (0, 0)) := by rw [← hy3]; exact hr2_0
  rw [hy3] at hS0 ⊢
  clear hy3
  refine wpAnyH_take (i := 0) (v := ?_) rfl (by kernel_rfl) (by kernel_rfl) (by kernel_rfl) (fun _ _ _ h => h) (Or.inl ⟨by kernel_rfl, by (intro wz hSz; go_simp; try with_reducible rfl)⟩) hS0 ?_
  go_simp
  refine wpAnyH_take (i := 1) (v := ?_) rfl (by kernel_rfl) (by kernel_rfl) (by kernel_rfl) (fun _ _ _ h => h) (Or.inl ⟨by kernel_rfl, by (intro wz hSz; have c0_0 := cell_of_row _ _ 0 _ _ _ hSz.1; have c0_1 := cell_of_row _ _ 1 _ _ _ hSz.1; have c0_2 := cell_of_row _ _ 2 _ _ _ hSz.1; have c0_3 := cell_of_row _ _ 3 _ _ _ hSz.1; have c0_4 := cell_of_row _ _ 4 _ _ _ hSz.1; have c0_5 := cell_of_row _ _ 5 _ _ _ hSz.1; have c0_6 := cell_of_row _ _ 6 _ _ _ hSz.1; have c0_7 := cell_of_row _ _ 7 _ _ _ hSz.1; simp at c0_0 c0_1 c0_2 c0_3 c0_4 c0_5 c0_6 c0_7; have ea1z := hSz.2.1; have ea2z := hSz.2.2.1; have ea3z := hSz.2.2.2.1; have eb1z := hSz.2.2.2.2.1; have eb2z := hSz.2.2.2.2.2.1; have eb3z := hSz.2.2.2.2.2.2; go_simp; try with_reducible rfl)⟩) hS0 ?_
  go_simp
  refine wpAnyH_take (i := 2) (v := ?_) rfl (by kernel_rfl) (by kernel_rfl) (by kernel_rfl) (fun _ _ _ h => h) (Or.inl ⟨by kernel_rfl, by (intro wz hSz; go_simp; try with_reducible rfl)⟩) hS0 ?_
  go_simp
  refine wpAnyH_take (i := 3) (v := ?_) rfl (by kernel_rfl) (by kernel_rfl) (by kernel_rfl) (fun _ _ _ h => h) (Or.inl ⟨by kernel_rfl, by (intro wz hSz; go_simp; try with_reducible rfl)⟩) hS0 ?_
  go_simp
  refine wpAnyH_take (i := 4) (v := ?_) rfl (by kernel_rfl) (by kernel_rfl) (by kernel_rfl) (fun _ _ _ h => h) (Or.inl ⟨by kernel_rfl, by (intro wz hSz; have c0_0 := cell_of_row _ _ 0 _ _ _ hSz.1; have c0_1 := cell_of_row _ _ 1 _ _ _ hSz.1; have c0_2 := cell_of_row _ _ 2 _ _ _ hSz.1; have c0_3 := cell_of_row _ _ 3 _ _ _ hSz.1; have c0_4 := cell_of_row _ _ 4 _ _ _ hSz.1; have c0_5 := cell_of_row _ _ 5 _ _ _ hSz.1; have c0_6 := cell_of_row _ _ 6 _ _ _ hSz.1; have c0_7 := cell_of_row _ _ 7 _ _ _ hSz.1; simp at c0_0 c0_1 c0_2 c0_3 c0_4 c0_5 c0_6 c0_7; have ea1z := hSz.2.1; have ea2z := hSz.2.2.1; have ea3z := hSz.2.2.2.1; have eb1z := hSz.2.2.2.2.1; have eb2z := hSz.2.2.2.2.2.1; have eb3z := hSz.2.2.2.2.2.2; go_simp; try with_reducible rfl)⟩) hS0 ?_
  go_simp
  refine wpAnyH_take (i := 5) (v := ?_) rfl (by kernel_rfl) (by kernel_rfl) (by kernel_rfl) (fun _ _ _ h => h) (Or.inl ⟨by kernel_rfl, by (intro wz hSz; go_simp; try with_reducible rfl)⟩) hS0 ?_
  go_simp
  refine wpAnyH_take (i := 6) (v := ?_) rfl (by kernel_rfl) (by kernel_rfl) (by kernel_rfl) (fun _ _ _ h => h) (Or.inl ⟨by kernel_rfl, by (intro wz hSz; have c0_0 := cell_of_row _ _ 0 _ _ _ hSz.1; have c0_1 := cell_of_row _ _ 1 _ _ _ hSz.1; have c0_2 := cell_of_row _ _ 2 _ _ _ hSz.1; have c0_3 := cell_of_row _ _ 3 _ _ _ hSz.1; have c0_4 := cell_of_row _ _ 4 _ _ _ hSz.1; have c0_5 := cell_of_row _ _ 5 _ _ _ hSz.1; have c0_6 := cell_of_row _ _ 6 _ _ _ hSz.1; have c0_7 := cell_of_row _ _ 7 _ _ _ hSz.1; simp at c0_0 c0_1 c0_2 c0_3 c0_4 c0_5 c0_6 c0_7; have ea1z := hSz.2.1; have ea2z := hSz.2.2.1; have ea3z := hSz.2.2.2.1; have eb1z := hSz.2.2.2.2.1; have eb2z := hSz.2.2.2.2.2.1; have eb3z := hSz.2.2.2.2.2.2; go_simp; try with_reducible rfl)⟩) hS0 ?_
  go_simp
  refine wpAnyH_take (i := 7) (v := ?_) rfl (by kernel_rfl) (by kernel_rfl) (by kernel_rfl) (fun _ _ _ h => h) (Or.inl ⟨by kernel_rfl, by (intro wz hSz; go_simp; try with_reducible rfl)⟩) hS0 ?_
  go_simp
  refine wpAnyH_take (i := 8) (v := ?_) rfl (by kernel_rfl) (by kernel_rfl) (by kernel_rfl) (fun _ _ _ h => h) (Or.inl ⟨by kernel_rfl, by (intro wz hSz; go_simp; try with_reducible rfl)⟩) hS0 ?_
  go_simp
  refine wpAnyH_take (i := 9) (v := ?_) rfl (by kernel_rfl) (by kernel_rfl) (by kernel_rfl) (fun _ _ _ h => h) (Or.inl ⟨by kernel_rfl, by (intro wz hSz; have c0_0 := cell_of_row _ _ 0 _ _ _ hSz.1; have c0_1 := cell_of_row _ _ 1 _ _ _ hSz.1; have c0_2 := cell_of_row _ _ 2 _ _ _ hSz.1; have c0_3 := cell_of_row _ _ 3 _ _ _ hSz.1; have c0_4 := cell_of_row _ _ 4 _ _ _ hSz.1; have c0_5 := cell_of_row _ _ 5 _ _ _ hSz.1; have c0_6 := cell_of_row _ _ 6 _ _ _ hSz.1; have c0_7 := cell_of_row _ _ 7 _ _ _ hSz.1; simp at c0_0 c0_1 c0_2 c0_3 c0_4 c0_5 c0_6 c0_7; have ea1z := hSz.2.1; have ea2z := hSz.2.2.1; have ea3z := hSz.2.2.2.1; have eb1z := hSz.2.2.2.2.1; have eb2z := hSz.2.2.2.2.2.1; have eb3z := hSz.2.2.2.2.2.2; go_simp; try with_reducible rfl)⟩) hS0 ?_
  go_simp
  refine wpAnyH_take (i := 12) (v := ?_) rfl (by kernel_rfl) (by kernel_rfl) (by kernel_rfl) (fun _ _ _ h => h) (Or.inl ⟨by kernel_rfl, by (intro wz hSz; go_simp; try with_reducible rfl)⟩) hS0 ?_
  go_simp
  refine wpAnyH_ready (rs := [10]) (by kernel_rfl) (by simp) ?_
  refine AllReadyH.cons rfl (fun K hK => ?_) AllReadyH.nil
  go_simp
  go_wp2_with (go_at_call 55; refine (hT _).mono ?_; rintro e y4 ⟨rfl, hb4⟩)
  have hr4_0 := (hb4.block _ (lt_heap hr3_0)).trans hr3_0
  have HU4 := Lib.hid (HU3.out.trans (hb4.mono HU3.out.size))
  refine hK.out _ _ (⟨(hb4.block _ (lt_heap hS0.1)).trans hS0.1, (hb4.cell (p := ⟨vb, vo + i * 3, none⟩) (World.block_lt_of_cell? _ _ (hS0.2.1))).trans hS0.2.1, (hb4.cell (p := ⟨vb, vo + i * 3 + 1, none⟩) (World.block_lt_of_cell? _ _ (hS0.2.2.1))).trans hS0.2.2.1, (hb4.cell (p := ⟨vb, vo + i * 3 + 2, none⟩) (World.block_lt_of_cell? _ _ (hS0.2.2.2.1))).trans hS0.2.2.2.1, (hb4.cell (p := ⟨vb, vo + k * 3, none⟩) (World.block_lt_of_cell? _ _ (hS0.2.2.2.2.1))).trans hS0.2.2.2.2.1, (hb4.cell (p := ⟨vb, vo + k * 3 + 1, none⟩) (World.block_lt_of_cell? _ _ (hS0.2.2.2.2.2.1))).trans hS0.2.2.2.2.2.1, (hb4.cell (p := ⟨vb, vo + k * 3 + 2, none⟩) (World.block_lt_of_cell? _ _ (hS0.2.2.2.2.2.2))).trans hS0.2.2.2.2.2.2⟩) (fun hS4c => ?_)
  clear hK K
  refine wpAnyH_ready (rs := [11]) (by kernel_rfl) (by simp) ?_
  refine AllReadyH.cons rfl (fun K hK => ?_) AllReadyH.nil
  go_simp
  go_wp2_with (go_at_call 54; refine (Wa.refUnit_any _ _).mono ?_; rintro e ww ⟨rfl, rfl⟩)
  refine hK.out _ _ (hS4c) (fun hS4q11 => ?_)
  clear hK K
  refine wpAnyH_ready (rs := [13]) (by kernel_rfl) (by simp) ?_
  refine AllReadyH.cons rfl (fun K hK => ?_) AllReadyH.nil
  go_simp
  go_wp2_with (go_at_call 31; refine (Wa.refMul_any _ _ _).mono ?_; rintro e ww ⟨rfl, rfl⟩)
  refine hK.out _ _ (hS4q11) (fun hS4q13 => ?_)
  clear hK K
  refine wpAnyH_ready (rs := [14]) (by kernel_rfl) (by simp) ?_
  refine AllReadyH.cons rfl (fun K hK => ?_) AllReadyH.nil
  go_simp
  go_wp2_with (go_at_call 36; refine (Wa.refAdd_any _ _ _).mono ?_; rintro e ww ⟨rfl, rfl⟩)
  refine hK.out _ _ (hS4q13) (fun hS4q14 => ?_)
  clear hK K
  refine wpAnyH_ready (rs := [15]) (by kernel_rfl) (by simp) ?_
  refine AllReadyH.cons rfl (fun K hK => ?_) AllReadyH.nil
  go_simp
  go_wp2_with (go_at_call 35; refine (Wa.refDiv_any _ _ _).mono ?_; rintro e ww ⟨rfl, rfl⟩)
  refine hK.out _ _ (hS4q14) (fun hS4q15 => ?_)
  clear hK K
  refine wpAnyH_ready (rs := [16]) (by kernel_rfl) (by simp) ?_
  refine AllReadyH.cons rfl (fun K hK => ?_) AllReadyH.nil
  go_simp
  go_wp2_with (go_at_call 31; refine (Wa.refMul_any _ _ _).mono ?_; rintro e ww ⟨rfl, rfl⟩)
  refine hK.out _ _ (hS4q15) (fun hS4q16 => ?_)
  clear hK K
  refine wpAnyH_take (i := 17) (v := ?_) rfl (by kernel_rfl) (by kernel_rfl) (by kernel_rfl) (fun _ _ _ h => h) (Or.inl ⟨by kernel_rfl, by (intro wz hSz; go_simp; try with_reducible rfl)⟩) hS4q16 ?_
  go_simp
  refine wpAnyH_done (by kernel_rfl) ?_ _
  go_wp2
  go_ret
  exact ⟨by rw [HAM.out]; rfl, HU4.out⟩

theorem dalike_any (f : Flm) (p : Pl) (i k : Nat) (w : World) (hf : FAt w f p) (ho : okF f) (hi : i < f.ns) (hk : k < f.ns) :
    Calls Tryd.prog 34 #[.agg (FC f p), .int .i64 i, .int .i64 k] w fun e' w' => e' = .returned (.int .i64 (alk f i k)) ∧ Below w.heap.size w w' := by
  have hsn := hf.s
  have hdn := hf.d
  have hnn := hf.n
  have e1 := ho.2.1
  have e2 := ho.2.2.1
  have e3 := ho.2.2.2.2.1.1
  obtain ⟨W, H, nl, nd, nn, nb, ns, nf, L0, D, N, B, S, F⟩ := f
  obtain ⟨al, cl, ad, cd, an, cn, ab, cb, ax, cx, af, cf⟩ := p
  simp only [] at hsn hdn hnn e1 e2 e3 hi hk
  obtain ⟨xb, xo, rfl, eS⟩ := hsn.at1 (k := i) hi
  obtain ⟨xb', xo', hx', eS2⟩ := hsn.at1 (k := k) hk
  cases hx'
  by_cases h1 : (0 ≤ S i) ↔ (0 ≤ S k)
  case neg =>
    rw [show alk (⟨W, H, nl, nd, nn, nb, ns, nf, L0, D, N, B, S, F⟩ : Flm) i k = 0 from if_pos h1]
    exact dalike_ne _ _ _ _ _ _ _ _ _ _ _ _ _ _ _ _ _ _ _ _ _ w i k hi hk _ _ eS eS2 h1
  by_cases h2 : 0 ≤ S i
  case neg =>
    rw [show alk (⟨W, H, nl, nd, nn, nb, ns, nf, L0, D, N, B, S, F⟩ : Flm) i k = 65536 from (if_neg (fun t => t h1)).trans (if_pos h2)]
    exact dalike_none _ _ _ _ _ _ _ _ _ _ _ _ _ _ _ _ _ _ _ _ _ w i k hi hk _ _ eS eS2 h2 (fun t => h2 (h1.2 t))
  rw [show alk (⟨W, H, nl, nd, nn, nb, ns, nf, L0, D, N, B, S, F⟩ : Flm) i k = _ from (if_neg (fun t => t h1)).trans (if_neg (fun t => t h2))]
  obtain ⟨db, do_, rfl, eD⟩ := hdn.at1 (k := i) (by omega)
  obtain ⟨db', do_', hd', eD2⟩ := hdn.at1 (k := k) (by omega)
  cases hd'
  obtain ⟨vb, vo, rfl, ea1, ea2, ea3⟩ := hnn.at3 (k := i) (by omega)
  obtain ⟨vb', vo', hv', eb1, eb2, eb3⟩ := hnn.at3 (k := k) (by omega)
  cases hv'
  have q1 : nd = ns := by omega
  have q2 : nn = ns := by omega
  by_cases hsg : Pl.sub (D i) (D k) < 0
  · exact dalike_neg _ _ _ _ _ _ _ _ _ _ _ _ _ _ _ _ _ _ _ _ _ _ _ w i k hi hk _ _ eS eS2 h2 (h1.1 h2) q1 q2 _ _ hsg eD eD2 _ _ _ ea1 ea2 ea3 _ _ _ eb1 eb2 eb3 (ndot N N i k) (fun W => Ve.rdot_any _ _ _ _ _ _ W)
  · exact dalike_pos _ _ _ _ _ _ _ _ _ _ _ _ _ _ _ _ _ _ _ _ _ _ _ w i k hi hk _ _ eS eS2 h2 (h1.1 h2) q1 q2 _ _ hsg eD eD2 _ _ _ ea1 ea2 ea3 _ _ _ eb1 eb2 eb3 (ndot N N i k) (fun W => Ve.rdot_any _ _ _ _ _ _ W)

end Go.Proofs.YtgpbnpnnbipfpaaDoor.Fm
