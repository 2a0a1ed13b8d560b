/- Lights smoothed: how much a pixel counts for another one, by the program. -/
import Derived.Test.YtpinpkhalccjhaaDoorF29
import Derived.Test.YtpinpkhalccjhaaDoorF15
import Derived.Test.YtpinpkhalccjhaaDoorF40
import Derived.Test.YtpinpkhalccjhaaDoorF41
import Derived.Test.YtpinpkhalccjhaaDoorF21
namespace Go.Proofs.YtpinpkhalccjhaaDoor.Fm
open Go Go.RowKit Go.Proofs.YtpinpkhalccjhaaDoor Go.Proofs.YtpinpkhalccjhaaDoor.Rp Go.Proofs.YtpinpkhalccjhaaDoor.Re Go.Proofs.YtpinpkhalccjhaaDoor.Au Go.Proofs.YtpinpkhalccjhaaDoor.Jw
set_option linter.unusedVariables false
set_option linter.unusedSimpArgs false

theorem lsn_any (e a : Int) (w : World) : Calls Tryd.prog 134 #[.int .i64 e, .int .i64 a] w fun e' w' => e' = .returned (.int .i64 (lsn e a)) ∧ w = w' := by
  go_enter Tryd.func134, Tryd.ntmps134
  go_wp2_with (first | (go_at_call 117; refine (Wa.mul_any _ _ _).mono ?_; rintro e1 w1 ⟨rfl, rfl⟩) | (go_at_call 62; refine (Wa.add_any _ _ _).mono ?_; rintro e1 w1 ⟨rfl, rfl⟩) | (go_at_call 61; refine (Wa.div_any _ _ _).mono ?_; rintro e1 w1 ⟨rfl, rfl⟩))
  go_ret
  exact ⟨rfl, rfl⟩

theorem seen_any (pb i ns cx xb xo : Nat) (s : Int) (w : World) (hc : w.cell? ⟨pb, 6, none⟩ = some (.slice (some ⟨xb, xo, none⟩) ns cx)) (eS : w.cell? ⟨xb, xo + i, none⟩ = some (.int .i64 s)) (hi : i < ns) : Calls Tryd.prog 143 #[.pointer (some ⟨pb, 0, none⟩), .int .i64 i] w fun e' w' => e' = .returned (.bool (decide (0 ≤ s))) ∧ w = w' := by
  have hi' : (i : Int) < ns := by omega
  go_enter Tryd.func143, Tryd.ntmps143
  go_wp2
  go_ret
  exact ⟨rfl, rfl⟩

set_option maxHeartbeats 2000000 in
set_option maxRecDepth 100000 in
theorem hdiff_any (x0 x1 x2 y0_ y1_ y2_ : Int) (w : World)  : Calls Tryd.prog 132 #[.agg #[.int .i64 x0, .int .i64 x1, .int .i64 x2], .agg #[.int .i64 y0_, .int .i64 y1_, .int .i64 y2_]] w fun e' w' => e' = .returned (.int .i64 (Pl.add (Pl.add (Pl.add 0 (Pl.amount (Pl.sub x0 y0_))) (Pl.amount (Pl.sub x1 y1_))) (Pl.amount (Pl.sub x2 y2_)))) ∧ Below w.heap.size w w' := by
  go_enter Tryd.func132, Tryd.ntmps132
  go_upto_region 1 with fail
  have hR := Au.rows2 w (.cells #[.int .i64 x0, .int .i64 x1, .int .i64 x2] 47) (.cells #[.int .i64 y0_, .int .i64 y1_, .int .i64 y2_] 47)
  have HUx := Ve.below_n2 w (.cells #[.int .i64 x0, .int .i64 x1, .int .i64 x2] 47) (.cells #[.int .i64 y0_, .int .i64 y1_, .int .i64 y2_] 47)
  obtain ⟨y0, hy0⟩ : ∃ y0, (w.alloc (.cells #[.int .i64 x0, .int .i64 x1, .int .i64 x2] 47)).alloc (.cells #[.int .i64 y0_, .int .i64 y1_, .int .i64 y2_] 47) = y0 := ⟨_, rfl⟩
  rw [hy0] at hR HUx ⊢
  clear hy0
  have HU0 := Lib.hid HUx
  clear HUx
  obtain ⟨hr0_0, hr0_1⟩ := hR
  have c0_0 := cell_of_row _ _ 0 _ _ _ hr0_0
  have c0_1 := cell_of_row _ _ 1 _ _ _ hr0_0
  have c0_2 := cell_of_row _ _ 2 _ _ _ hr0_0
  have c1_0 := cell_of_row _ _ 0 _ _ _ hr0_1
  have c1_1 := cell_of_row _ _ 1 _ _ _ hr0_1
  have c1_2 := cell_of_row _ _ 2 _ _ _ hr0_1
  simp at c0_0 c0_1 c0_2 c1_0 c1_1 c1_2
  go_wp2_with fail
  refine (He.hsub_any x0 x1 x2 y0_ y1_ y2_ _).mono ?_
  rintro e y1 ⟨rfl, hb1⟩
  clear c0_0 c0_1 c0_2 c1_0 c1_1 c1_2
  have hr1_0 := (hb1.block _ (lt_heap hr0_0)).trans hr0_0
  have hr1_1 := (hb1.block _ (lt_heap hr0_1)).trans hr0_1
  have HU1 := Lib.hid (HU0.out.trans (hb1.mono HU0.out.size))
  clear hr0_0 hr0_1 HU0
  obtain ⟨d0, hd0⟩ : ∃ d, d = Pl.sub x0 y0_ := ⟨_, rfl⟩
  rw [← hd0] at ⊢
  have HE0 := Lib.hid hd0
  clear hd0
  obtain ⟨d1, hd1⟩ : ∃ d, d = Pl.sub x1 y1_ := ⟨_, rfl⟩
  rw [← hd1] at ⊢
  have HE1 := Lib.hid hd1
  clear hd1
  obtain ⟨d2, hd2⟩ : ∃ d, d = Pl.sub x2 y2_ := ⟨_, rfl⟩
  rw [← hd2] at ⊢
  have HE2 := Lib.hid hd2
  clear hd2
  go_upto_region 2 with fail
  have hb2 := Ve.below_n1 y1 (.cells #[.int .i64 d0, .int .i64 d1, .int .i64 d2] 47)
  have hN := heap_alloc_last y1 (.cells #[.int .i64 d0, .int .i64 d1, .int .i64 d2] 47)
  obtain ⟨y2, hy2⟩ : ∃ y, y1.alloc (.cells #[.int .i64 d0, .int .i64 d1, .int .i64 d2] 47) = y := ⟨_, rfl⟩
  have hs2 : y2.heap.size = y1.heap.size + 1 := by rw [← hy2]; simp
  rw [hy2] at hb2 hN ⊢
  clear hy2
  have hl2_0 := lt_heap hr1_0
  have hl2_1 := lt_heap hr1_1
  have hr2_0 := (hb2.block _ (lt_heap hr1_0)).trans hr1_0
  have hr2_1 := (hb2.block _ (lt_heap hr1_1)).trans hr1_1
  have HU2 := Lib.hid (HU1.out.trans (hb2.mono HU1.out.size))
  clear hr1_0 hr1_1 HU1
  have hr2_2 := hN
  clear hN
  refine wp_region_held_drew (S := fun y => y.heap[y1.heap.size]? = some (.cells #[.int .i64 d0, .int .i64 d1, .int .i64 d2] 47 (0, 0))) (by kernel_rfl) (hr2_2) (fun hS0 => ?_)
  obtain ⟨y3, hy3⟩ : ∃ y, y2.drew = y := ⟨_, rfl⟩
  have HU3 := Lib.hid (show Below w.heap.size w y3 by rw [← hy3]; exact HU2.out.drew)
  have hr3_0 : y3.heap[w.heap.size]? = some (.cells #[.int .i64 x0, .int .i64 x1, .int .i64 x2] 47 (0, 0)) := by rw [← hy3]; exact hr2_0
  have hr3_1 : y3.heap[w.heap.size + 1]? = some (.cells #[.int .i64 y0_, .int .i64 y1_, .int .i64 y2_] 47 (0, 0)) := by rw [← hy3]; exact hr2_1
  have hr3_2 : y3.heap[y1.heap.size]? = some (.cells #[.int .i64 d0, .int .i64 d1, .int .i64 d2] 47 (0, 0)) := by rw [← hy3]; exact hr2_2
  rw [hy3] at hS0 ⊢
  clear hy3
  refine wpAnyH_take (i := 0) (v := ?_) rfl (by kernel_rfl) (by kernel_rfl) (by kernel_rfl) (fun _ _ _ h => h) (Or.inl ⟨by kernel_rfl, by (intro wz hSz; go_simp; try with_reducible rfl)⟩) hS0 ?_
  go_simp
  refine wpAnyH_take (i := 1) (v := ?_) rfl (by kernel_rfl) (by kernel_rfl) (by kernel_rfl) (fun _ _ _ h => h) (Or.inl ⟨by kernel_rfl, by (intro wz hSz; have c2_0 := cell_of_row _ _ 0 _ _ _ hSz; have c2_1 := cell_of_row _ _ 1 _ _ _ hSz; have c2_2 := cell_of_row _ _ 2 _ _ _ hSz; simp at c2_0 c2_1 c2_2; go_simp; try with_reducible rfl)⟩) hS0 ?_
  go_simp
  refine wpAnyH_take (i := 3) (v := ?_) rfl (by kernel_rfl) (by kernel_rfl) (by kernel_rfl) (fun _ _ _ h => h) (Or.inl ⟨by kernel_rfl, by (intro wz hSz; go_simp; try with_reducible rfl)⟩) hS0 ?_
  go_simp
  refine wpAnyH_take (i := 4) (v := ?_) rfl (by kernel_rfl) (by kernel_rfl) (by kernel_rfl) (fun _ _ _ h => h) (Or.inl ⟨by kernel_rfl, by (intro wz hSz; have c2_0 := cell_of_row _ _ 0 _ _ _ hSz; have c2_1 := cell_of_row _ _ 1 _ _ _ hSz; have c2_2 := cell_of_row _ _ 2 _ _ _ hSz; simp at c2_0 c2_1 c2_2; go_simp; try with_reducible rfl)⟩) hS0 ?_
  go_simp
  refine wpAnyH_take (i := 6) (v := ?_) rfl (by kernel_rfl) (by kernel_rfl) (by kernel_rfl) (fun _ _ _ h => h) (Or.inl ⟨by kernel_rfl, by (intro wz hSz; go_simp; try with_reducible rfl)⟩) hS0 ?_
  go_simp
  refine wpAnyH_take (i := 7) (v := ?_) rfl (by kernel_rfl) (by kernel_rfl) (by kernel_rfl) (fun _ _ _ h => h) (Or.inl ⟨by kernel_rfl, by (intro wz hSz; have c2_0 := cell_of_row _ _ 0 _ _ _ hSz; have c2_1 := cell_of_row _ _ 1 _ _ _ hSz; have c2_2 := cell_of_row _ _ 2 _ _ _ hSz; simp at c2_0 c2_1 c2_2; go_simp; try with_reducible rfl)⟩) hS0 ?_
  go_simp
  refine wpAnyH_ready (rs := [2]) (by kernel_rfl) (by simp) ?_
  refine AllReadyH.cons rfl (fun K hK => ?_) AllReadyH.nil
  go_simp
  go_wp2_with (go_at_call 142; refine (Wa.abs_any _ _).mono ?_; rintro e ww ⟨rfl, rfl⟩)
  refine hK.out _ _ (hS0) (fun hS3q2 => ?_)
  clear hK K
  refine wpAnyH_ready (rs := [5]) (by kernel_rfl) (by simp) ?_
  refine AllReadyH.cons rfl (fun K hK => ?_) AllReadyH.nil
  go_simp
  go_wp2_with (go_at_call 142; refine (Wa.abs_any _ _).mono ?_; rintro e ww ⟨rfl, rfl⟩)
  refine hK.out _ _ (hS3q2) (fun hS3q5 => ?_)
  clear hK K
  refine wpAnyH_ready (rs := [8]) (by kernel_rfl) (by simp) ?_
  refine AllReadyH.cons rfl (fun K hK => ?_) AllReadyH.nil
  go_simp
  go_wp2_with (go_at_call 142; refine (Wa.abs_any _ _).mono ?_; rintro e ww ⟨rfl, rfl⟩)
  refine hK.out _ _ (hS3q5) (fun hS3q8 => ?_)
  clear hK K
  refine wpAnyH_ready (rs := [9]) (by kernel_rfl) (by simp) ?_
  refine AllReadyH.cons rfl (fun K hK => ?_) AllReadyH.nil
  go_simp
  have hb4 := Ve.below_n1 y3 (.cells #[.int .i64 (Pl.amount d0), .int .i64 (Pl.amount d1), .int .i64 (Pl.amount d2)] 45)
  have hN := heap_alloc_last y3 (.cells #[.int .i64 (Pl.amount d0), .int .i64 (Pl.amount d1), .int .i64 (Pl.amount d2)] 45)
  obtain ⟨y4, hy4⟩ : ∃ y, y3.alloc (.cells #[.int .i64 (Pl.amount d0), .int .i64 (Pl.amount d1), .int .i64 (Pl.amount d2)] 45) = y := ⟨_, rfl⟩
  rw [hy4] at hb4 hN ⊢
  clear hy4
  have hl4_0 := lt_heap hr3_0
  have hr4_0 := (hb4.block _ (lt_heap hr3_0)).trans hr3_0
  have hl4_1 := lt_heap hr3_1
  have hr4_1 := (hb4.block _ (lt_heap hr3_1)).trans hr3_1
  have hl4_2 := lt_heap hr3_2
  have hr4_2 := (hb4.block _ (lt_heap hr3_2)).trans hr3_2
  have hr4_3 := hN
  clear hN
  have HU4 := Lib.hid (HU3.out.trans (hb4.mono HU3.out.size))
  refine hK.out _ _ ((hb4.block _ (lt_heap hS3q8)).trans hS3q8) (fun hS4a => ?_)
  clear hK K
  refine wpAnyH_ready (rs := [10]) (by kernel_rfl) (by simp) ?_
  refine AllReadyH.cons rfl (fun K hK => ?_) AllReadyH.nil
  go_simp
  go_wp2_with (go_at_call 141; refine (Ls.sum_row _ 3 3 [Pl.amount d0, Pl.amount d1, Pl.amount d2] rfl (by omega) _ (fun j hj => by match j, hj with | 0, _ => exact cell_of_row _ _ 0 _ _ _ hr4_3 | 1, _ => exact cell_of_row _ _ 1 _ _ _ hr4_3 | 2, _ => exact cell_of_row _ _ 2 _ _ _ hr4_3)).mono ?_; rintro e ww ⟨rfl, rfl⟩)
  refine hK.out _ _ (hS4a) (fun hS4q10 => ?_)
  clear hK K
  refine wpAnyH_take (i := 11) (v := ?_) rfl (by kernel_rfl) (by kernel_rfl) (by kernel_rfl) (fun _ _ _ h => h) (Or.inl ⟨by kernel_rfl, by (intro wz hSz; go_simp; try with_reducible rfl)⟩) hS4q10 ?_
  go_simp
  refine wpAnyH_done (by kernel_rfl) ?_ _
  go_wp2
  go_ret
  exact ⟨by rw [← HE0.out, ← HE1.out, ← HE2.out]; rfl, HU4.out⟩

set_option maxHeartbeats 4000000 in
set_option maxRecDepth 100000 in
theorem alike_ne (W H st ed : Int) (al ad an ab af a : Option Addr) (cl cd cn cb cx cf nl nd nn nb ns nf n c xb xo : Nat) (w y0 : World) (hU : Below w.heap.size w y0) (pb i k : Nat) (hr0_0 : y0.heap[pb]? = some (.cells #[.int .i64 W, .int .i64 H, .slice al nl cl, .slice ad nd cd, .slice an nn cn, .slice ab nb cb, .slice (some ⟨xb, xo, none⟩) ns cx, .slice af nf cf, .int .i64 W, .int .i64 H, .slice a n c, .int .i64 st, .int .i64 ed] 157 (0, 0))) (hi : i < ns) (hk : k < ns) (s1 s2 : Int) (eS : y0.cell? ⟨xb, xo + i, none⟩ = some (.int .i64 s1)) (eS2 : y0.cell? ⟨xb, xo + k, none⟩ = some (.int .i64 s2)) (hs : ¬ ((0 ≤ s1) ↔ (0 ≤ s2))) : Calls Tryd.prog 133 #[.pointer (some ⟨pb, 0, none⟩), .int .i64 i, .int .i64 k] y0 fun e' w' => e' = .returned (.int .i64 0) ∧ Below w.heap.size w w' := by
  have HU0 := Lib.hid hU
  clear hU
  have hc6 := cell_of_row _ _ 6 _ _ _ hr0_0
  simp at hc6
  obtain ⟨t1, ht1⟩ : ∃ t, t = decide (0 ≤ s1) := ⟨_, rfl⟩
  obtain ⟨t2, ht2⟩ : ∃ t, t = decide (0 ≤ s2) := ⟨_, rfl⟩
  have hne : (t1 != t2) = true := by rw [ht1, ht2]; by_cases h1 : 0 ≤ s1 <;> by_cases h2 : 0 ≤ s2 <;> simp [h1, h2] at hs ⊢
  have hne2 : (!(t1 == t2)) = true := hne
  have HS1 := Lib.hid (show Calls Tryd.prog 143 #[.pointer (some ⟨pb, 0, none⟩), .int .i64 i] y0 fun e' w' => e' = .returned (.bool t1) ∧ y0 = w' by rw [ht1]; exact seen_any pb i ns cx xb xo s1 y0 hc6 eS hi)
  have HS2 := Lib.hid (show Calls Tryd.prog 143 #[.pointer (some ⟨pb, 0, none⟩), .int .i64 k] y0 fun e' w' => e' = .returned (.bool t2) ∧ y0 = w' by rw [ht2]; exact seen_any pb k ns cx xb xo s2 y0 hc6 eS2 hk)
  clear ht1 ht2 hs
  clear hc6
  go_enter Tryd.func133, Tryd.ntmps133
  go_wp2_with fail
  refine HS1.out.mono ?_
  rintro e ww ⟨rfl, rfl⟩
  go_wp2_with fail
  refine HS2.out.mono ?_
  rintro e ww ⟨rfl, rfl⟩
  go_wp2
  go_ret
  exact ⟨rfl, HU0.out⟩

set_option maxHeartbeats 4000000 in
set_option maxRecDepth 100000 in
theorem alike_none (W H st ed : Int) (al ad an ab af a : Option Addr) (cl cd cn cb cx cf nl nd nn nb ns nf n c xb xo : Nat) (w y0 : World) (hU : Below w.heap.size w y0) (pb i k : Nat) (hr0_0 : y0.heap[pb]? = some (.cells #[.int .i64 W, .int .i64 H, .slice al nl cl, .slice ad nd cd, .slice an nn cn, .slice ab nb cb, .slice (some ⟨xb, xo, none⟩) ns cx, .slice af nf cf, .int .i64 W, .int .i64 H, .slice a n c, .int .i64 st, .int .i64 ed] 157 (0, 0))) (hi : i < ns) (hk : k < ns) (s1 s2 : Int) (eS : y0.cell? ⟨xb, xo + i, none⟩ = some (.int .i64 s1)) (eS2 : y0.cell? ⟨xb, xo + k, none⟩ = some (.int .i64 s2)) (hs : ¬ 0 ≤ s1) (hs2 : ¬ 0 ≤ s2) : Calls Tryd.prog 133 #[.pointer (some ⟨pb, 0, none⟩), .int .i64 i, .int .i64 k] y0 fun e' w' => e' = .returned (.int .i64 65536) ∧ Below w.heap.size w w' := by
  have HU0 := Lib.hid hU
  clear hU
  have hc6 := cell_of_row _ _ 6 _ _ _ hr0_0
  simp at hc6
  have HS1 := Lib.hid (show Calls Tryd.prog 143 #[.pointer (some ⟨pb, 0, none⟩), .int .i64 i] y0 fun e' w' => e' = .returned (.bool false) ∧ y0 = w' by rw [← decide_eq_false hs]; exact seen_any pb i ns cx xb xo s1 y0 hc6 eS hi)
  have HS2 := Lib.hid (show Calls Tryd.prog 143 #[.pointer (some ⟨pb, 0, none⟩), .int .i64 k] y0 fun e' w' => e' = .returned (.bool false) ∧ y0 = w' by rw [← decide_eq_false hs2]; exact seen_any pb k ns cx xb xo s2 y0 hc6 eS2 hk)
  clear hs hs2
  clear hc6
  go_enter Tryd.func133, Tryd.ntmps133
  go_wp2_with fail
  refine HS1.out.mono ?_
  rintro e ww ⟨rfl, rfl⟩
  go_wp2_with fail
  refine HS2.out.mono ?_
  rintro e ww ⟨rfl, rfl⟩
  go_wp2_with fail
  refine HS1.out.mono ?_
  rintro e ww ⟨rfl, rfl⟩
  go_wp2
  go_ret
  exact ⟨rfl, HU0.out⟩

set_option maxHeartbeats 4000000 in
set_option maxRecDepth 100000 in
theorem alike_both (W H st ed : Int) (al ab af a : Option Addr) (cl cd cn cb cx cf nl nd nn nb ns nf n c xb xo db do_ vb vo : Nat) (w y0 : World) (hU : Below w.heap.size w y0) (pb i k : Nat) (hr0_0 : y0.heap[pb]? = some (.cells #[.int .i64 W, .int .i64 H, .slice al nl cl, .slice (some ⟨db, do_, none⟩) nd cd, .slice (some ⟨vb, vo, none⟩) nn cn, .slice ab nb cb, .slice (some ⟨xb, xo, none⟩) ns cx, .slice af nf cf, .int .i64 W, .int .i64 H, .slice a n c, .int .i64 st, .int .i64 ed] 157 (0, 0))) (hi : i < ns) (hk : k < ns) (s1 s2 : Int) (eS : y0.cell? ⟨xb, xo + i, none⟩ = some (.int .i64 s1)) (eS2 : y0.cell? ⟨xb, xo + k, none⟩ = some (.int .i64 s2)) (hs : 0 ≤ s1) (hs2 : 0 ≤ s2) (hnd : nd = ns) (hnn : nn = ns) (d1 d2 : Int) (eD : y0.cell? ⟨db, do_ + i, none⟩ = some (.int .i64 d1)) (eD2 : y0.cell? ⟨db, do_ + k, none⟩ = some (.int .i64 d2)) (a1 a2 a3 : Int) (ea1 : y0.cell? ⟨vb, vo + i * 3, none⟩ = some (.int .i64 a1)) (ea2 : y0.cell? ⟨vb, vo + i * 3 + 1, none⟩ = some (.int .i64 a2)) (ea3 : y0.cell? ⟨vb, vo + i * 3 + 2, none⟩ = some (.int .i64 a3)) (b1 b2 b3 : Int) (eb1 : y0.cell? ⟨vb, vo + k * 3, none⟩ = some (.int .i64 b1)) (eb2 : y0.cell? ⟨vb, vo + k * 3 + 1, none⟩ = some (.int .i64 b2)) (eb3 : y0.cell? ⟨vb, vo + k * 3 + 2, none⟩ = some (.int .i64 b3)) (z : Int) (hT : ∀ W : World, Calls Tryd.prog 145 #[.agg #[.int .i64 a1, .int .i64 a2, .int .i64 a3], .agg #[.int .i64 b1, .int .i64 b2, .int .i64 b3]] W fun e' w' => e' = .returned (.int .i64 z) ∧ Below W.heap.size W w') : Calls Tryd.prog 133 #[.pointer (some ⟨pb, 0, none⟩), .int .i64 i, .int .i64 k] y0 fun e' w' => e' = .returned (.int .i64 (Pl.mul (Pl.unit z) (lsn 262144 (Pl.amount (Pl.sub d1 d2))))) ∧ Below w.heap.size w w' := by
  have HU0 := Lib.hid hU
  clear hU
  have hc6 := cell_of_row _ _ 6 _ _ _ hr0_0
  simp at hc6
  have HS1 := Lib.hid (show Calls Tryd.prog 143 #[.pointer (some ⟨pb, 0, none⟩), .int .i64 i] y0 fun e' w' => e' = .returned (.bool true) ∧ y0 = w' by rw [← decide_eq_true hs]; exact seen_any pb i ns cx xb xo s1 y0 hc6 eS hi)
  have HS2 := Lib.hid (show Calls Tryd.prog 143 #[.pointer (some ⟨pb, 0, none⟩), .int .i64 k] y0 fun e' w' => e' = .returned (.bool true) ∧ y0 = w' by rw [← decide_eq_true hs2]; exact seen_any pb k ns cx xb xo s2 y0 hc6 eS2 hk)
  clear hs hs2
  clear hc6
  have hid : (i : Int) < nd := by omega
  have hkd : (k : Int) < nd := by omega
  have hin : (i : Int) < nn := by omega
  have hkn : (k : Int) < nn := by omega
  clear hnd hnn
  go_enter Tryd.func133, Tryd.ntmps133
  go_wp2_with fail
  refine HS1.out.mono ?_
  rintro e ww ⟨rfl, rfl⟩
  go_wp2_with fail
  refine HS2.out.mono ?_
  rintro e ww ⟨rfl, rfl⟩
  go_wp2_with fail
  refine HS1.out.mono ?_
  rintro e ww ⟨rfl, rfl⟩
  go_upto_region 5 with fail
  refine wp_region_held_drew (S := fun y => y.heap[pb]? = some (.cells #[.int .i64 W, .int .i64 H, .slice al nl cl, .slice (some ⟨db, do_, none⟩) nd cd, .slice (some ⟨vb, vo, none⟩) nn cn, .slice ab nb cb, .slice (some ⟨xb, xo, none⟩) ns cx, .slice af nf cf, .int .i64 W, .int .i64 H, .slice a n c, .int .i64 st, .int .i64 ed] 157 (0, 0)) ∧ y.cell? ⟨db, do_ + i, none⟩ = some (.int .i64 d1) ∧ y.cell? ⟨db, do_ + k, none⟩ = some (.int .i64 d2) ∧ y.cell? ⟨vb, vo + i * 3, none⟩ = some (.int .i64 a1) ∧ y.cell? ⟨vb, vo + i * 3 + 1, none⟩ = some (.int .i64 a2) ∧ y.cell? ⟨vb, vo + i * 3 + 2, none⟩ = some (.int .i64 a3) ∧ y.cell? ⟨vb, vo + k * 3, none⟩ = some (.int .i64 b1) ∧ y.cell? ⟨vb, vo + k * 3 + 1, none⟩ = some (.int .i64 b2) ∧ y.cell? ⟨vb, vo + k * 3 + 2, none⟩ = some (.int .i64 b3)) (by kernel_rfl) (⟨hr0_0, eD, eD2, ea1, ea2, ea3, eb1, eb2, eb3⟩) (fun hS0 => ?_)
  obtain ⟨y1, hy1⟩ : ∃ y, y0.drew = y := ⟨_, rfl⟩
  have HU1 := Lib.hid (show Below w.heap.size w y1 by rw [← hy1]; exact HU0.out.drew)
  have hr1_0 : y1.heap[pb]? = some (.cells #[.int .i64 W, .int .i64 H, .slice al nl cl, .slice (some ⟨db, do_, none⟩) nd cd, .slice (some ⟨vb, vo, none⟩) nn cn, .slice ab nb cb, .slice (some ⟨xb, xo, none⟩) ns cx, .slice af nf cf, .int .i64 W, .int .i64 H, .slice a n c, .int .i64 st, .int .i64 ed] 157 (0, 0)) := by rw [← hy1]; exact hr0_0
  rw [hy1] at hS0 ⊢
  clear hy1
  refine wpAnyH_take (i := 0) (v := ?_) rfl (by kernel_rfl) (by kernel_rfl) (by kernel_rfl) (fun _ _ _ h => h) (Or.inl ⟨by kernel_rfl, by (intro wz hSz; go_simp; try with_reducible rfl)⟩) hS0 ?_
  go_simp
  refine wpAnyH_take (i := 1) (v := ?_) rfl (by kernel_rfl) (by kernel_rfl) (by kernel_rfl) (fun _ _ _ h => h) (Or.inl ⟨by kernel_rfl, by (intro wz hSz; go_simp; try with_reducible rfl)⟩) hS0 ?_
  go_simp
  refine wpAnyH_take (i := 2) (v := ?_) rfl (by kernel_rfl) (by kernel_rfl) (by kernel_rfl) (fun _ _ _ h => h) (Or.inl ⟨by kernel_rfl, by (intro wz hSz; go_simp; try with_reducible rfl)⟩) hS0 ?_
  go_simp
  refine wpAnyH_take (i := 3) (v := ?_) rfl (by kernel_rfl) (by kernel_rfl) (by kernel_rfl) (fun _ _ _ h => h) (Or.inl ⟨by kernel_rfl, by (intro wz hSz; have c0_0 := cell_of_row _ _ 0 _ _ _ hSz.1; have c0_1 := cell_of_row _ _ 1 _ _ _ hSz.1; have c0_2 := cell_of_row _ _ 2 _ _ _ hSz.1; have c0_3 := cell_of_row _ _ 3 _ _ _ hSz.1; have c0_4 := cell_of_row _ _ 4 _ _ _ hSz.1; have c0_5 := cell_of_row _ _ 5 _ _ _ hSz.1; have c0_6 := cell_of_row _ _ 6 _ _ _ hSz.1; have c0_7 := cell_of_row _ _ 7 _ _ _ hSz.1; have c0_8 := cell_of_row _ _ 8 _ _ _ hSz.1; have c0_9 := cell_of_row _ _ 9 _ _ _ hSz.1; have c0_10 := cell_of_row _ _ 10 _ _ _ hSz.1; have c0_11 := cell_of_row _ _ 11 _ _ _ hSz.1; have c0_12 := cell_of_row _ _ 12 _ _ _ hSz.1; simp at c0_0 c0_1 c0_2 c0_3 c0_4 c0_5 c0_6 c0_7 c0_8 c0_9 c0_10 c0_11 c0_12; have eDz := hSz.2.1; have eD2z := hSz.2.2.1; have ea1z := hSz.2.2.2.1; have ea2z := hSz.2.2.2.2.1; have ea3z := hSz.2.2.2.2.2.1; have eb1z := hSz.2.2.2.2.2.2.1; have eb2z := hSz.2.2.2.2.2.2.2.1; have eb3z := hSz.2.2.2.2.2.2.2.2; go_simp; try with_reducible rfl)⟩) hS0 ?_
  go_simp
  refine wpAnyH_take (i := 4) (v := ?_) rfl (by kernel_rfl) (by kernel_rfl) (by kernel_rfl) (fun _ _ _ h => h) (Or.inl ⟨by kernel_rfl, by (intro wz hSz; go_simp; try with_reducible rfl)⟩) hS0 ?_
  go_simp
  refine wpAnyH_take (i := 5) (v := ?_) rfl (by kernel_rfl) (by kernel_rfl) (by kernel_rfl) (fun _ _ _ h => h) (Or.inl ⟨by kernel_rfl, by (intro wz hSz; go_simp; try with_reducible rfl)⟩) hS0 ?_
  go_simp
  refine wpAnyH_take (i := 6) (v := ?_) rfl (by kernel_rfl) (by kernel_rfl) (by kernel_rfl) (fun _ _ _ h => h) (Or.inl ⟨by kernel_rfl, by (intro wz hSz; have c0_0 := cell_of_row _ _ 0 _ _ _ hSz.1; have c0_1 := cell_of_row _ _ 1 _ _ _ hSz.1; have c0_2 := cell_of_row _ _ 2 _ _ _ hSz.1; have c0_3 := cell_of_row _ _ 3 _ _ _ hSz.1; have c0_4 := cell_of_row _ _ 4 _ _ _ hSz.1; have c0_5 := cell_of_row _ _ 5 _ _ _ hSz.1; have c0_6 := cell_of_row _ _ 6 _ _ _ hSz.1; have c0_7 := cell_of_row _ _ 7 _ _ _ hSz.1; have c0_8 := cell_of_row _ _ 8 _ _ _ hSz.1; have c0_9 := cell_of_row _ _ 9 _ _ _ hSz.1; have c0_10 := cell_of_row _ _ 10 _ _ _ hSz.1; have c0_11 := cell_of_row _ _ 11 _ _ _ hSz.1; have c0_12 := cell_of_row _ _ 12 _ _ _ hSz.1; simp at c0_0 c0_1 c0_2 c0_3 c0_4 c0_5 c0_6 c0_7 c0_8 c0_9 c0_10 c0_11 c0_12; have eDz := hSz.2.1; have eD2z := hSz.2.2.1; have ea1z := hSz.2.2.2.1; have ea2z := hSz.2.2.2.2.1; have ea3z := hSz.2.2.2.2.2.1; have eb1z := hSz.2.2.2.2.2.2.1; have eb2z := hSz.2.2.2.2.2.2.2.1; have eb3z := hSz.2.2.2.2.2.2.2.2; go_simp; try with_reducible rfl)⟩) hS0 ?_
  go_simp
  refine wpAnyH_take (i := 7) (v := ?_) rfl (by kernel_rfl) (by kernel_rfl) (by kernel_rfl) (fun _ _ _ h => h) (Or.inl ⟨by kernel_rfl, by (intro wz hSz; go_simp; try with_reducible rfl)⟩) hS0 ?_
  go_simp
  refine wpAnyH_take (i := 8) (v := ?_) rfl (by kernel_rfl) (by kernel_rfl) (by kernel_rfl) (fun _ _ _ h => h) (Or.inl ⟨by kernel_rfl, by (intro wz hSz; go_simp; try with_reducible rfl)⟩) hS0 ?_
  go_simp
  refine wpAnyH_take (i := 9) (v := ?_) rfl (by kernel_rfl) (by kernel_rfl) (by kernel_rfl) (fun _ _ _ h => h) (Or.inl ⟨by kernel_rfl, by (intro wz hSz; go_simp; try with_reducible rfl)⟩) hS0 ?_
  go_simp
  refine wpAnyH_take (i := 10) (v := ?_) rfl (by kernel_rfl) (by kernel_rfl) (by kernel_rfl) (fun _ _ _ h => h) (Or.inl ⟨by kernel_rfl, by (intro wz hSz; have c0_0 := cell_of_row _ _ 0 _ _ _ hSz.1; have c0_1 := cell_of_row _ _ 1 _ _ _ hSz.1; have c0_2 := cell_of_row _ _ 2 _ _ _ hSz.1; have c0_3 := cell_of_row _ _ 3 _ _ _ hSz.1; have c0_4 := cell_of_row _ _ 4 _ _ _ hSz.1; have c0_5 := cell_of_row _ _ 5 _ _ _ hSz.1; have c0_6 := cell_of_row _ _ 6 _ _ _ hSz.1; have c0_7 := cell_of_row _ _ 7 _ _ _ hSz.1; have c0_8 := cell_of_row _ _ 8 _ _ _ hSz.1; have c0_9 := cell_of_row _ _ 9 _ _ _ hSz.1; have c0_10 := cell_of_row _ _ 10 _ _ _ hSz.1; have c0_11 := cell_of_row _ _ 11 _ _ _ hSz.1; have c0_12 := cell_of_row _ _ 12 _ _ _ hSz.1; simp at c0_0 c0_1 c0_2 c0_3 c0_4 c0_5 c0_6 c0_7 c0_8 c0_9 c0_10 c0_11 c0_12; have eDz := hSz.2.1; have eD2z := hSz.2.2.1; have ea1z := hSz.2.2.2.1; have ea2z := hSz.2.2.2.2.1; have ea3z := hSz.2.2.2.2.2.1; have eb1z := hSz.2.2.2.2.2.2.1; have eb2z := hSz.2.2.2.2.2.2.2.1; have eb3z := hSz.2.2.2.2.2.2.2.2; go_simp; try with_reducible rfl)⟩) hS0 ?_
  go_simp
  refine wpAnyH_take (i := 11) (v := ?_) rfl (by kernel_rfl) (by kernel_rfl) (by kernel_rfl) (fun _ _ _ h => h) (Or.inl ⟨by kernel_rfl, by (intro wz hSz; go_simp; try with_reducible rfl)⟩) hS0 ?_
  go_simp
  refine wpAnyH_take (i := 12) (v := ?_) rfl (by kernel_rfl) (by kernel_rfl) (by kernel_rfl) (fun _ _ _ h => h) (Or.inl ⟨by kernel_rfl, by (intro wz hSz; go_simp; try with_reducible rfl)⟩) hS0 ?_
  go_simp
  refine wpAnyH_take (i := 13) (v := ?_) rfl (by kernel_rfl) (by kernel_rfl) (by kernel_rfl) (fun _ _ _ h => h) (Or.inl ⟨by kernel_rfl, by (intro wz hSz; have c0_0 := cell_of_row _ _ 0 _ _ _ hSz.1; have c0_1 := cell_of_row _ _ 1 _ _ _ hSz.1; have c0_2 := cell_of_row _ _ 2 _ _ _ hSz.1; have c0_3 := cell_of_row _ _ 3 _ _ _ hSz.1; have c0_4 := cell_of_row _ _ 4 _ _ _ hSz.1; have c0_5 := cell_of_row _ _ 5 _ _ _ hSz.1; have c0_6 := cell_of_row _ _ 6 _ _ _ hSz.1; have c0_7 := cell_of_row _ _ 7 _ _ _ hSz.1; have c0_8 := cell_of_row _ _ 8 _ _ _ hSz.1; have c0_9 := cell_of_row _ _ 9 _ _ _ hSz.1; have c0_10 := cell_of_row _ _ 10 _ _ _ hSz.1; have c0_11 := cell_of_row _ _ 11 _ _ _ hSz.1; have c0_12 := cell_of_row _ _ 12 _ _ _ hSz.1; simp at c0_0 c0_1 c0_2 c0_3 c0_4 c0_5 c0_6 c0_7 c0_8 c0_9 c0_10 c0_11 c0_12; have eDz := hSz.2.1; have eD2z := hSz.2.2.1; have ea1z := hSz.2.2.2.1; have ea2z := hSz.2.2.2.2.1; have ea3z := hSz.2.2.2.2.2.1; have eb1z := hSz.2.2.2.2.2.2.1; have eb2z := hSz.2.2.2.2.2.2.2.1; have eb3z := hSz.2.2.2.2.2.2.2.2; go_simp; try with_reducible rfl)⟩) hS0 ?_
  go_simp
  refine wpAnyH_ready (rs := [14]) (by kernel_rfl) (by simp) ?_
  refine AllReadyH.cons rfl (fun K hK => ?_) AllReadyH.nil
  go_simp
  go_wp2_with (go_at_call 144; refine (Wa.sub_any _ _ _).mono ?_; rintro e ww ⟨rfl, rfl⟩)
  refine hK.out _ _ (hS0) (fun hS1q14 => ?_)
  clear hK K
  refine wpAnyH_ready (rs := [15]) (by kernel_rfl) (by simp) ?_
  refine AllReadyH.cons rfl (fun K hK => ?_) AllReadyH.nil
  go_simp
  go_wp2_with (go_at_call 142; refine (Wa.abs_any _ _).mono ?_; rintro e ww ⟨rfl, rfl⟩)
  refine hK.out _ _ (hS1q14) (fun hS1q15 => ?_)
  clear hK K
  refine wpAnyH_take (i := 16) (v := ?_) rfl (by kernel_rfl) (by kernel_rfl) (by kernel_rfl) (fun _ _ _ h => h) (Or.inl ⟨by kernel_rfl, by (intro wz hSz; go_simp; try with_reducible rfl)⟩) hS1q15 ?_
  go_simp
  refine wpAnyH_done (by kernel_rfl) ?_ _
  have eD := hS1q15.2.1
  have eD2 := hS1q15.2.2.1
  have ea1 := hS1q15.2.2.2.1
  have ea2 := hS1q15.2.2.2.2.1
  have ea3 := hS1q15.2.2.2.2.2.1
  have eb1 := hS1q15.2.2.2.2.2.2.1
  have eb2 := hS1q15.2.2.2.2.2.2.2.1
  have eb3 := hS1q15.2.2.2.2.2.2.2.2
  obtain ⟨q_, hq_⟩ : ∃ q, q = Pl.amount (Pl.sub d1 d2) := ⟨_, rfl⟩
  rw [← hq_] at ⊢
  have HQ_ := Lib.hid hq_
  clear hq_
  go_upto_region 6 with fail
  refine wp_region_held_drew (S := fun y => y.heap[pb]? = some (.cells #[.int .i64 W, .int .i64 H, .slice al nl cl, .slice (some ⟨db, do_, none⟩) nd cd, .slice (some ⟨vb, vo, none⟩) nn cn, .slice ab nb cb, .slice (some ⟨xb, xo, none⟩) ns cx, .slice af nf cf, .int .i64 W, .int .i64 H, .slice a n c, .int .i64 st, .int .i64 ed] 157 (0, 0)) ∧ y.cell? ⟨vb, vo + i * 3, none⟩ = some (.int .i64 a1) ∧ y.cell? ⟨vb, vo + i * 3 + 1, none⟩ = some (.int .i64 a2) ∧ y.cell? ⟨vb, vo + i * 3 + 2, none⟩ = some (.int .i64 a3) ∧ y.cell? ⟨vb, vo + k * 3, none⟩ = some (.int .i64 b1) ∧ y.cell? ⟨vb, vo + k * 3 + 1, none⟩ = some (.int .i64 b2) ∧ y.cell? ⟨vb, vo + k * 3 + 2, none⟩ = some (.int .i64 b3)) (by kernel_rfl) (⟨hr1_0, ea1, ea2, ea3, eb1, eb2, eb3⟩) (fun hS0 => ?_)
  obtain ⟨y2, hy2⟩ : ∃ y, y1.drew = y := ⟨_, rfl⟩
  have HU2 := Lib.hid (show Below w.heap.size w y2 by rw [← hy2]; exact HU1.out.drew)
  have hr2_0 : y2.heap[pb]? = some (.cells #[.int .i64 W, .int .i64 H, .slice al nl cl, .slice (some ⟨db, do_, none⟩) nd cd, .slice (some ⟨vb, vo, none⟩) nn cn, .slice ab nb cb, .slice (some ⟨xb, xo, none⟩) ns cx, .slice af nf cf, .int .i64 W, .int .i64 H, .slice a n c, .int .i64 st, .int .i64 ed] 157 (0, 0)) := by rw [← hy2]; exact hr1_0
  rw [hy2] at hS0 ⊢
  clear hy2
  refine wpAnyH_take (i := 0) (v := ?_) rfl (by kernel_rfl) (by kernel_rfl) (by kernel_rfl) (fun _ _ _ h => h) (Or.inl ⟨by kernel_rfl, by (intro wz hSz; go_simp; try with_reducible rfl)⟩) hS0 ?_
  go_simp
  refine wpAnyH_take (i := 1) (v := ?_) rfl (by kernel_rfl) (by kernel_rfl) (by kernel_rfl) (fun _ _ _ h => h) (Or.inl ⟨by kernel_rfl, by (intro wz hSz; go_simp; try with_reducible rfl)⟩) hS0 ?_
  go_simp
  refine wpAnyH_take (i := 2) (v := ?_) rfl (by kernel_rfl) (by kernel_rfl) (by kernel_rfl) (fun _ _ _ h => h) (Or.inl ⟨by kernel_rfl, by (intro wz hSz; go_simp; try with_reducible rfl)⟩) hS0 ?_
  go_simp
  refine wpAnyH_take (i := 3) (v := ?_) rfl (by kernel_rfl) (by kernel_rfl) (by kernel_rfl) (fun _ _ _ h => h) (Or.inl ⟨by kernel_rfl, by (intro wz hSz; have c0_0 := cell_of_row _ _ 0 _ _ _ hSz.1; have c0_1 := cell_of_row _ _ 1 _ _ _ hSz.1; have c0_2 := cell_of_row _ _ 2 _ _ _ hSz.1; have c0_3 := cell_of_row _ _ 3 _ _ _ hSz.1; have c0_4 := cell_of_row _ _ 4 _ _ _ hSz.1; have c0_5 := cell_of_row _ _ 5 _ _ _ hSz.1; have c0_6 := cell_of_row _ _ 6 _ _ _ hSz.1; have c0_7 := cell_of_row _ _ 7 _ _ _ hSz.1; have c0_8 := cell_of_row _ _ 8 _ _ _ hSz.1; have c0_9 := cell_of_row _ _ 9 _ _ _ hSz.1; have c0_10 := cell_of_row _ _ 10 _ _ _ hSz.1; have c0_11 := cell_of_row _ _ 11 _ _ _ hSz.1; have c0_12 := cell_of_row _ _ 12 _ _ _ hSz.1; simp at c0_0 c0_1 c0_2 c0_3 c0_4 c0_5 c0_6 c0_7 c0_8 c0_9 c0_10 c0_11 c0_12; have ea1z := hSz.2.1; have ea2z := hSz.2.2.1; have ea3z := hSz.2.2.2.1; have eb1z := hSz.2.2.2.2.1; have eb2z := hSz.2.2.2.2.2.1; have eb3z := hSz.2.2.2.2.2.2; go_simp; try with_reducible rfl)⟩) hS0 ?_
  go_simp
  refine wpAnyH_take (i := 4) (v := ?_) rfl (by kernel_rfl) (by kernel_rfl) (by kernel_rfl) (fun _ _ _ h => h) (Or.inl ⟨by kernel_rfl, by (intro wz hSz; go_simp; try with_reducible rfl)⟩) hS0 ?_
  go_simp
  refine wpAnyH_take (i := 5) (v := ?_) rfl (by kernel_rfl) (by kernel_rfl) (by kernel_rfl) (fun _ _ _ h => h) (Or.inl ⟨by kernel_rfl, by (intro wz hSz; go_simp; try with_reducible rfl)⟩) hS0 ?_
  go_simp
  refine wpAnyH_take (i := 6) (v := ?_) rfl (by kernel_rfl) (by kernel_rfl) (by kernel_rfl) (fun _ _ _ h => h) (Or.inl ⟨by kernel_rfl, by (intro wz hSz; have c0_0 := cell_of_row _ _ 0 _ _ _ hSz.1; have c0_1 := cell_of_row _ _ 1 _ _ _ hSz.1; have c0_2 := cell_of_row _ _ 2 _ _ _ hSz.1; have c0_3 := cell_of_row _ _ 3 _ _ _ hSz.1; have c0_4 := cell_of_row _ _ 4 _ _ _ hSz.1; have c0_5 := cell_of_row _ _ 5 _ _ _ hSz.1; have c0_6 := cell_of_row _ _ 6 _ _ _ hSz.1; have c0_7 := cell_of_row _ _ 7 _ _ _ hSz.1; have c0_8 := cell_of_row _ _ 8 _ _ _ hSz.1; have c0_9 := cell_of_row _ _ 9 _ _ _ hSz.1; have c0_10 := cell_of_row _ _ 10 _ _ _ hSz.1; have c0_11 := cell_of_row _ _ 11 _ _ _ hSz.1; have c0_12 := cell_of_row _ _ 12 _ _ _ hSz.1; simp at c0_0 c0_1 c0_2 c0_3 c0_4 c0_5 c0_6 c0_7 c0_8 c0_9 c0_10 c0_11 c0_12; have ea1z := hSz.2.1; have ea2z := hSz.2.2.1; have ea3z := hSz.2.2.2.1; have eb1z := hSz.2.2.2.2.1; have eb2z := hSz.2.2.2.2.2.1; have eb3z := hSz.2.2.2.2.2.2; go_simp; try with_reducible rfl)⟩) hS0 ?_
  go_simp
  refine wpAnyH_take (i := 7) (v := ?_) rfl (by kernel_rfl) (by kernel_rfl) (by kernel_rfl) (fun _ _ _ h => h) (Or.inl ⟨by kernel_rfl, by (intro wz hSz; go_simp; try with_reducible rfl)⟩) hS0 ?_
  go_simp
  refine wpAnyH_take (i := 8) (v := ?_) rfl (by kernel_rfl) (by kernel_rfl) (by kernel_rfl) (fun _ _ _ h => h) (Or.inl ⟨by kernel_rfl, by (intro wz hSz; go_simp; try with_reducible rfl)⟩) hS0 ?_
  go_simp
  refine wpAnyH_take (i := 9) (v := ?_) rfl (by kernel_rfl) (by kernel_rfl) (by kernel_rfl) (fun _ _ _ h => h) (Or.inl ⟨by kernel_rfl, by (intro wz hSz; go_simp; try with_reducible rfl)⟩) hS0 ?_
  go_simp
  refine wpAnyH_take (i := 10) (v := ?_) rfl (by kernel_rfl) (by kernel_rfl) (by kernel_rfl) (fun _ _ _ h => h) (Or.inl ⟨by kernel_rfl, by (intro wz hSz; have c0_0 := cell_of_row _ _ 0 _ _ _ hSz.1; have c0_1 := cell_of_row _ _ 1 _ _ _ hSz.1; have c0_2 := cell_of_row _ _ 2 _ _ _ hSz.1; have c0_3 := cell_of_row _ _ 3 _ _ _ hSz.1; have c0_4 := cell_of_row _ _ 4 _ _ _ hSz.1; have c0_5 := cell_of_row _ _ 5 _ _ _ hSz.1; have c0_6 := cell_of_row _ _ 6 _ _ _ hSz.1; have c0_7 := cell_of_row _ _ 7 _ _ _ hSz.1; have c0_8 := cell_of_row _ _ 8 _ _ _ hSz.1; have c0_9 := cell_of_row _ _ 9 _ _ _ hSz.1; have c0_10 := cell_of_row _ _ 10 _ _ _ hSz.1; have c0_11 := cell_of_row _ _ 11 _ _ _ hSz.1; have c0_12 := cell_of_row _ _ 12 _ _ _ hSz.1; simp at c0_0 c0_1 c0_2 c0_3 c0_4 c0_5 c0_6 c0_7 c0_8 c0_9 c0_10 c0_11 c0_12; have ea1z := hSz.2.1; have ea2z := hSz.2.2.1; have ea3z := hSz.2.2.2.1; have eb1z := hSz.2.2.2.2.1; have eb2z := hSz.2.2.2.2.2.1; have eb3z := hSz.2.2.2.2.2.2; go_simp; try with_reducible rfl)⟩) hS0 ?_
  go_simp
  refine wpAnyH_take (i := 11) (v := ?_) rfl (by kernel_rfl) (by kernel_rfl) (by kernel_rfl) (fun _ _ _ h => h) (Or.inl ⟨by kernel_rfl, by (intro wz hSz; go_simp; try with_reducible rfl)⟩) hS0 ?_
  go_simp
  refine wpAnyH_take (i := 12) (v := ?_) rfl (by kernel_rfl) (by kernel_rfl) (by kernel_rfl) (fun _ _ _ h => h) (Or.inl ⟨by kernel_rfl, by (intro wz hSz; go_simp; try with_reducible rfl)⟩) hS0 ?_
  go_simp
  refine wpAnyH_take (i := 13) (v := ?_) rfl (by kernel_rfl) (by kernel_rfl) (by kernel_rfl) (fun _ _ _ h => h) (Or.inl ⟨by kernel_rfl, by (intro wz hSz; have c0_0 := cell_of_row _ _ 0 _ _ _ hSz.1; have c0_1 := cell_of_row _ _ 1 _ _ _ hSz.1; have c0_2 := cell_of_row _ _ 2 _ _ _ hSz.1; have c0_3 := cell_of_row _ _ 3 _ _ _ hSz.1; have c0_4 := cell_of_row _ _ 4 _ _ _ hSz.1; have c0_5 := cell_of_row _ _ 5 _ _ _ hSz.1; have c0_6 := cell_of_row _ _ 6 _ _ _ hSz.1; have c0_7 := cell_of_row _ _ 7 _ _ _ hSz.1; have c0_8 := cell_of_row _ _ 8 _ _ _ hSz.1; have c0_9 := cell_of_row _ _ 9 _ _ _ hSz.1; have c0_10 := cell_of_row _ _ 10 _ _ _ hSz.1; have c0_11 := cell_of_row _ _ 11 _ _ _ hSz.1; have c0_12 := cell_of_row _ _ 12 _ _ _ hSz.1; simp at c0_0 c0_1 c0_2 c0_3 c0_4 c0_5 c0_6 c0_7 c0_8 c0_9 c0_10 c0_11 c0_12; have ea1z := hSz.2.1; have ea2z := hSz.2.2.1; have ea3z := hSz.2.2.2.1; have eb1z := hSz.2.2.2.2.1; have eb2z := hSz.2.2.2.2.2.1; have eb3z := hSz.2.2.2.2.2.2; go_simp; try with_reducible rfl)⟩) hS0 ?_
  go_simp
  refine wpAnyH_take (i := 16) (v := ?_) rfl (by kernel_rfl) (by kernel_rfl) (by kernel_rfl) (fun _ _ _ h => h) (Or.inl ⟨by kernel_rfl, by (intro wz hSz; go_simp; try with_reducible rfl)⟩) hS0 ?_
  go_simp
  refine wpAnyH_ready (rs := [14]) (by kernel_rfl) (by simp) ?_
  refine AllReadyH.cons rfl (fun K hK => ?_) AllReadyH.nil
  go_simp
  go_wp2_with (go_at_call 145; refine (hT _).mono ?_; rintro e y3 ⟨rfl, hb3⟩)
  have hr3_0 := (hb3.block _ (lt_heap hr2_0)).trans hr2_0
  have HU3 := Lib.hid (HU2.out.trans (hb3.mono HU2.out.size))
  refine hK.out _ _ (⟨(hb3.block _ (lt_heap hS0.1)).trans hS0.1, (hb3.cell (p := ⟨vb, vo + i * 3, none⟩) (World.block_lt_of_cell? _ _ (hS0.2.1))).trans hS0.2.1, (hb3.cell (p := ⟨vb, vo + i * 3 + 1, none⟩) (World.block_lt_of_cell? _ _ (hS0.2.2.1))).trans hS0.2.2.1, (hb3.cell (p := ⟨vb, vo + i * 3 + 2, none⟩) (World.block_lt_of_cell? _ _ (hS0.2.2.2.1))).trans hS0.2.2.2.1, (hb3.cell (p := ⟨vb, vo + k * 3, none⟩) (World.block_lt_of_cell? _ _ (hS0.2.2.2.2.1))).trans hS0.2.2.2.2.1, (hb3.cell (p := ⟨vb, vo + k * 3 + 1, none⟩) (World.block_lt_of_cell? _ _ (hS0.2.2.2.2.2.1))).trans hS0.2.2.2.2.2.1, (hb3.cell (p := ⟨vb, vo + k * 3 + 2, none⟩) (World.block_lt_of_cell? _ _ (hS0.2.2.2.2.2.2))).trans hS0.2.2.2.2.2.2⟩) (fun hS3c => ?_)
  clear hK K
  refine wpAnyH_ready (rs := [15]) (by kernel_rfl) (by simp) ?_
  refine AllReadyH.cons rfl (fun K hK => ?_) AllReadyH.nil
  go_simp
  go_wp2_with (go_at_call 100; refine (Wa.unit_any _ _).mono ?_; rintro e ww ⟨rfl, rfl⟩)
  refine hK.out _ _ (hS3c) (fun hS3q15 => ?_)
  clear hK K
  refine wpAnyH_ready (rs := [17]) (by kernel_rfl) (by simp) ?_
  refine AllReadyH.cons rfl (fun K hK => ?_) AllReadyH.nil
  go_simp
  go_wp2_with (go_at_call 134; refine (lsn_any _ _ _).mono ?_; rintro e ww ⟨rfl, rfl⟩)
  refine hK.out _ _ (hS3q15) (fun hS3q17 => ?_)
  clear hK K
  refine wpAnyH_ready (rs := [18]) (by kernel_rfl) (by simp) ?_
  refine AllReadyH.cons rfl (fun K hK => ?_) AllReadyH.nil
  go_simp
  go_wp2_with (go_at_call 117; refine (Wa.mul_any _ _ _).mono ?_; rintro e ww ⟨rfl, rfl⟩)
  refine hK.out _ _ (hS3q17) (fun hS3q18 => ?_)
  clear hK K
  refine wpAnyH_take (i := 19) (v := ?_) rfl (by kernel_rfl) (by kernel_rfl) (by kernel_rfl) (fun _ _ _ h => h) (Or.inl ⟨by kernel_rfl, by (intro wz hSz; go_simp; try with_reducible rfl)⟩) hS3q18 ?_
  go_simp
  refine wpAnyH_done (by kernel_rfl) ?_ _
  go_wp2
  go_ret
  exact ⟨by rw [← HQ_.out]; rfl, HU3.out⟩

theorem weight_eq (pb i : Nat) (w : World) : Calls Tryd.prog 118 #[.pointer (some ⟨pb, 0, none⟩), .int .i64 i, .int .i64 i] w fun e' w' => e' = .returned (.int .i64 65536) ∧ w = w' := by
  go_enter Tryd.func118, Tryd.ntmps118
  go_wp2
  go_ret
  exact ⟨rfl, rfl⟩

set_option maxHeartbeats 4000000 in
set_option maxRecDepth 100000 in
theorem weight_ne (W H st ed : Int) (al ad an ab ax af : Option Addr) (cl cd cn cb cx cf nl nd nn nb ns nf n c lb lo : Nat) (w y0 : World) (hU : Below w.heap.size w y0) (pb i k : Nat) (hr0_0 : y0.heap[pb]? = some (.cells #[.int .i64 W, .int .i64 H, .slice al nl cl, .slice ad nd cd, .slice an nn cn, .slice ab nb cb, .slice ax ns cx, .slice af nf cf, .int .i64 W, .int .i64 H, .slice (some ⟨lb, lo, none⟩) n c, .int .i64 st, .int .i64 ed] 157 (0, 0))) (hne : ¬ i = k) (hi : i < n) (hk : k < n) (a1 a2 a3 : Int) (ea1 : y0.cell? ⟨lb, lo + i * 3, none⟩ = some (.int .i64 a1)) (ea2 : y0.cell? ⟨lb, lo + i * 3 + 1, none⟩ = some (.int .i64 a2)) (ea3 : y0.cell? ⟨lb, lo + i * 3 + 2, none⟩ = some (.int .i64 a3)) (b1 b2 b3 : Int) (eb1 : y0.cell? ⟨lb, lo + k * 3, none⟩ = some (.int .i64 b1)) (eb2 : y0.cell? ⟨lb, lo + k * 3 + 1, none⟩ = some (.int .i64 b2)) (eb3 : y0.cell? ⟨lb, lo + k * 3 + 2, none⟩ = some (.int .i64 b3)) (df : Int) (hD : ∀ W : World, Calls Tryd.prog 132 #[.agg #[.int .i64 a1, .int .i64 a2, .int .i64 a3], .agg #[.int .i64 b1, .int .i64 b2, .int .i64 b3]] W fun e' w' => e' = .returned (.int .i64 df) ∧ Below W.heap.size W w') (al_ : Int) (hA : ∀ W : World, Below y0.heap.size y0 W → Calls Tryd.prog 133 #[.pointer (some ⟨pb, 0, none⟩), .int .i64 i, .int .i64 k] W fun e' w' => e' = .returned (.int .i64 al_) ∧ Below W.heap.size W w') : Calls Tryd.prog 118 #[.pointer (some ⟨pb, 0, none⟩), .int .i64 i, .int .i64 k] y0 fun e' w' => e' = .returned (.int .i64 (Pl.mul al_ (lsn ed df))) ∧ Below w.heap.size w w' := by
  have HU0 := Lib.hid hU
  clear hU
  have d0 : ((i : Int) == (k : Int)) = false := by simpa using (fun e => hne (by omega) : ¬ (i : Int) = k)
  clear hne
  have hi' : (i : Int) < n := by omega
  have hk' : (k : Int) < n := by omega
  go_enter Tryd.func118, Tryd.ntmps118
  have HZ0 := Lib.hid (Below.refl y0.heap.size y0)
  go_upto_region 3 with fail
  refine wp_region_held_drew (S := fun y => y.heap[pb]? = some (.cells #[.int .i64 W, .int .i64 H, .slice al nl cl, .slice ad nd cd, .slice an nn cn, .slice ab nb cb, .slice ax ns cx, .slice af nf cf, .int .i64 W, .int .i64 H, .slice (some ⟨lb, lo, none⟩) n c, .int .i64 st, .int .i64 ed] 157 (0, 0)) ∧ y.cell? ⟨lb, lo + i * 3, none⟩ = some (.int .i64 a1) ∧ y.cell? ⟨lb, lo + i * 3 + 1, none⟩ = some (.int .i64 a2) ∧ y.cell? ⟨lb, lo + i * 3 + 2, none⟩ = some (.int .i64 a3) ∧ y.cell? ⟨lb, lo + k * 3, none⟩ = some (.int .i64 b1) ∧ y.cell? ⟨lb, lo + k * 3 + 1, none⟩ = some (.int .i64 b2) ∧ y.cell? ⟨lb, lo + k * 3 + 2, none⟩ = some (.int .i64 b3)) (by kernel_rfl) (⟨hr0_0, ea1, ea2, ea3, eb1, eb2, eb3⟩) (fun hS0 => ?_)
  obtain ⟨y1, hy1⟩ : ∃ y, y0.drew = y := ⟨_, rfl⟩
  have HU1 := Lib.hid (show Below w.heap.size w y1 by rw [← hy1]; exact HU0.out.drew)
  have hr1_0 : y1.heap[pb]? = some (.cells #[.int .i64 W, .int .i64 H, .slice al nl cl, .slice ad nd cd, .slice an nn cn, .slice ab nb cb, .slice ax ns cx, .slice af nf cf, .int .i64 W, .int .i64 H, .slice (some ⟨lb, lo, none⟩) n c, .int .i64 st, .int .i64 ed] 157 (0, 0)) := by rw [← hy1]; exact hr0_0
  have HZ1 := Lib.hid (show Below y0.heap.size y0 y1 by rw [← hy1]; exact HZ0.out.drew)
  rw [hy1] at hS0 ⊢
  clear hy1
  refine wpAnyH_take (i := 0) (v := ?_) rfl (by kernel_rfl) (by kernel_rfl) (by kernel_rfl) (fun _ _ _ h => h) (Or.inl ⟨by kernel_rfl, by (intro wz hSz; go_simp; try with_reducible rfl)⟩) hS0 ?_
  go_simp
  refine wpAnyH_take (i := 1) (v := ?_) rfl (by kernel_rfl) (by kernel_rfl) (by kernel_rfl) (fun _ _ _ h => h) (Or.inl ⟨by kernel_rfl, by (intro wz hSz; go_simp; try with_reducible rfl)⟩) hS0 ?_
  go_simp
  refine wpAnyH_take (i := 2) (v := ?_) rfl (by kernel_rfl) (by kernel_rfl) (by kernel_rfl) (fun _ _ _ h => h) (Or.inl ⟨by kernel_rfl, by (intro wz hSz; go_simp; try with_reducible rfl)⟩) hS0 ?_
  go_simp
  refine wpAnyH_take (i := 3) (v := ?_) rfl (by kernel_rfl) (by kernel_rfl) (by kernel_rfl) (fun _ _ _ h => h) (Or.inl ⟨by kernel_rfl, by (intro wz hSz; go_simp; try with_reducible rfl)⟩) hS0 ?_
  go_simp
  refine wpAnyH_take (i := 4) (v := ?_) rfl (by kernel_rfl) (by kernel_rfl) (by kernel_rfl) (fun _ _ _ h => h) (Or.inl ⟨by kernel_rfl, by (intro wz hSz; have c0_0 := cell_of_row _ _ 0 _ _ _ hSz.1; have c0_1 := cell_of_row _ _ 1 _ _ _ hSz.1; have c0_2 := cell_of_row _ _ 2 _ _ _ hSz.1; have c0_3 := cell_of_row _ _ 3 _ _ _ hSz.1; have c0_4 := cell_of_row _ _ 4 _ _ _ hSz.1; have c0_5 := cell_of_row _ _ 5 _ _ _ hSz.1; have c0_6 := cell_of_row _ _ 6 _ _ _ hSz.1; have c0_7 := cell_of_row _ _ 7 _ _ _ hSz.1; have c0_8 := cell_of_row _ _ 8 _ _ _ hSz.1; have c0_9 := cell_of_row _ _ 9 _ _ _ hSz.1; have c0_10 := cell_of_row _ _ 10 _ _ _ hSz.1; have c0_11 := cell_of_row _ _ 11 _ _ _ hSz.1; have c0_12 := cell_of_row _ _ 12 _ _ _ hSz.1; simp at c0_0 c0_1 c0_2 c0_3 c0_4 c0_5 c0_6 c0_7 c0_8 c0_9 c0_10 c0_11 c0_12; have ea1z := hSz.2.1; have ea2z := hSz.2.2.1; have ea3z := hSz.2.2.2.1; have eb1z := hSz.2.2.2.2.1; have eb2z := hSz.2.2.2.2.2.1; have eb3z := hSz.2.2.2.2.2.2; go_simp; try with_reducible rfl)⟩) hS0 ?_
  go_simp
  refine wpAnyH_take (i := 5) (v := ?_) rfl (by kernel_rfl) (by kernel_rfl) (by kernel_rfl) (fun _ _ _ h => h) (Or.inl ⟨by kernel_rfl, by (intro wz hSz; go_simp; try with_reducible rfl)⟩) hS0 ?_
  go_simp
  refine wpAnyH_take (i := 6) (v := ?_) rfl (by kernel_rfl) (by kernel_rfl) (by kernel_rfl) (fun _ _ _ h => h) (Or.inl ⟨by kernel_rfl, by (intro wz hSz; go_simp; try with_reducible rfl)⟩) hS0 ?_
  go_simp
  refine wpAnyH_take (i := 7) (v := ?_) rfl (by kernel_rfl) (by kernel_rfl) (by kernel_rfl) (fun _ _ _ h => h) (Or.inl ⟨by kernel_rfl, by (intro wz hSz; have c0_0 := cell_of_row _ _ 0 _ _ _ hSz.1; have c0_1 := cell_of_row _ _ 1 _ _ _ hSz.1; have c0_2 := cell_of_row _ _ 2 _ _ _ hSz.1; have c0_3 := cell_of_row _ _ 3 _ _ _ hSz.1; have c0_4 := cell_of_row _ _ 4 _ _ _ hSz.1; have c0_5 := cell_of_row _ _ 5 _ _ _ hSz.1; have c0_6 := cell_of_row _ _ 6 _ _ _ hSz.1; have c0_7 := cell_of_row _ _ 7 _ _ _ hSz.1; have c0_8 := cell_of_row _ _ 8 _ _ _ hSz.1; have c0_9 := cell_of_row _ _ 9 _ _ _ hSz.1; have c0_10 := cell_of_row _ _ 10 _ _ _ hSz.1; have c0_11 := cell_of_row _ _ 11 _ _ _ hSz.1; have c0_12 := cell_of_row _ _ 12 _ _ _ hSz.1; simp at c0_0 c0_1 c0_2 c0_3 c0_4 c0_5 c0_6 c0_7 c0_8 c0_9 c0_10 c0_11 c0_12; have ea1z := hSz.2.1; have ea2z := hSz.2.2.1; have ea3z := hSz.2.2.2.1; have eb1z := hSz.2.2.2.2.1; have eb2z := hSz.2.2.2.2.2.1; have eb3z := hSz.2.2.2.2.2.2; go_simp; try with_reducible rfl)⟩) hS0 ?_
  go_simp
  refine wpAnyH_take (i := 8) (v := ?_) rfl (by kernel_rfl) (by kernel_rfl) (by kernel_rfl) (fun _ _ _ h => h) (Or.inl ⟨by kernel_rfl, by (intro wz hSz; go_simp; try with_reducible rfl)⟩) hS0 ?_
  go_simp
  refine wpAnyH_take (i := 9) (v := ?_) rfl (by kernel_rfl) (by kernel_rfl) (by kernel_rfl) (fun _ _ _ h => h) (Or.inl ⟨by kernel_rfl, by (intro wz hSz; go_simp; try with_reducible rfl)⟩) hS0 ?_
  go_simp
  refine wpAnyH_take (i := 10) (v := ?_) rfl (by kernel_rfl) (by kernel_rfl) (by kernel_rfl) (fun _ _ _ h => h) (Or.inl ⟨by kernel_rfl, by (intro wz hSz; go_simp; try with_reducible rfl)⟩) hS0 ?_
  go_simp
  refine wpAnyH_take (i := 11) (v := ?_) rfl (by kernel_rfl) (by kernel_rfl) (by kernel_rfl) (fun _ _ _ h => h) (Or.inl ⟨by kernel_rfl, by (intro wz hSz; go_simp; try with_reducible rfl)⟩) hS0 ?_
  go_simp
  refine wpAnyH_take (i := 12) (v := ?_) rfl (by kernel_rfl) (by kernel_rfl) (by kernel_rfl) (fun _ _ _ h => h) (Or.inl ⟨by kernel_rfl, by (intro wz hSz; have c0_0 := cell_of_row _ _ 0 _ _ _ hSz.1; have c0_1 := cell_of_row _ _ 1 _ _ _ hSz.1; have c0_2 := cell_of_row _ _ 2 _ _ _ hSz.1; have c0_3 := cell_of_row _ _ 3 _ _ _ hSz.1; have c0_4 := cell_of_row _ _ 4 _ _ _ hSz.1; have c0_5 := cell_of_row _ _ 5 _ _ _ hSz.1; have c0_6 := cell_of_row _ _ 6 _ _ _ hSz.1; have c0_7 := cell_of_row _ _ 7 _ _ _ hSz.1; have c0_8 := cell_of_row _ _ 8 _ _ _ hSz.1; have c0_9 := cell_of_row _ _ 9 _ _ _ hSz.1; have c0_10 := cell_of_row _ _ 10 _ _ _ hSz.1; have c0_11 := cell_of_row _ _ 11 _ _ _ hSz.1; have c0_12 := cell_of_row _ _ 12 _ _ _ hSz.1; simp at c0_0 c0_1 c0_2 c0_3 c0_4 c0_5 c0_6 c0_7 c0_8 c0_9 c0_10 c0_11 c0_12; have ea1z := hSz.2.1; have ea2z := hSz.2.2.1; have ea3z := hSz.2.2.2.1; have eb1z := hSz.2.2.2.2.1; have eb2z := hSz.2.2.2.2.2.1; have eb3z := hSz.2.2.2.2.2.2; go_simp; try with_reducible rfl)⟩) hS0 ?_
  go_simp
  refine wpAnyH_take (i := 13) (v := ?_) rfl (by kernel_rfl) (by kernel_rfl) (by kernel_rfl) (fun _ _ _ h => h) (Or.inl ⟨by kernel_rfl, by (intro wz hSz; go_simp; try with_reducible rfl)⟩) hS0 ?_
  go_simp
  refine wpAnyH_take (i := 14) (v := ?_) rfl (by kernel_rfl) (by kernel_rfl) (by kernel_rfl) (fun _ _ _ h => h) (Or.inl ⟨by kernel_rfl, by (intro wz hSz; go_simp; try with_reducible rfl)⟩) hS0 ?_
  go_simp
  refine wpAnyH_take (i := 15) (v := ?_) rfl (by kernel_rfl) (by kernel_rfl) (by kernel_rfl) (fun _ _ _ h => h) (Or.inl ⟨by kernel_rfl, by (intro wz hSz; have c0_0 := cell_of_row _ _ 0 _ _ _ hSz.1; have c0_1 := cell_of_row _ _ 1 _ _ _ hSz.1; have c0_2 := cell_of_row _ _ 2 _ _ _ hSz.1; have c0_3 := cell_of_row _ _ 3 _ _ _ hSz.1; have c0_4 := cell_of_row _ _ 4 _ _ _ hSz.1; have c0_5 := cell_of_row _ _ 5 _ _ _ hSz.1; have c0_6 := cell_of_row _ _ 6 _ _ _ hSz.1; have c0_7 := cell_of_row _ _ 7 _ _ _ hSz.1; have c0_8 := cell_of_row _ _ 8 _ _ _ hSz.1; have c0_9 := cell_of_row _ _ 9 _ _ _ hSz.1; have c0_10 := cell_of_row _ _ 10 _ _ _ hSz.1; have c0_11 := cell_of_row _ _ 11 _ _ _ hSz.1; have c0_12 := cell_of_row _ _ 12 _ _ _ hSz.1; simp at c0_0 c0_1 c0_2 c0_3 c0_4 c0_5 c0_6 c0_7 c0_8 c0_9 c0_10 c0_11 c0_12; have ea1z := hSz.2.1; have ea2z := hSz.2.2.1; have ea3z := hSz.2.2.2.1; have eb1z := hSz.2.2.2.2.1; have eb2z := hSz.2.2.2.2.2.1; have eb3z := hSz.2.2.2.2.2.2; go_simp; try with_reducible rfl)⟩) hS0 ?_
  go_simp
  refine wpAnyH_ready (rs := [16]) (by kernel_rfl) (by simp) ?_
  refine AllReadyH.cons rfl (fun K hK => ?_) AllReadyH.nil
  go_simp
  go_wp2_with (go_at_call 132; refine (hD _).mono ?_; rintro e y2 ⟨rfl, hb2⟩; have HZ2 := Lib.hid (HZ1.out.trans (hb2.mono HZ1.out.size)))
  have hr2_0 := (hb2.block _ (lt_heap hr1_0)).trans hr1_0
  have HU2 := Lib.hid (HU1.out.trans (hb2.mono HU1.out.size))
  refine hK.out _ _ (⟨(hb2.block _ (lt_heap hS0.1)).trans hS0.1, (hb2.cell (p := ⟨lb, lo + i * 3, none⟩) (World.block_lt_of_cell? _ _ (hS0.2.1))).trans hS0.2.1, (hb2.cell (p := ⟨lb, lo + i * 3 + 1, none⟩) (World.block_lt_of_cell? _ _ (hS0.2.2.1))).trans hS0.2.2.1, (hb2.cell (p := ⟨lb, lo + i * 3 + 2, none⟩) (World.block_lt_of_cell? _ _ (hS0.2.2.2.1))).trans hS0.2.2.2.1, (hb2.cell (p := ⟨lb, lo + k * 3, none⟩) (World.block_lt_of_cell? _ _ (hS0.2.2.2.2.1))).trans hS0.2.2.2.2.1, (hb2.cell (p := ⟨lb, lo + k * 3 + 1, none⟩) (World.block_lt_of_cell? _ _ (hS0.2.2.2.2.2.1))).trans hS0.2.2.2.2.2.1, (hb2.cell (p := ⟨lb, lo + k * 3 + 2, none⟩) (World.block_lt_of_cell? _ _ (hS0.2.2.2.2.2.2))).trans hS0.2.2.2.2.2.2⟩) (fun hS2c => ?_)
  clear hK K
  refine wpAnyH_take (i := 17) (v := ?_) rfl (by kernel_rfl) (by kernel_rfl) (by kernel_rfl) (fun _ _ _ h => h) (Or.inl ⟨by kernel_rfl, by (intro wz hSz; go_simp; try with_reducible rfl)⟩) hS2c ?_
  go_simp
  refine wpAnyH_done (by kernel_rfl) ?_ _
  go_upto_region 4 with fail
  refine wp_region_held_drew (S := fun y => y.heap[pb]? = some (.cells #[.int .i64 W, .int .i64 H, .slice al nl cl, .slice ad nd cd, .slice an nn cn, .slice ab nb cb, .slice ax ns cx, .slice af nf cf, .int .i64 W, .int .i64 H, .slice (some ⟨lb, lo, none⟩) n c, .int .i64 st, .int .i64 ed] 157 (0, 0))) (by kernel_rfl) (hr2_0) (fun hS0 => ?_)
  obtain ⟨y3, hy3⟩ : ∃ y, y2.drew = y := ⟨_, rfl⟩
  have HU3 := Lib.hid (show Below w.heap.size w y3 by rw [← hy3]; exact HU2.out.drew)
  have hr3_0 : y3.heap[pb]? = some (.cells #[.int .i64 W, .int .i64 H, .slice al nl cl, .slice ad nd cd, .slice an nn cn, .slice ab nb cb, .slice ax ns cx, .slice af nf cf, .int .i64 W, .int .i64 H, .slice (some ⟨lb, lo, none⟩) n c, .int .i64 st, .int .i64 ed] 157 (0, 0)) := by rw [← hy3]; exact hr2_0
  have HZ3 := Lib.hid (show Below y0.heap.size y0 y3 by rw [← hy3]; exact HZ2.out.drew)
  rw [hy3] at hS0 ⊢
  clear hy3
  refine wpAnyH_take (i := 0) (v := ?_) rfl (by kernel_rfl) (by kernel_rfl) (by kernel_rfl) (fun _ _ _ h => h) (Or.inl ⟨by kernel_rfl, by (intro wz hSz; go_simp; try with_reducible rfl)⟩) hS0 ?_
  go_simp
  refine wpAnyH_take (i := 1) (v := ?_) rfl (by kernel_rfl) (by kernel_rfl) (by kernel_rfl) (fun _ _ _ h => h) (Or.inl ⟨by kernel_rfl, by (intro wz hSz; go_simp; try with_reducible rfl)⟩) hS0 ?_
  go_simp
  refine wpAnyH_take (i := 2) (v := ?_) rfl (by kernel_rfl) (by kernel_rfl) (by kernel_rfl) (fun _ _ _ h => h) (Or.inl ⟨by kernel_rfl, by (intro wz hSz; go_simp; try with_reducible rfl)⟩) hS0 ?_
  go_simp
  refine wpAnyH_take (i := 3) (v := ?_) rfl (by kernel_rfl) (by kernel_rfl) (by kernel_rfl) (fun _ _ _ h => h) (Or.inl ⟨by kernel_rfl, by (intro wz hSz; go_simp; try with_reducible rfl)⟩) hS0 ?_
  go_simp
  refine wpAnyH_take (i := 4) (v := ?_) rfl (by kernel_rfl) (by kernel_rfl) (by kernel_rfl) (fun _ _ _ h => h) (Or.inl ⟨by kernel_rfl, by (intro wz hSz; go_simp; try with_reducible rfl)⟩) hS0 ?_
  go_simp
  refine wpAnyH_take (i := 6) (v := ?_) rfl (by kernel_rfl) (by kernel_rfl) (by kernel_rfl) (fun _ _ _ h => h) (Or.inl ⟨by kernel_rfl, by (intro wz hSz; go_simp; try with_reducible rfl)⟩) hS0 ?_
  go_simp
  refine wpAnyH_take (i := 7) (v := ?_) rfl (by kernel_rfl) (by kernel_rfl) (by kernel_rfl) (fun _ _ _ h => h) (Or.inl ⟨by kernel_rfl, by (intro wz hSz; go_simp; try with_reducible rfl)⟩) hS0 ?_
  go_simp
  refine wpAnyH_take (i := 8) (v := ?_) rfl (by kernel_rfl) (by kernel_rfl) (by kernel_rfl) (fun _ _ _ h => h) (Or.inl ⟨by kernel_rfl, by (intro wz hSz; go_simp; try with_reducible rfl)⟩) hS0 ?_
  go_simp
  refine wpAnyH_take (i := 9) (v := ?_) rfl (by kernel_rfl) (by kernel_rfl) (by kernel_rfl) (fun _ _ _ h => h) (Or.inl ⟨by kernel_rfl, by (intro wz hSz; have c0_0 := cell_of_row _ _ 0 _ _ _ hSz; have c0_1 := cell_of_row _ _ 1 _ _ _ hSz; have c0_2 := cell_of_row _ _ 2 _ _ _ hSz; have c0_3 := cell_of_row _ _ 3 _ _ _ hSz; have c0_4 := cell_of_row _ _ 4 _ _ _ hSz; have c0_5 := cell_of_row _ _ 5 _ _ _ hSz; have c0_6 := cell_of_row _ _ 6 _ _ _ hSz; have c0_7 := cell_of_row _ _ 7 _ _ _ hSz; have c0_8 := cell_of_row _ _ 8 _ _ _ hSz; have c0_9 := cell_of_row _ _ 9 _ _ _ hSz; have c0_10 := cell_of_row _ _ 10 _ _ _ hSz; have c0_11 := cell_of_row _ _ 11 _ _ _ hSz; have c0_12 := cell_of_row _ _ 12 _ _ _ hSz; simp at c0_0 c0_1 c0_2 c0_3 c0_4 c0_5 c0_6 c0_7 c0_8 c0_9 c0_10 c0_11 c0_12; go_simp; try with_reducible rfl)⟩) hS0 ?_
  go_simp
  refine wpAnyH_take (i := 10) (v := ?_) rfl (by kernel_rfl) (by kernel_rfl) (by kernel_rfl) (fun _ _ _ h => h) (Or.inl ⟨by kernel_rfl, by (intro wz hSz; go_simp; try with_reducible rfl)⟩) hS0 ?_
  go_simp
  refine wpAnyH_ready (rs := [5]) (by kernel_rfl) (by simp) ?_
  refine AllReadyH.cons rfl (fun K hK => ?_) AllReadyH.nil
  go_simp
  go_wp2_with (go_at_call 133; refine (hA _ HZ3.out).mono ?_; rintro e y4 ⟨rfl, hb4⟩)
  have hr4_0 := (hb4.block _ (lt_heap hr3_0)).trans hr3_0
  have HU4 := Lib.hid (HU3.out.trans (hb4.mono HU3.out.size))
  refine hK.out _ _ ((hb4.block _ (lt_heap hS0)).trans hS0) (fun hS4c => ?_)
  clear hK K
  refine wpAnyH_ready (rs := [11]) (by kernel_rfl) (by simp) ?_
  refine AllReadyH.cons rfl (fun K hK => ?_) AllReadyH.nil
  go_simp
  go_wp2_with (go_at_call 134; refine (lsn_any _ _ _).mono ?_; rintro e ww ⟨rfl, rfl⟩)
  refine hK.out _ _ (hS4c) (fun hS4q11 => ?_)
  clear hK K
  refine wpAnyH_ready (rs := [12]) (by kernel_rfl) (by simp) ?_
  refine AllReadyH.cons rfl (fun K hK => ?_) AllReadyH.nil
  go_simp
  go_wp2_with (go_at_call 117; refine (Wa.mul_any _ _ _).mono ?_; rintro e ww ⟨rfl, rfl⟩)
  refine hK.out _ _ (hS4q11) (fun hS4q12 => ?_)
  clear hK K
  refine wpAnyH_take (i := 13) (v := ?_) rfl (by kernel_rfl) (by kernel_rfl) (by kernel_rfl) (fun _ _ _ h => h) (Or.inl ⟨by kernel_rfl, by (intro wz hSz; go_simp; try with_reducible rfl)⟩) hS4q12 ?_
  go_simp
  refine wpAnyH_done (by kernel_rfl) ?_ _
  go_wp2
  go_ret
  exact ⟨rfl, HU4.out⟩

set_option maxHeartbeats 2000000 in
set_option maxRecDepth 100000 in
theorem pixel_u0 (W H : Nat) (st ed : Int) (al ad an ab ax af a : Option Addr) (cl cd cn cb cx cf nl nd nn nb ns nf n c : Nat) (w : World) (pb : Nat) (hr0_0 : w.heap[pb]? = some (.cells #[.int .i64 (W : Nat), .int .i64 (H : Nat), .slice al nl cl, .slice ad nd cd, .slice an nn cn, .slice ab nb cb, .slice ax ns cx, .slice af nf cf, .int .i64 (W : Nat), .int .i64 (H : Nat), .slice a n c, .int .i64 st, .int .i64 ed] 157 (0, 0))) (u v : Int) (c0 : u < 0) : Calls Tryd.prog 116 #[.pointer (some ⟨pb, 0, none⟩), .int .i64 u, .int .i64 v] w fun e' w' => e' = .returned (.tuple #[.int .i64 0, .bool false]) ∧ Below w.heap.size w w' := by
  have d0 : decide (u < 0) = true := decide_eq_true c0
  go_enter Tryd.func116, Tryd.ntmps116
  have c0_0 := cell_of_row _ _ 0 _ _ _ hr0_0
  have c0_1 := cell_of_row _ _ 1 _ _ _ hr0_0
  have c0_2 := cell_of_row _ _ 2 _ _ _ hr0_0
  have c0_3 := cell_of_row _ _ 3 _ _ _ hr0_0
  have c0_4 := cell_of_row _ _ 4 _ _ _ hr0_0
  have c0_5 := cell_of_row _ _ 5 _ _ _ hr0_0
  have c0_6 := cell_of_row _ _ 6 _ _ _ hr0_0
  have c0_7 := cell_of_row _ _ 7 _ _ _ hr0_0
  have c0_8 := cell_of_row _ _ 8 _ _ _ hr0_0
  have c0_9 := cell_of_row _ _ 9 _ _ _ hr0_0
  have c0_10 := cell_of_row _ _ 10 _ _ _ hr0_0
  have c0_11 := cell_of_row _ _ 11 _ _ _ hr0_0
  have c0_12 := cell_of_row _ _ 12 _ _ _ hr0_0
  simp at c0_0 c0_1 c0_2 c0_3 c0_4 c0_5 c0_6 c0_7 c0_8 c0_9 c0_10 c0_11 c0_12
  go_wp2
  exact bodyPost_ret (v := .tuple #[.int .i64 0, .bool false]) (by simp [results, Tryd.results116, go_sem]) rfl ⟨rfl, Below.refl _ _⟩

set_option maxHeartbeats 2000000 in
set_option maxRecDepth 100000 in
theorem pixel_u1 (W H : Nat) (st ed : Int) (al ad an ab ax af a : Option Addr) (cl cd cn cb cx cf nl nd nn nb ns nf n c : Nat) (w : World) (pb : Nat) (hr0_0 : w.heap[pb]? = some (.cells #[.int .i64 (W : Nat), .int .i64 (H : Nat), .slice al nl cl, .slice ad nd cd, .slice an nn cn, .slice ab nb cb, .slice ax ns cx, .slice af nf cf, .int .i64 (W : Nat), .int .i64 (H : Nat), .slice a n c, .int .i64 st, .int .i64 ed] 157 (0, 0))) (u v : Int) (c0 : ¬ u < 0) (c1 : (W : Int) ≤ u) : Calls Tryd.prog 116 #[.pointer (some ⟨pb, 0, none⟩), .int .i64 u, .int .i64 v] w fun e' w' => e' = .returned (.tuple #[.int .i64 0, .bool false]) ∧ Below w.heap.size w w' := by
  have d0 : decide (u < 0) = false := decide_eq_false c0
  have d1 : decide ((W : Int) ≤ u) = true := decide_eq_true c1
  go_enter Tryd.func116, Tryd.ntmps116
  have c0_0 := cell_of_row _ _ 0 _ _ _ hr0_0
  have c0_1 := cell_of_row _ _ 1 _ _ _ hr0_0
  have c0_2 := cell_of_row _ _ 2 _ _ _ hr0_0
  have c0_3 := cell_of_row _ _ 3 _ _ _ hr0_0
  have c0_4 := cell_of_row _ _ 4 _ _ _ hr0_0
  have c0_5 := cell_of_row _ _ 5 _ _ _ hr0_0
  have c0_6 := cell_of_row _ _ 6 _ _ _ hr0_0
  have c0_7 := cell_of_row _ _ 7 _ _ _ hr0_0
  have c0_8 := cell_of_row _ _ 8 _ _ _ hr0_0
  have c0_9 := cell_of_row _ _ 9 _ _ _ hr0_0
  have c0_10 := cell_of_row _ _ 10 _ _ _ hr0_0
  have c0_11 := cell_of_row _ _ 11 _ _ _ hr0_0
  have c0_12 := cell_of_row _ _ 12 _ _ _ hr0_0
  simp at c0_0 c0_1 c0_2 c0_3 c0_4 c0_5 c0_6 c0_7 c0_8 c0_9 c0_10 c0_11 c0_12
  go_wp2
  exact bodyPost_ret (v := .tuple #[.int .i64 0, .bool false]) (by simp [results, Tryd.results116, go_sem]) rfl ⟨rfl, Below.refl _ _⟩

set_option maxHeartbeats 2000000 in
set_option maxRecDepth 100000 in
theorem pixel_v0 (W H : Nat) (st ed : Int) (al ad an ab ax af a : Option Addr) (cl cd cn cb cx cf nl nd nn nb ns nf n c : Nat) (w : World) (pb : Nat) (hr0_0 : w.heap[pb]? = some (.cells #[.int .i64 (W : Nat), .int .i64 (H : Nat), .slice al nl cl, .slice ad nd cd, .slice an nn cn, .slice ab nb cb, .slice ax ns cx, .slice af nf cf, .int .i64 (W : Nat), .int .i64 (H : Nat), .slice a n c, .int .i64 st, .int .i64 ed] 157 (0, 0))) (u v : Int) (c0 : ¬ u < 0) (c1 : ¬ (W : Int) ≤ u) (c2 : v < 0) : Calls Tryd.prog 116 #[.pointer (some ⟨pb, 0, none⟩), .int .i64 u, .int .i64 v] w fun e' w' => e' = .returned (.tuple #[.int .i64 0, .bool false]) ∧ Below w.heap.size w w' := by
  have d0 : decide (u < 0) = false := decide_eq_false c0
  have d1 : decide ((W : Int) ≤ u) = false := decide_eq_false c1
  have d2 : decide (v < 0) = true := decide_eq_true c2
  go_enter Tryd.func116, Tryd.ntmps116
  have c0_0 := cell_of_row _ _ 0 _ _ _ hr0_0
  have c0_1 := cell_of_row _ _ 1 _ _ _ hr0_0
  have c0_2 := cell_of_row _ _ 2 _ _ _ hr0_0
  have c0_3 := cell_of_row _ _ 3 _ _ _ hr0_0
  have c0_4 := cell_of_row _ _ 4 _ _ _ hr0_0
  have c0_5 := cell_of_row _ _ 5 _ _ _ hr0_0
  have c0_6 := cell_of_row _ _ 6 _ _ _ hr0_0
  have c0_7 := cell_of_row _ _ 7 _ _ _ hr0_0
  have c0_8 := cell_of_row _ _ 8 _ _ _ hr0_0
  have c0_9 := cell_of_row _ _ 9 _ _ _ hr0_0
  have c0_10 := cell_of_row _ _ 10 _ _ _ hr0_0
  have c0_11 := cell_of_row _ _ 11 _ _ _ hr0_0
  have c0_12 := cell_of_row _ _ 12 _ _ _ hr0_0
  simp at c0_0 c0_1 c0_2 c0_3 c0_4 c0_5 c0_6 c0_7 c0_8 c0_9 c0_10 c0_11 c0_12
  go_wp2
  exact bodyPost_ret (v := .tuple #[.int .i64 0, .bool false]) (by simp [results, Tryd.results116, go_sem]) rfl ⟨rfl, Below.refl _ _⟩

set_option maxHeartbeats 2000000 in
set_option maxRecDepth 100000 in
theorem pixel_v1 (W H : Nat) (st ed : Int) (al ad an ab ax af a : Option Addr) (cl cd cn cb cx cf nl nd nn nb ns nf n c : Nat) (w : World) (pb : Nat) (hr0_0 : w.heap[pb]? = some (.cells #[.int .i64 (W : Nat), .int .i64 (H : Nat), .slice al nl cl, .slice ad nd cd, .slice an nn cn, .slice ab nb cb, .slice ax ns cx, .slice af nf cf, .int .i64 (W : Nat), .int .i64 (H : Nat), .slice a n c, .int .i64 st, .int .i64 ed] 157 (0, 0))) (u v : Int) (c0 : ¬ u < 0) (c1 : ¬ (W : Int) ≤ u) (c2 : ¬ v < 0) (c3 : (H : Int) ≤ v) : Calls Tryd.prog 116 #[.pointer (some ⟨pb, 0, none⟩), .int .i64 u, .int .i64 v] w fun e' w' => e' = .returned (.tuple #[.int .i64 0, .bool false]) ∧ Below w.heap.size w w' := by
  have d0 : decide (u < 0) = false := decide_eq_false c0
  have d1 : decide ((W : Int) ≤ u) = false := decide_eq_false c1
  have d2 : decide (v < 0) = false := decide_eq_false c2
  have d3 : decide ((H : Int) ≤ v) = true := decide_eq_true c3
  go_enter Tryd.func116, Tryd.ntmps116
  have c0_0 := cell_of_row _ _ 0 _ _ _ hr0_0
  have c0_1 := cell_of_row _ _ 1 _ _ _ hr0_0
  have c0_2 := cell_of_row _ _ 2 _ _ _ hr0_0
  have c0_3 := cell_of_row _ _ 3 _ _ _ hr0_0
  have c0_4 := cell_of_row _ _ 4 _ _ _ hr0_0
  have c0_5 := cell_of_row _ _ 5 _ _ _ hr0_0
  have c0_6 := cell_of_row _ _ 6 _ _ _ hr0_0
  have c0_7 := cell_of_row _ _ 7 _ _ _ hr0_0
  have c0_8 := cell_of_row _ _ 8 _ _ _ hr0_0
  have c0_9 := cell_of_row _ _ 9 _ _ _ hr0_0
  have c0_10 := cell_of_row _ _ 10 _ _ _ hr0_0
  have c0_11 := cell_of_row _ _ 11 _ _ _ hr0_0
  have c0_12 := cell_of_row _ _ 12 _ _ _ hr0_0
  simp at c0_0 c0_1 c0_2 c0_3 c0_4 c0_5 c0_6 c0_7 c0_8 c0_9 c0_10 c0_11 c0_12
  go_wp2
  exact bodyPost_ret (v := .tuple #[.int .i64 0, .bool false]) (by simp [results, Tryd.results116, go_sem]) rfl ⟨rfl, Below.refl _ _⟩

set_option maxHeartbeats 2000000 in
set_option maxRecDepth 100000 in
theorem pixel_in (W H : Nat) (st ed : Int) (al ad an ab ax af a : Option Addr) (cl cd cn cb cx cf nl nd nn nb ns nf n c : Nat) (w : World) (pb : Nat) (hr0_0 : w.heap[pb]? = some (.cells #[.int .i64 (W : Nat), .int .i64 (H : Nat), .slice al nl cl, .slice ad nd cd, .slice an nn cn, .slice ab nb cb, .slice ax ns cx, .slice af nf cf, .int .i64 (W : Nat), .int .i64 (H : Nat), .slice a n c, .int .i64 st, .int .i64 ed] 157 (0, 0))) (u v : Int) (c0 : ¬ u < 0) (c1 : ¬ (W : Int) ≤ u) (c2 : ¬ v < 0) (c3 : ¬ (H : Int) ≤ v) (hW : W ≤ 64) (hH : H ≤ 64) (kk : Nat) (hkk : (kk : Int) = v * W + u) : Calls Tryd.prog 116 #[.pointer (some ⟨pb, 0, none⟩), .int .i64 u, .int .i64 v] w fun e' w' => e' = .returned (.tuple #[.int .i64 (kk : Nat), .bool true]) ∧ Below w.heap.size w w' := by
  have d0 : decide (u < 0) = false := decide_eq_false c0
  have d1 : decide ((W : Int) ≤ u) = false := decide_eq_false c1
  have d2 : decide (v < 0) = false := decide_eq_false c2
  have d3 : decide ((H : Int) ≤ v) = false := decide_eq_false c3
  have hm : 0 ≤ v * (W : Int) ∧ v * (W : Int) ≤ 4096 := ⟨Int.mul_nonneg (by omega) (by omega), by have a := Int.mul_le_mul (show v ≤ 64 by omega) (show (W : Int) ≤ 64 by omega) (by omega) (by omega); omega⟩
  obtain ⟨m, hme⟩ : ∃ m, m = v * (W : Int) := ⟨_, rfl⟩
  rw [← hme] at hm hkk
  have hw1 : IntKind.i64.wrap (v * (W : Int)) = m := by rw [← hme, IntKind.wrap_i64]; omega
  have hw2 : wrap64 (v * (W : Int)) = m := by rw [← hme]; unfold wrap64; omega
  have hw3 : IntKind.i64.wrap (m + u) = (kk : Int) := by rw [IntKind.wrap_i64]; omega
  have hw4 : wrap64 (m + u) = (kk : Int) := by unfold wrap64; omega
  clear hme hkk
  go_enter Tryd.func116, Tryd.ntmps116
  have c0_0 := cell_of_row _ _ 0 _ _ _ hr0_0
  have c0_1 := cell_of_row _ _ 1 _ _ _ hr0_0
  have c0_2 := cell_of_row _ _ 2 _ _ _ hr0_0
  have c0_3 := cell_of_row _ _ 3 _ _ _ hr0_0
  have c0_4 := cell_of_row _ _ 4 _ _ _ hr0_0
  have c0_5 := cell_of_row _ _ 5 _ _ _ hr0_0
  have c0_6 := cell_of_row _ _ 6 _ _ _ hr0_0
  have c0_7 := cell_of_row _ _ 7 _ _ _ hr0_0
  have c0_8 := cell_of_row _ _ 8 _ _ _ hr0_0
  have c0_9 := cell_of_row _ _ 9 _ _ _ hr0_0
  have c0_10 := cell_of_row _ _ 10 _ _ _ hr0_0
  have c0_11 := cell_of_row _ _ 11 _ _ _ hr0_0
  have c0_12 := cell_of_row _ _ 12 _ _ _ hr0_0
  simp at c0_0 c0_1 c0_2 c0_3 c0_4 c0_5 c0_6 c0_7 c0_8 c0_9 c0_10 c0_11 c0_12
  go_wp2
  exact bodyPost_ret (v := .tuple #[.int .i64 (kk : Nat), .bool true]) (by simp [results, Tryd.results116, go_sem]) rfl ⟨rfl, Below.refl _ _⟩

end Go.Proofs.YtpinpkhalccjhaaDoor.Fm
