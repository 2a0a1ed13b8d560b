/- Films mixed, by the program: copies. -/
import Derived.Test.YtgpbnpnnbipfpaaE46
import Derived.Lib.SliceRun
import Derived.Deep.AppendLies
import Derived.WalkKit
namespace Go.Proofs.Ytgpbnpnnbipfpaa.Fm
open Go Go.RowKit Go.Proofs.Ytgpbnpnnbipfpaa Go.Proofs.Ytgpbnpnnbipfpaa.Rp Go.Proofs.Ytgpbnpnnbipfpaa.Re Go.Proofs.Ytgpbnpnnbipfpaa.Au Go.Proofs.Ytgpbnpnnbipfpaa.Jw
set_option linter.unusedVariables false
set_option linter.unusedSimpArgs false

theorem own_lower {w : World} {b1 b2 : Nat} {e : TypeId} {size n : Nat} {v : Value} {xs : List Value} (h : w.ownsRow b1 e size v n xs) (hb : b2 ≤ b1) : w.ownsRow b2 e size v n xs := by
  refine ⟨h.1, ?_⟩
  rcases h.2 with hn | ⟨q, cap, cur, rfl, h1, h2⟩
  · exact .inl hn
  · exact .inr ⟨q, cap, cur, rfl, by omega, h2⟩

set_option maxHeartbeats 2000000 in
theorem clone_any (b off n c : Nat) (L : Nat → Int) (w : World) (hn0 : 0 < n) (hn : n * 24 ≤ 140737488351232) (hc : ∀ j, j < n * 3 → w.cell? ⟨b, off + j, none⟩ = some (.int .i64 (L j))) :
    Calls Try.prog 34 #[.slice (some ⟨b, off, none⟩) n c] w fun e' w' => (∃ g cap, e' = .returned (.slice (some ⟨g, 0, none⟩) n cap) ∧ w'.ownsRow w.heap.size 62 3 (.slice (some ⟨g, 0, none⟩) n cap) n (flatc 3 L n)) ∧ Below w.heap.size w w' := by
  obtain ⟨i0, hi, hz0, hz1, hz2⟩ := info_parts info_hue
  have q34 : ∀ (w : World) (a : Option Addr) (n c n' c' : Nat), (binOp .eql 34 (.slice a n c) (.slice none n' c')).run Try.prog w = .ok (.bool a.isNone) w := fun w a n c n' c' => Lib.run_eql_slice_nil w _ _ a n c n' c' Try.underlying34
  have A := Lib.hid hc
  clear hc
  have HN := Lib.hid hn0
  clear hn0
  go_enter Try.func34, Try.ntmps34
  go_wp2_with (at_builtin; refine wpList_append_lies _ rfl _ _ 34 rfl w.heap.size 62 i0 (.agg #[.int .i64 0, .int .i64 0, .int .i64 0]) 3 24 Try.underlying34 hi hz0 hz1 hz2 rfl (by decide) _ _ _ rfl (World.ownsRow_made w #[] 0 (Nat.le_refl _) (Nat.zero_le _) rfl) ⟨b, off, none⟩ n c (flatc 3 L n) rfl ?c0 ?c1 (flatc_one 3 L n) HN.out ?c3 ?c4 ?c5 _ rfl ?_)
  case c0 => exact flatc_len 3 L n
  case c1 =>
    intro j u hj
    have hjn : j < n * 3 := by
      have := (List.getElem?_eq_some_iff.1 hj).1
      rw [flatc_len] at this
      exact this
    rw [flatc_at 3 L n j hjn] at hj
    cases hj
    have hx := A.out j hjn
    have he : (⟨b, off, none⟩ : Addr).add j = ⟨b, off + j, none⟩ := by unfold Addr.add; split <;> simp_all
    rw [he]
    exact Lib.cell?_alloc_some _ hx
  case c3 => unfold maxLen; omega
  case c4 => omega
  case c5 => simp
  intro g cap w1 hown hgrow hg hlt
  have HW := Lib.hid hown
  have HG := Lib.hid hgrow
  clear hown hgrow
  go_wp2
  go_ret
  refine ⟨⟨g, cap, by simp, by simpa using HW.out⟩, ?_⟩
  exact ((Below.refl _ w).alloc (Nat.le_refl _) _).grown HG.out (by simp) (by intro k hk; simp [Value.ownBlock] at hk; omega)

set_option maxHeartbeats 4000000 in
set_option maxRecDepth 100000 in
theorem copied_letters (W H : Int) (b off n c : Nat) (L : Nat → Int) (w : World) (hn0 : 0 < n) (hn : n * 24 ≤ 140737488351232) (hc : ∀ j, j < n * 3 → w.cell? ⟨b, off + j, none⟩ = some (.int .i64 (L j))) : Calls Try.prog 24 #[.agg #[.int .i64 W, .int .i64 H, .slice (some ⟨b, off, none⟩) n c]] w fun e' w' => (∃ g cap, e' = .returned (.agg #[.int .i64 W, .int .i64 H, .slice (some ⟨g, 0, none⟩) n cap]) ∧ w'.ownsRow w.heap.size 62 3 (.slice (some ⟨g, 0, none⟩) n cap) n (flatc 3 L n)) ∧ Below w.heap.size w w' := by
  have HC := Lib.hid hc
  clear hc
  have HN := Lib.hid (And.intro hn0 hn)
  clear hn0 hn
  go_enter Try.func24, Try.ntmps24
  go_upto_region 1 with fail
  have hR := Au.rows2 w (.cells #[.int .i64 W, .int .i64 H, .slice (some ⟨b, off, none⟩) n c] 36) (.cells #[.int .i64 0, .int .i64 0, .slice none 0 0] 36)
  have HUx := Ve.below_n2 w (.cells #[.int .i64 W, .int .i64 H, .slice (some ⟨b, off, none⟩) n c] 36) (.cells #[.int .i64 0, .int .i64 0, .slice none 0 0] 36)
  obtain ⟨y0, hy0⟩ : ∃ y0, (w.alloc (.cells #[.int .i64 W, .int .i64 H, .slice (some ⟨b, off, none⟩) n c] 36)).alloc (.cells #[.int .i64 0, .int .i64 0, .slice none 0 0] 36) = y0 := ⟨_, rfl⟩
  rw [hy0] at hR HUx ⊢
  clear hy0
  have HU0 := Lib.hid HUx
  clear HUx
  obtain ⟨hr0_0, hr0_1⟩ := hR
  refine wp_region_held_drew (S := fun y => y.heap[w.heap.size]? = some (.cells #[.int .i64 W, .int .i64 H, .slice (some ⟨b, off, none⟩) n c] 36 (0, 0))) (by kernel_rfl) (hr0_0) (fun hS0 => ?_)
  obtain ⟨y1, hy1⟩ : ∃ y, y0.drew = y := ⟨_, rfl⟩
  have HU1 := Lib.hid (show Below w.heap.size w y1 by rw [← hy1]; exact HU0.out.drew)
  have hr1_0 : y1.heap[w.heap.size]? = some (.cells #[.int .i64 W, .int .i64 H, .slice (some ⟨b, off, none⟩) n c] 36 (0, 0)) := by rw [← hy1]; exact hr0_0
  have hr1_1 : y1.heap[w.heap.size + 1]? = some (.cells #[.int .i64 0, .int .i64 0, .slice none 0 0] 36 (0, 0)) := by rw [← hy1]; exact hr0_1
  rw [hy1] at hS0 ⊢
  clear hy1
  refine wpAnyH_take (i := 0) (v := ?_) rfl (by kernel_rfl) (by kernel_rfl) (by kernel_rfl) (fun _ _ _ h => h) (Or.inl ⟨by kernel_rfl, by (intro wz hSz; go_simp; try with_reducible rfl)⟩) hS0 ?_
  go_simp
  refine wpAnyH_take (i := 1) (v := ?_) rfl (by kernel_rfl) (by kernel_rfl) (by kernel_rfl) (fun _ _ _ h => h) (Or.inl ⟨by kernel_rfl, by (intro wz hSz; have c0_0 := cell_of_row _ _ 0 _ _ _ hSz; have c0_1 := cell_of_row _ _ 1 _ _ _ hSz; have c0_2 := cell_of_row _ _ 2 _ _ _ hSz; simp at c0_0 c0_1 c0_2; go_simp; try with_reducible rfl)⟩) hS0 ?_
  go_simp
  refine wpAnyH_take (i := 2) (v := ?_) rfl (by kernel_rfl) (by kernel_rfl) (by kernel_rfl) (fun _ _ _ h => h) (Or.inl ⟨by kernel_rfl, by (intro wz hSz; go_simp; try with_reducible rfl)⟩) hS0 ?_
  go_simp
  refine wpAnyH_take (i := 3) (v := ?_) rfl (by kernel_rfl) (by kernel_rfl) (by kernel_rfl) (fun _ _ _ h => h) (Or.inl ⟨by kernel_rfl, by (intro wz hSz; have c0_0 := cell_of_row _ _ 0 _ _ _ hSz; have c0_1 := cell_of_row _ _ 1 _ _ _ hSz; have c0_2 := cell_of_row _ _ 2 _ _ _ hSz; simp at c0_0 c0_1 c0_2; go_simp; try with_reducible rfl)⟩) hS0 ?_
  go_simp
  refine wpAnyH_ready (rs := [4]) (by kernel_rfl) (by simp) ?_
  refine AllReadyH.cons rfl (fun K hK => ?_) AllReadyH.nil
  go_simp
  go_wp2_with (go_at_call 34; refine (clone_any b off n c L _ HN.out.1 HN.out.2 (fun j hj => (HU1.out.cell (p := ⟨b, off + j, none⟩) (World.block_lt_of_cell? _ _ (HC.out j hj))).trans (HC.out j hj))).mono ?_; rintro e y2 ⟨⟨g2, cap2, rfl, how⟩, hb2⟩)
  have hr2_0 := (hb2.block _ (lt_heap hr1_0)).trans hr1_0
  have hr2_1 := (hb2.block _ (lt_heap hr1_1)).trans hr1_1
  have HU2 := Lib.hid (HU1.out.trans (hb2.mono HU1.out.size))
  refine hK.out _ _ ((hb2.block _ (lt_heap hS0)).trans hS0) (fun hS2c => ?_)
  clear hK K
  refine wpAnyH_take (i := 5) (v := ?_) rfl (by kernel_rfl) (by kernel_rfl) (by kernel_rfl) (fun _ _ _ h => h) (Or.inl ⟨by kernel_rfl, by (intro wz hSz; go_simp; try with_reducible rfl)⟩) hS2c ?_
  go_simp
  refine wpAnyH_ready (rs := [6]) (by kernel_rfl) (by simp) ?_
  refine AllReadyH.cons rfl (fun K hK => ?_) AllReadyH.nil
  refine step_store_row rfl 36 (.tmp 2) (.tmp 8) rfl #[.int .i64 0, .int .i64 0, .slice none 0 0] #[.int .i64 W, .int .i64 H, .slice (some ⟨g2, 0, none⟩) n cap2] _ 36 hr2_1 rfl (by first | rfl | (go_simp; done) | (go_simp; rfl)) (by kernel_rfl) rfl (by simp [Value.oneCell']) ?_
  have hN := setRow_heap _ (w.heap.size + 1) _ #[.int .i64 W, .int .i64 H, .slice (some ⟨g2, 0, none⟩) n cap2] _ _ hr2_1
  have hsz := HU2.out.size
  have HUx := below_setRow (g := w.heap.size + 1) HU2.out (by first | omega | (simp at *; omega)) #[.int .i64 W, .int .i64 H, .slice (some ⟨g2, 0, none⟩) n cap2]
  obtain ⟨y3, hy3⟩ : ∃ y, y2.setRow (w.heap.size + 1) #[.int .i64 W, .int .i64 H, .slice (some ⟨g2, 0, none⟩) n cap2] = y := ⟨_, rfl⟩
  have hO : ∀ k, k ≠ w.heap.size + 1 → y3.heap[k]? = y2.heap[k]? := fun k hk => by rw [← hy3]; exact setRow_other _ _ _ _ hk
  rw [hy3] at hN HUx ⊢
  clear hy3
  have HU3 := Lib.hid HUx
  clear HUx
  have hr3_0 := (hO _ (by omega)).trans hr2_0
  have hr3_1 := hN
  clear hN
  refine hK.out _ _ ((hO _ (by omega)).trans hS2c) (fun hS3s => ?_)
  clear hK K
  refine wpAnyH_done (by kernel_rfl) ?_ _
  have hown := own_lower (b2 := w.heap.size) (own_via how (fun q hq => hO q (by have := (how.lt q hq).1; have := lt_heap hr1_1; omega))) HU1.out.size
  have HOW := Lib.hid hown
  clear hown how
  have c1_0 := cell_of_row _ _ 0 _ _ _ hr3_1
  have c1_1 := cell_of_row _ _ 1 _ _ _ hr3_1
  have c1_2 := cell_of_row _ _ 2 _ _ _ hr3_1
  simp at c1_0 c1_1 c1_2
  go_wp2
  exact bodyPost_ret (v := .agg #[.int .i64 W, .int .i64 H, .slice (some ⟨g2, 0, none⟩) n cap2]) (by simp [results, Try.results24, go_sem, c1_0, c1_1, c1_2]) rfl ⟨⟨g2, cap2, rfl, HOW.out⟩, HU3.out⟩

theorem copied_any (W H : Int) (a : Option Addr) (n c : Nat) (L : Nat → Int) (w : World) (hr : Rw 3 w a n L) (hn0 : 0 < n) (hn : n * 24 ≤ 140737488351232) :
    Calls Try.prog 24 #[.agg #[.int .i64 W, .int .i64 H, .slice a n c]] w fun e' w' => (∃ g cap, e' = .returned (.agg #[.int .i64 W, .int .i64 H, .slice (some ⟨g, 0, none⟩) n cap]) ∧ w'.ownsRow w.heap.size 62 3 (.slice (some ⟨g, 0, none⟩) n cap) n (flatc 3 L n)) ∧ Below w.heap.size w w' := by
  rcases hr with h | ⟨b, off, rfl, hlt, hc⟩
  · omega
  · exact copied_letters W H b off n c L w hn0 hn hc

set_option maxHeartbeats 4000000 in
set_option maxRecDepth 100000 in
theorem alone_no (W H : Int) (al ad an ab ax af : Option Addr) (cl cd cn cb cx cf nl nd nn nb ns nf : Nat) (L D N B S F : Nat → Int) (w : World) (hf : FAt w (⟨W, H, nl, nd, nn, nb, ns, nf, L, D, N, B, S, F⟩ : Flm) (⟨al, cl, ad, cd, an, cn, ab, cb, ax, cx, af, cf⟩ : Pl)) (ho : ¬ okF (⟨W, H, nl, nd, nn, nb, ns, nf, L, D, N, B, S, F⟩ : Flm)) : Calls Try.prog 11 #[.agg #[.int .i64 W, .int .i64 H, .slice al nl cl, .slice ad nd cd, .slice an nn cn, .slice ab nb cb, .slice ax ns cx, .slice af nf cf]] w fun e' w' => e' = .returned (.tuple #[.agg #[.int .i64 0, .int .i64 0, .slice none 0 0], .int .i64 1]) ∧ Below w.heap.size w w' := by
  have HF := Lib.hid hf
  clear hf
  have HO := Lib.hid ho
  clear ho
  go_enter Try.func11, Try.ntmps11
  go_upto_region 1 with fail
  have hR := Au.rows2 w (.cells #[.int .i64 W, .int .i64 H, .slice al nl cl, .slice ad nd cd, .slice an nn cn, .slice ab nb cb, .slice ax ns cx, .slice af nf cf] 40) (.cells #[.int .i64 0, .int .i64 0, .slice none 0 0] 36)
  have HUx := Ve.below_n2 w (.cells #[.int .i64 W, .int .i64 H, .slice al nl cl, .slice ad nd cd, .slice an nn cn, .slice ab nb cb, .slice ax ns cx, .slice af nf cf] 40) (.cells #[.int .i64 0, .int .i64 0, .slice none 0 0] 36)
  obtain ⟨y0, hy0⟩ : ∃ y0, (w.alloc (.cells #[.int .i64 W, .int .i64 H, .slice al nl cl, .slice ad nd cd, .slice an nn cn, .slice ab nb cb, .slice ax ns cx, .slice af nf cf] 40)).alloc (.cells #[.int .i64 0, .int .i64 0, .slice none 0 0] 36) = y0 := ⟨_, rfl⟩
  rw [hy0] at hR HUx ⊢
  clear hy0
  have HU0 := Lib.hid HUx
  clear HUx
  obtain ⟨hr0_0, hr0_1⟩ := hR
  have c0_0 := cell_of_row _ _ 0 _ _ _ hr0_0
  have c0_1 := cell_of_row _ _ 1 _ _ _ hr0_0
  have c0_2 := cell_of_row _ _ 2 _ _ _ hr0_0
  have c0_3 := cell_of_row _ _ 3 _ _ _ hr0_0
  have c0_4 := cell_of_row _ _ 4 _ _ _ hr0_0
  have c0_5 := cell_of_row _ _ 5 _ _ _ hr0_0
  have c0_6 := cell_of_row _ _ 6 _ _ _ hr0_0
  have c0_7 := cell_of_row _ _ 7 _ _ _ hr0_0
  simp at c0_0 c0_1 c0_2 c0_3 c0_4 c0_5 c0_6 c0_7
  go_wp2_with fail
  refine (fright_any (⟨W, H, nl, nd, nn, nb, ns, nf, L, D, N, B, S, F⟩ : Flm) (⟨al, cl, ad, cd, an, cn, ab, cb, ax, cx, af, cf⟩ : Pl) _ (HF.out.on HU0.out)).mono ?_
  rintro e y1 ⟨rfl, hb1⟩
  clear c0_0 c0_1 c0_2 c0_3 c0_4 c0_5 c0_6 c0_7
  have hr1_0 := (hb1.block _ (lt_heap hr0_0)).trans hr0_0
  have hr1_1 := (hb1.block _ (lt_heap hr0_1)).trans hr0_1
  have HU1 := Lib.hid (HU0.out.trans (hb1.mono HU0.out.size))
  clear hr0_0 hr0_1 HU0
  rw [decide_eq_false HO.out]
  have c0_0 := cell_of_row _ _ 0 _ _ _ hr1_0
  have c0_1 := cell_of_row _ _ 1 _ _ _ hr1_0
  have c0_2 := cell_of_row _ _ 2 _ _ _ hr1_0
  have c0_3 := cell_of_row _ _ 3 _ _ _ hr1_0
  have c0_4 := cell_of_row _ _ 4 _ _ _ hr1_0
  have c0_5 := cell_of_row _ _ 5 _ _ _ hr1_0
  have c0_6 := cell_of_row _ _ 6 _ _ _ hr1_0
  have c0_7 := cell_of_row _ _ 7 _ _ _ hr1_0
  simp at c0_0 c0_1 c0_2 c0_3 c0_4 c0_5 c0_6 c0_7
  go_upto_region 2 with fail
  have hHr := Lib.hid hr1_1
  have hHi := Lib.hid (show (Try.prog.info? 36).map (·.size) = some (#[.int .i64 0, .int .i64 0, .slice none 0 0] : Array Value).size by kernel_rfl)
  have hHz := Lib.hid (show (#[.int .i64 0, .int .i64 0, .slice none 0 0] : Array Value).size = (#[.int .i64 0, .int .i64 0, .slice none 0 0] : Array Value).size from rfl)
  have hHo := Lib.hid (show (#[.int .i64 0, .int .i64 0, .slice none 0 0] : Array Value).all (·.oneCell') = true by simp [Value.oneCell'])
  go_wp2_with (first | (refine Au.wpList_store_row rfl 36 (.tmp 2) (.tmp 7) rfl y1 #[.int .i64 0, .int .i64 0, .slice none 0 0] #[.int .i64 0, .int .i64 0, .slice none 0 0] (w.heap.size + 1) 36 hHr.out rfl rfl hHi.out hHz.out hHo.out ?_))
  clear c0_0 c0_1 c0_2 c0_3 c0_4 c0_5 c0_6 c0_7
  clear hHr hHi hHz hHo
  have hN := setRow_heap _ (w.heap.size + 1) _ #[.int .i64 0, .int .i64 0, .slice none 0 0] _ _ hr1_1
  have hsz := HU1.out.size
  have HUx := below_setRow (g := w.heap.size + 1) HU1.out (by first | omega | (simp at *; omega)) #[.int .i64 0, .int .i64 0, .slice none 0 0]
  have hO : ∀ kk, kk ≠ w.heap.size + 1 → (y1.setRow (w.heap.size + 1) #[.int .i64 0, .int .i64 0, .slice none 0 0]).heap[kk]? = y1.heap[kk]? := fun kk hk => setRow_other _ _ _ _ hk
  obtain ⟨y2, hy2⟩ : ∃ y, y1.setRow (w.heap.size + 1) #[.int .i64 0, .int .i64 0, .slice none 0 0] = y := ⟨_, rfl⟩
  rw [hy2] at hN HUx hO ⊢
  clear hy2 hsz
  have HU2 := Lib.hid HUx
  clear HUx
  have hr2_0 := (hO _ (by omega)).trans hr1_0
  have hr2_1 := hN
  clear hN hO
  clear hr1_0 hr1_1 HU1
  have c1_0 := cell_of_row _ _ 0 _ _ _ hr2_1
  have c1_1 := cell_of_row _ _ 1 _ _ _ hr2_1
  have c1_2 := cell_of_row _ _ 2 _ _ _ hr2_1
  simp at c1_0 c1_1 c1_2
  go_wp2
  exact bodyPost_ret (v := .tuple #[.agg #[.int .i64 0, .int .i64 0, .slice none 0 0], .int .i64 1]) (by simp [results, Try.results11, go_sem, c1_0, c1_1, c1_2]) rfl ⟨rfl, HU2.out⟩

set_option maxHeartbeats 4000000 in
set_option maxRecDepth 100000 in
theorem alone_ok (W H : Int) (al ad an ab ax af : Option Addr) (cl cd cn cb cx cf nl nd nn nb ns nf : Nat) (L D N B S F : Nat → Int) (w : World) (hf : FAt w (⟨W, H, nl, nd, nn, nb, ns, nf, L, D, N, B, S, F⟩ : Flm) (⟨al, cl, ad, cd, an, cn, ab, cb, ax, cx, af, cf⟩ : Pl)) (ho : okF (⟨W, H, nl, nd, nn, nb, ns, nf, L, D, N, B, S, F⟩ : Flm)) : Calls Try.prog 11 #[.agg #[.int .i64 W, .int .i64 H, .slice al nl cl, .slice ad nd cd, .slice an nn cn, .slice ab nb cb, .slice ax ns cx, .slice af nf cf]] w fun e' w' => (∃ g cap, e' = .returned (.tuple #[.agg #[.int .i64 W, .int .i64 H, .slice (some ⟨g, 0, none⟩) nl cap], .int .i64 0]) ∧ w'.ownsRow w.heap.size 62 3 (.slice (some ⟨g, 0, none⟩) nl cap) nl (flatc 3 L nl)) ∧ Below w.heap.size w w' := by
  have HF := Lib.hid hf
  clear hf
  have HO := Lib.hid ho
  clear ho
  have HN := Lib.hid (show 0 < nl ∧ nl * 24 ≤ 140737488351232 by have := okSz_mul HO.out.1.1; have := HO.out.1.2; simp only [] at *; omega)
  go_enter Try.func11, Try.ntmps11
  go_upto_region 1 with fail
  have hR := Au.rows2 w (.cells #[.int .i64 W, .int .i64 H, .slice al nl cl, .slice ad nd cd, .slice an nn cn, .slice ab nb cb, .slice ax ns cx, .slice af nf cf] 40) (.cells #[.int .i64 0, .int .i64 0, .slice none 0 0] 36)
  have HUx := Ve.below_n2 w (.cells #[.int .i64 W, .int .i64 H, .slice al nl cl, .slice ad nd cd, .slice an nn cn, .slice ab nb cb, .slice ax ns cx, .slice af nf cf] 40) (.cells #[.int .i64 0, .int .i64 0, .slice none 0 0] 36)
  obtain ⟨y0, hy0⟩ : ∃ y0, (w.alloc (.cells #[.int .i64 W, .int .i64 H, .slice al nl cl, .slice ad nd cd, .slice an nn cn, .slice ab nb cb, .slice ax ns cx, .slice af nf cf] 40)).alloc (.cells #[.int .i64 0, .int .i64 0, .slice none 0 0] 36) = y0 := ⟨_, rfl⟩
  rw [hy0] at hR HUx ⊢
  clear hy0
  have HU0 := Lib.hid HUx
  clear HUx
  obtain ⟨hr0_0, hr0_1⟩ := hR
  have c0_0 := cell_of_row _ _ 0 _ _ _ hr0_0
  have c0_1 := cell_of_row _ _ 1 _ _ _ hr0_0
  have c0_2 := cell_of_row _ _ 2 _ _ _ hr0_0
  have c0_3 := cell_of_row _ _ 3 _ _ _ hr0_0
  have c0_4 := cell_of_row _ _ 4 _ _ _ hr0_0
  have c0_5 := cell_of_row _ _ 5 _ _ _ hr0_0
  have c0_6 := cell_of_row _ _ 6 _ _ _ hr0_0
  have c0_7 := cell_of_row _ _ 7 _ _ _ hr0_0
  simp at c0_0 c0_1 c0_2 c0_3 c0_4 c0_5 c0_6 c0_7
  go_wp2_with fail
  refine (fright_any (⟨W, H, nl, nd, nn, nb, ns, nf, L, D, N, B, S, F⟩ : Flm) (⟨al, cl, ad, cd, an, cn, ab, cb, ax, cx, af, cf⟩ : Pl) _ (HF.out.on HU0.out)).mono ?_
  rintro e y1 ⟨rfl, hb1⟩
  clear c0_0 c0_1 c0_2 c0_3 c0_4 c0_5 c0_6 c0_7
  have hr1_0 := (hb1.block _ (lt_heap hr0_0)).trans hr0_0
  have hr1_1 := (hb1.block _ (lt_heap hr0_1)).trans hr0_1
  have HU1 := Lib.hid (HU0.out.trans (hb1.mono HU0.out.size))
  clear hr0_0 hr0_1 HU0
  rw [decide_eq_true HO.out]
  have c0_0 := cell_of_row _ _ 0 _ _ _ hr1_0
  have c0_1 := cell_of_row _ _ 1 _ _ _ hr1_0
  have c0_2 := cell_of_row _ _ 2 _ _ _ hr1_0
  have c0_3 := cell_of_row _ _ 3 _ _ _ hr1_0
  have c0_4 := cell_of_row _ _ 4 _ _ _ hr1_0
  have c0_5 := cell_of_row _ _ 5 _ _ _ hr1_0
  have c0_6 := cell_of_row _ _ 6 _ _ _ hr1_0
  have c0_7 := cell_of_row _ _ 7 _ _ _ hr1_0
  simp at c0_0 c0_1 c0_2 c0_3 c0_4 c0_5 c0_6 c0_7
  go_wp2_with fail
  have hOld := lt_heap hr1_1
  have hOl2 := HU1.out.size
  refine (copied_any W H al nl cl L _ (HF.out.l.on HU1.out) HN.out.1 HN.out.2).mono ?_
  rintro e y2 ⟨⟨g2, cap2, rfl, how⟩, hb2⟩
  clear c0_0 c0_1 c0_2 c0_3 c0_4 c0_5 c0_6 c0_7
  have hr2_0 := (hb2.block _ (lt_heap hr1_0)).trans hr1_0
  have hr2_1 := (hb2.block _ (lt_heap hr1_1)).trans hr1_1
  have HU2 := Lib.hid (HU1.out.trans (hb2.mono HU1.out.size))
  clear hr1_0 hr1_1 HU1
  have HOW := Lib.hid how
  clear how
  have hHr := Lib.hid hr2_1
  have hHi := Lib.hid (show (Try.prog.info? 36).map (·.size) = some (#[.int .i64 W, .int .i64 H, .slice (some ⟨g2, 0, none⟩) nl cap2] : Array Value).size by kernel_rfl)
  have hHz := Lib.hid (show (#[.int .i64 0, .int .i64 0, .slice none 0 0] : Array Value).size = (#[.int .i64 W, .int .i64 H, .slice (some ⟨g2, 0, none⟩) nl cap2] : Array Value).size from rfl)
  have hHo := Lib.hid (show (#[.int .i64 W, .int .i64 H, .slice (some ⟨g2, 0, none⟩) nl cap2] : Array Value).all (·.oneCell') = true by simp [Value.oneCell'])
  go_wp2_with (first | (refine Au.wpList_store_row rfl 36 (.tmp 2) (.tmp 10) rfl y2 #[.int .i64 0, .int .i64 0, .slice none 0 0] #[.int .i64 W, .int .i64 H, .slice (some ⟨g2, 0, none⟩) nl cap2] (w.heap.size + 1) 36 hHr.out rfl rfl hHi.out hHz.out hHo.out ?_))
  clear hHr hHi hHz hHo
  have hN := setRow_heap _ (w.heap.size + 1) _ #[.int .i64 W, .int .i64 H, .slice (some ⟨g2, 0, none⟩) nl cap2] _ _ hr2_1
  have hsz := HU2.out.size
  have HUx := below_setRow (g := w.heap.size + 1) HU2.out (by first | omega | (simp at *; omega)) #[.int .i64 W, .int .i64 H, .slice (some ⟨g2, 0, none⟩) nl cap2]
  have hO : ∀ kk, kk ≠ w.heap.size + 1 → (y2.setRow (w.heap.size + 1) #[.int .i64 W, .int .i64 H, .slice (some ⟨g2, 0, none⟩) nl cap2]).heap[kk]? = y2.heap[kk]? := fun kk hk => setRow_other _ _ _ _ hk
  obtain ⟨y3, hy3⟩ : ∃ y, y2.setRow (w.heap.size + 1) #[.int .i64 W, .int .i64 H, .slice (some ⟨g2, 0, none⟩) nl cap2] = y := ⟨_, rfl⟩
  rw [hy3] at hN HUx hO ⊢
  clear hy3 hsz
  have HU3 := Lib.hid HUx
  clear HUx
  have hr3_0 := (hO _ (by omega)).trans hr2_0
  have hr3_1 := hN
  have hown := own_lower (b2 := w.heap.size) (own_via HOW.out (fun q hq => hO q (by have := (HOW.out.lt q hq).1; have := hOld; omega))) hOl2
  have HOX := Lib.hid hown
  clear hown HOW hN hO
  clear hr2_0 hr2_1 HU2
  have c1_0 := cell_of_row _ _ 0 _ _ _ hr3_1
  have c1_1 := cell_of_row _ _ 1 _ _ _ hr3_1
  have c1_2 := cell_of_row _ _ 2 _ _ _ hr3_1
  simp at c1_0 c1_1 c1_2
  go_wp2
  exact bodyPost_ret (v := .tuple #[.agg #[.int .i64 W, .int .i64 H, .slice (some ⟨g2, 0, none⟩) nl cap2], .int .i64 0]) (by simp [results, Try.results11, go_sem, c1_0, c1_1, c1_2]) rfl ⟨⟨g2, cap2, rfl, HOX.out⟩, HU3.out⟩

end Go.Proofs.Ytgpbnpnnbipfpaa.Fm
