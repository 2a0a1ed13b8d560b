/- Films, sheets: from the program's to the document's: a film. -/
import Derived.Test.YtgkfoiekminfmaaFd
import Derived.Test.YtgkfoiekminfmaaFs
import Derived.Test.YtgkfoiekminfmaaRr
namespace Go.Proofs.Ytgkfoiekminfmaa.Fm
open Go Go.RowKit Go.Proofs.Ytgkfoiekminfmaa Go.Proofs.Ytgkfoiekminfmaa.Rp Go.Proofs.Ytgkfoiekminfmaa.Re Go.Proofs.Ytgkfoiekminfmaa.Au Go.Proofs.Ytgkfoiekminfmaa.Jw
set_option linter.unusedVariables false
set_option linter.unusedSimpArgs false

/-- a film of nothing, in a block; the film that is begun -/
abbrev cqd (W H : Int) (al : Option Addr) (nl cl : Nat) (as_ : Option Addr) (ns cs : Nat) (af : Option Addr) (nf cf : Nat) : Array Value := #[.int .i64 W, .int .i64 H, .slice al nl cl, .slice none 0 0, .slice none 0 0, .slice none 0 0, .slice as_ ns cs, .slice af nf cf]
abbrev ZFd : Obj := .cells #[.int .i64 0, .int .i64 0, .slice none 0 0, .slice none 0 0, .slice none 0 0, .slice none 0 0, .slice none 0 0, .slice none 0 0] 29

theorem from_close {w z : World} {q : Nat} {CQ : Array Value} {ob oR : Obj} {al : Option Addr} {nl : Nat} {L : Nat → Int} {c0 : Array Value} (hQ : z.heap[q]? = some (.cells c0 29 (0, 0))) (hB : z.heap[w.heap.size]? = some ob) (hR : z.heap[w.heap.size + 1]? = some oR) (hU : Below w.heap.size w z) (hq : w.heap.size + 1 < q)
    (RL : RwX q (w.heap.size + 1) 3 z al nl L) :
    (z.setRow q CQ).heap[q]? = some (.cells CQ 29 (0, 0)) ∧ (z.setRow q CQ).heap[w.heap.size]? = some ob ∧ (z.setRow q CQ).heap[w.heap.size + 1]? = some oR ∧ Hid (RwX q (w.heap.size + 1) 3 (z.setRow q CQ) al nl L) ∧ Hid (Below w.heap.size w (z.setRow q CQ)) := by
  have hO : ∀ k, k ≠ q → (z.setRow q CQ).heap[k]? = z.heap[k]? := fun k hk => setRow_other _ _ _ _ hk
  exact ⟨setRow_heap _ q _ CQ _ _ hQ, (hO _ (by omega)).trans hB, (hO _ (by omega)).trans hR, Lib.hid (RL.keep fun b hb => hO b hb.1), Lib.hid (below_setRow (g := q) hU (by omega) CQ)⟩

set_option maxHeartbeats 16000000 in
set_option maxRecDepth 100000 in
theorem from_letters (W H : Int) (al ad an ab ax af : Option Addr) (cl cd cn cb cx cf nl nd nn nb ns nf : Nat) (L D N B S F : Nat → Int) (w : World) (hl : Rw 3 w al nl L) (hd : Rw 1 w ad nd D) (hn : Rw 3 w an nn N) (hb : Rw 3 w ab nb B) (hs : Rw 1 w ax ns S) (hf : Rw 1 w af nf F) (bl : nl * 24 ≤ 140737488351232) (bd : nd * 8 ≤ 140737488351232) (bn : nn * 24 ≤ 140737488351232) (bb : nb * 24 ≤ 140737488351232) (bs : ns * 8 ≤ 140737488351232) (bf : nf * 8 ≤ 140737488351232) : Calls Try.prog 27 #[.agg #[.int .i64 W, .int .i64 H, .slice al nl cl, .slice ad nd cd, .slice an nn cn, .slice ab nb cb, .slice ax ns cx, .slice af nf cf]] w fun e' w' => (∃ p : Pl, e' = .returned (.agg (FC ⟨W, H, nl, nd, nn, nb, ns, nf, L, D, N, B, S, F⟩ p)) ∧ FAt w' ⟨W, H, nl, nd, nn, nb, ns, nf, L, D, N, B, S, F⟩ p) ∧ Below w.heap.size w w' := by
  have HL_ := Lib.hid hl
  clear hl
  have HD_ := Lib.hid hd
  clear hd
  have HN_ := Lib.hid hn
  clear hn
  have HB_ := Lib.hid hb
  clear hb
  have HS_ := Lib.hid hs
  clear hs
  have HF_ := Lib.hid hf
  clear hf
  go_enter Try.func27, Try.ntmps27
  go_upto_region 1 with fail
  have hR := Au.rows2 w (.cells #[.int .i64 W, .int .i64 H, .slice al nl cl, .slice ad nd cd, .slice an nn cn, .slice ab nb cb, .slice ax ns cx, .slice af nf cf] 39) (.cells #[.int .i64 0, .int .i64 0, .slice none 0 0, .slice none 0 0, .slice none 0 0, .slice none 0 0, .slice none 0 0, .slice none 0 0] 29)
  have HUx := Ve.below_n2 w (.cells #[.int .i64 W, .int .i64 H, .slice al nl cl, .slice ad nd cd, .slice an nn cn, .slice ab nb cb, .slice ax ns cx, .slice af nf cf] 39) (.cells #[.int .i64 0, .int .i64 0, .slice none 0 0, .slice none 0 0, .slice none 0 0, .slice none 0 0, .slice none 0 0, .slice none 0 0] 29)
  obtain ⟨y0, hy0⟩ : ∃ y0, (w.alloc (.cells #[.int .i64 W, .int .i64 H, .slice al nl cl, .slice ad nd cd, .slice an nn cn, .slice ab nb cb, .slice ax ns cx, .slice af nf cf] 39)).alloc (.cells #[.int .i64 0, .int .i64 0, .slice none 0 0, .slice none 0 0, .slice none 0 0, .slice none 0 0, .slice none 0 0, .slice none 0 0] 29) = y0 := ⟨_, rfl⟩
  rw [hy0] at hR HUx ⊢
  clear hy0
  have HU0 := Lib.hid HUx
  clear HUx
  obtain ⟨hr0_0, hr0_1⟩ := hR
  go_cut [3] (fun s3 wx => ∃ (q : Nat) (a_l : Option Addr) (c_l : Nat), s3 = .pointer (some ⟨q, 0, none⟩) ∧ w.heap.size + 1 < q ∧ wx.heap[q]? = some (.cells #[.int .i64 W, .int .i64 H, .slice a_l nl c_l, .slice none 0 0, .slice none 0 0, .slice none 0 0, .slice ax ns cx, .slice af nf cf] 29 (0, 0)) ∧ wx.heap[w.heap.size]? = some (.cells #[.int .i64 W, .int .i64 H, .slice al nl cl, .slice ad nd cd, .slice an nn cn, .slice ab nb cb, .slice ax ns cx, .slice af nf cf] 39 (0, 0)) ∧ wx.heap[w.heap.size + 1]? = some (.cells #[.int .i64 0, .int .i64 0, .slice none 0 0, .slice none 0 0, .slice none 0 0, .slice none 0 0, .slice none 0 0, .slice none 0 0] 29 (0, 0)) ∧ Hid (RwX q (w.heap.size + 1) 3 wx a_l nl L) ∧ Hid (Below w.heap.size w wx))
  case first =>
    refine Ol.way_drew (S := fun y => y.heap[w.heap.size]? = some (.cells #[.int .i64 W, .int .i64 H, .slice al nl cl, .slice ad nd cd, .slice an nn cn, .slice ab nb cb, .slice ax ns cx, .slice af nf cf] 39 (0, 0))) (stop := 9) (by as_aux_lemma => kernel_rfl) (hr0_0) (fun hS0 => ?_)
    obtain ⟨z0, hz0_⟩ : ∃ y, y0.drew = y := ⟨_, rfl⟩
    have HZ0 := Lib.hid (show Below w.heap.size w z0 by rw [← hz0_]; exact HU0.out.drew)
    have hR0 : z0.heap[w.heap.size + 1]? = some (.cells #[.int .i64 0, .int .i64 0, .slice none 0 0, .slice none 0 0, .slice none 0 0, .slice none 0 0, .slice none 0 0, .slice none 0 0] 29 (0, 0)) := by rw [← hz0_]; exact hr0_1
    rw [hz0_] at hS0 ⊢
    clear hz0_ HU0 hr0_0 hr0_1
    have HU0 := HZ0
    clear HZ0
    have hl0 := lt_heap hR0
    obtain ⟨j0, ji, jz0, jz1, jz2⟩ := info_parts info_int
    refine Ol.way_plain (i := 0) (v := ?_) rfl (by as_aux_lemma => kernel_rfl) (by as_aux_lemma => kernel_rfl) (by as_aux_lemma => kernel_rfl) (fun _ _ _ h => h) (by decide) (Or.inl ⟨by kernel_rfl, by (intro wz _; go_simp; try with_reducible rfl)⟩) (Ol.on hS0) ?_
    go_simp
    refine Ol.way_take (i := 1) (v := ?_) rfl (by as_aux_lemma => kernel_rfl) (by as_aux_lemma => kernel_rfl) (by as_aux_lemma => kernel_rfl) (fun _ _ _ h => h) (by decide) (by as_aux_lemma => kernel_rfl) (by as_aux_lemma => kernel_rfl) (Or.inl ⟨by kernel_rfl, by (intro wz hSz; have c0 := cell_of_row _ _ 0 _ _ _ hSz; have c1 := cell_of_row _ _ 1 _ _ _ hSz; have c2 := cell_of_row _ _ 2 _ _ _ hSz; have c6 := cell_of_row _ _ 6 _ _ _ hSz; have c7 := cell_of_row _ _ 7 _ _ _ hSz; simp at c0 c1 c2 c6 c7; go_simp; try with_reducible rfl)⟩) hS0 ?_
    go_simp
    refine Ol.way_plain (i := 3) (v := ?_) rfl (by as_aux_lemma => kernel_rfl) (by as_aux_lemma => kernel_rfl) (by as_aux_lemma => kernel_rfl) (fun _ _ _ h => h) (by decide) (Or.inl ⟨by kernel_rfl, by (intro wz _; go_simp; try with_reducible rfl)⟩) (Ol.on hS0) ?_
    go_simp
    refine Ol.way_take (i := 4) (v := ?_) rfl (by as_aux_lemma => kernel_rfl) (by as_aux_lemma => kernel_rfl) (by as_aux_lemma => kernel_rfl) (fun _ _ _ h => h) (by decide) (by as_aux_lemma => kernel_rfl) (by as_aux_lemma => kernel_rfl) (Or.inl ⟨by kernel_rfl, by (intro wz hSz; have c0 := cell_of_row _ _ 0 _ _ _ hSz; have c1 := cell_of_row _ _ 1 _ _ _ hSz; have c2 := cell_of_row _ _ 2 _ _ _ hSz; have c6 := cell_of_row _ _ 6 _ _ _ hSz; have c7 := cell_of_row _ _ 7 _ _ _ hSz; simp at c0 c1 c2 c6 c7; go_simp; try with_reducible rfl)⟩) hS0 ?_
    go_simp
    refine Ol.way_plain (i := 5) (v := ?_) rfl (by as_aux_lemma => kernel_rfl) (by as_aux_lemma => kernel_rfl) (by as_aux_lemma => kernel_rfl) (fun _ _ _ h => h) (by decide) (Or.inl ⟨by kernel_rfl, by (intro wz _; go_simp; try with_reducible rfl)⟩) (Ol.on hS0) ?_
    go_simp
    refine Ol.way_take (i := 6) (v := ?_) rfl (by as_aux_lemma => kernel_rfl) (by as_aux_lemma => kernel_rfl) (by as_aux_lemma => kernel_rfl) (fun _ _ _ h => h) (by decide) (by as_aux_lemma => kernel_rfl) (by as_aux_lemma => kernel_rfl) (Or.inl ⟨by kernel_rfl, by (intro wz hSz; have c0 := cell_of_row _ _ 0 _ _ _ hSz; have c1 := cell_of_row _ _ 1 _ _ _ hSz; have c2 := cell_of_row _ _ 2 _ _ _ hSz; have c6 := cell_of_row _ _ 6 _ _ _ hSz; have c7 := cell_of_row _ _ 7 _ _ _ hSz; simp at c0 c1 c2 c6 c7; go_simp; try with_reducible rfl)⟩) hS0 ?_
    go_simp
    refine Ol.way_ready (rs := [2, 8]) (by as_aux_lemma => kernel_rfl) (by simp) (Ol.Each.cons rfl (fun K hK => ?_) (Ol.Each.cons rfl (fun K hK => ?_) Ol.Each.nil))
    · go_simp
      go_wp2_with (go_at_call 25; refine (fromsheet_any W H al nl cl L _ (HL_.out.on HU0.out) bl).mono ?_; rintro e z1 ⟨⟨a_l, c_l, rfl, hla⟩, hb1⟩)
      have hs1 := hb1.size
      have HU1 := Lib.hid (HU0.out.trans (hb1.mono HU0.out.size))
      have hR1 := (hb1.block _ (lt_heap hR0)).trans hR0
      have RL1 := Lib.hid (RwP.weak (P' := fun b => z0.heap.size ≤ b ∧ b < z1.heap.size) (hla.lt (by decide)) (fun b hb => hb))
      clear hla
      refine Ol.keep hK _ _ ((hb1.block _ (lt_heap hS0)).trans hS0) (fun hS1 => ?_)
      clear hK K
      refine Ol.way_plain (i := 7) (v := ?_) rfl (by as_aux_lemma => kernel_rfl) (by as_aux_lemma => kernel_rfl) (by as_aux_lemma => kernel_rfl) (fun _ _ _ h => h) (by decide) (Or.inl ⟨by kernel_rfl, by (intro wz _; go_simp; try with_reducible rfl)⟩) (Ol.on hS1) ?_
      go_simp
      refine Ol.way_ready (rs := [8]) (by as_aux_lemma => kernel_rfl) (by simp) (Ol.Each.cons rfl (fun K hK => ?_) Ol.Each.nil)
      go_simp
      have hb2 := Ve.below_n1 z1 ZFd
      have hN := heap_alloc_last z1 ZFd
      obtain ⟨z2, hz2_⟩ : ∃ y, z1.alloc ZFd = y := ⟨_, rfl⟩
      rw [hz2_] at hb2 hN ⊢
      clear hz2_
      have hs2 := hb2.size
      have HU2 := Lib.hid (HU1.out.trans (hb2.mono HU1.out.size))
      have hR2 := (hb2.block _ (lt_heap hR1)).trans hR1
      have RL2 := Lib.hid (RL1.out.keep (fun b hb => hb2.block b (by omega)))
      obtain ⟨q, hq⟩ : ∃ q, q = z1.heap.size := ⟨_, rfl⟩
      rw [← hq] at hN ⊢
      have hQ2 := hN
      have hltq2 := lt_heap hN
      have hqa : q ≤ z1.heap.size := by omega
      have hqb : z1.heap.size ≤ q := by omega
      clear hN hq
      refine Ol.keep hK _ _ ((hb2.block _ (lt_heap hS1)).trans hS1) (fun hS2 => ?_)
      clear hK K
      refine Ol.way_ready (rs := [9]) (by as_aux_lemma => kernel_rfl) (by simp) (Ol.Each.cons rfl (fun K hK => ?_) Ol.Each.nil)
      refine step_store_row rfl 29 (.tmp 3) (.tmp 17) rfl _ (cqd W H a_l nl c_l ax ns cx af nf cf) q 29 hQ2 rfl (by first | rfl | (go_simp; done) | (go_simp; rfl)) (by as_aux_lemma => kernel_rfl) rfl (by simp [Value.oneCell']) ?_
      have HC_ := Lib.hid (from_close (CQ := (cqd W H a_l nl c_l ax ns cx af nf cf)) hQ2 hS2 hR2 HU2.out (by omega) (RL2.out.weak (fun b hb => by omega)))
      refine Ol.past hK (by as_aux_lemma => kernel_rfl) _ _ ?_
      clear hK K
      refine Ol.way_done (by as_aux_lemma => kernel_rfl) ?_ _
      go_wp2_with fail
      go_meet
      exact ⟨q, a_l, c_l, rfl, by omega, HC_.out⟩
    · go_simp
      have hb1 := Ve.below_n1 z0 ZFd
      have hN := heap_alloc_last z0 ZFd
      obtain ⟨z1, hz1_⟩ : ∃ y, z0.alloc ZFd = y := ⟨_, rfl⟩
      rw [hz1_] at hb1 hN ⊢
      clear hz1_
      have hs1 := hb1.size
      have HU1 := Lib.hid (HU0.out.trans (hb1.mono HU0.out.size))
      have hR1 := (hb1.block _ (lt_heap hR0)).trans hR0
      obtain ⟨q, hq⟩ : ∃ q, q = z0.heap.size := ⟨_, rfl⟩
      rw [← hq] at hN ⊢
      have hQ1 := hN
      have hltq1 := lt_heap hN
      have hqa : q ≤ z0.heap.size := by omega
      have hqb : z0.heap.size ≤ q := by omega
      clear hN hq
      refine Ol.keep hK _ _ ((hb1.block _ (lt_heap hS0)).trans hS0) (fun hS1 => ?_)
      clear hK K
      refine Ol.way_ready (rs := [2]) (by as_aux_lemma => kernel_rfl) (by simp) (Ol.Each.cons rfl (fun K hK => ?_) Ol.Each.nil)
      go_simp
      go_wp2_with (go_at_call 25; refine (fromsheet_any W H al nl cl L _ (HL_.out.on HU1.out) bl).mono ?_; rintro e z2 ⟨⟨a_l, c_l, rfl, hla⟩, hb2⟩)
      have hs2 := hb2.size
      have HU2 := Lib.hid (HU1.out.trans (hb2.mono HU1.out.size))
      have hR2 := (hb2.block _ (lt_heap hR1)).trans hR1
      have hQ2 := (hb2.block _ (lt_heap hQ1)).trans hQ1
      have RL2 := Lib.hid (RwP.weak (P' := fun b => z1.heap.size ≤ b ∧ b < z2.heap.size) (hla.lt (by decide)) (fun b hb => hb))
      clear hla
      refine Ol.keep hK _ _ ((hb2.block _ (lt_heap hS1)).trans hS1) (fun hS2 => ?_)
      clear hK K
      refine Ol.way_plain (i := 7) (v := ?_) rfl (by as_aux_lemma => kernel_rfl) (by as_aux_lemma => kernel_rfl) (by as_aux_lemma => kernel_rfl) (fun _ _ _ h => h) (by decide) (Or.inl ⟨by kernel_rfl, by (intro wz _; go_simp; try with_reducible rfl)⟩) (Ol.on hS2) ?_
      go_simp
      refine Ol.way_ready (rs := [9]) (by as_aux_lemma => kernel_rfl) (by simp) (Ol.Each.cons rfl (fun K hK => ?_) Ol.Each.nil)
      refine step_store_row rfl 29 (.tmp 3) (.tmp 17) rfl _ (cqd W H a_l nl c_l ax ns cx af nf cf) q 29 hQ2 rfl (by first | rfl | (go_simp; done) | (go_simp; rfl)) (by as_aux_lemma => kernel_rfl) rfl (by simp [Value.oneCell']) ?_
      have HC_ := Lib.hid (from_close (CQ := (cqd W H a_l nl c_l ax ns cx af nf cf)) hQ2 hS2 hR2 HU2.out (by omega) (RL2.out.weak (fun b hb => by omega)))
      refine Ol.past hK (by as_aux_lemma => kernel_rfl) _ _ ?_
      clear hK K
      refine Ol.way_done (by as_aux_lemma => kernel_rfl) ?_ _
      go_wp2_with fail
      go_meet
      exact ⟨q, a_l, c_l, rfl, by omega, HC_.out⟩
  case rest =>
    obtain ⟨q, a_l, c_l, rfl, hqw, hrq, hrb, hrr, RL, HUc⟩ := hcut
    obtain ⟨y1, hwc⟩ : ∃ y : World, y = wc := ⟨_, rfl⟩
    rw [← hwc] at hrq hrb hrr RL HUc ⊢
    clear hwc
    have HU1 := HUc
    clear HUc HU0 hr0_0 hr0_1
    have hr1_0 := hrb
    have hr1_1 := hrr
    have hr1_2 := hrq
    clear hrb hrr hrq
    have RL1 := RL
    clear RL
    have hql := lt_heap hr1_2
    have c0_0 := cell_of_row _ _ 0 _ _ _ hr1_0
    have c0_1 := cell_of_row _ _ 1 _ _ _ hr1_0
    have c0_2 := cell_of_row _ _ 2 _ _ _ hr1_0
    have c0_3 := cell_of_row _ _ 3 _ _ _ hr1_0
    have c0_4 := cell_of_row _ _ 4 _ _ _ hr1_0
    have c0_5 := cell_of_row _ _ 5 _ _ _ hr1_0
    have c0_6 := cell_of_row _ _ 6 _ _ _ hr1_0
    have c0_7 := cell_of_row _ _ 7 _ _ _ hr1_0
    simp at c0_0 c0_1 c0_2 c0_3 c0_4 c0_5 c0_6 c0_7
    go_upto_region 3 with fail
    obtain ⟨bd, hb_d⟩ : ∃ b, b = y1.heap.size := ⟨_, rfl⟩
    have hbqd : q < bd := by rw [hb_d]; exact lt_heap hr1_2
    have hbwd : w.heap.size ≤ bd := by rw [hb_d]; exact HU1.out.size
    have hbed : bd ≤ y1.heap.size := by omega
    have hbfd : y1.heap.size ≤ bd := by omega
    clear hb_d
    go_loopw [21] (fun i wr => ∃ (k : Nat) (v : Value), k ≤ nd ∧ i = .int .i64 k ∧ wr.heap[q]? = some (.cells #[.int .i64 W, .int .i64 H, .slice a_l nl c_l, v, .slice none 0 0, .slice none 0 0, .slice ax ns cx, .slice af nf cf] 29 (0, 0)) ∧ Hid (wr.ownsRow bd 2 1 v k (flatc 1 D k)) ∧ Hid (Aw (fun z => z < bd ∧ z ≠ q) y1 wr)) (fun i _ => nd - (intOf i).toNat)
    case atStart => exact ⟨0, _, by omega, rfl, hr1_2, Lib.hid (by simpa [flatc] using World.ownsRow_nil _ _ _ _), Lib.hid (Aw.refl _ _)⟩
    case round =>
      obtain ⟨k, v, hk, rfl, hrq, HO, HA⟩ := hrel
      have hsz := HA.out.size
      by_cases hlt : k < nd
      · have hlt' : (k : Int) < nd := by omega
        have HBw := HU1.out.trans (aw_low HA.out (b := w.heap.size) (by omega) (by omega) (by omega))
        obtain ⟨sb, so, hsa, e0⟩ := (HD_.out.on HBw).at1 hlt
        subst hsa
        obtain ⟨x0, hx0⟩ : ∃ x, x = D (k) := ⟨_, rfl⟩
        rw [← hx0] at e0
        have HX := Lib.hid (show flatc 1 D (k + 1) = flatc 1 D k ++ [.int .i64 x0] by rw [flatc_step1, ← hx0])
        clear hx0 HBw
        obtain ⟨i0, hi, hz0, hz1, hz2⟩ := info_parts info_i64
        have hb2 := Ve.below_n1 wr (.cells #[.int .i64 x0] 2)
        have hN2 := heap_alloc_last wr (.cells #[.int .i64 x0] 2)
        have HO2 := Lib.hid (Ls.own_below HO.out hb2)
        have hs2 := hb2.size
        have cq_ := cell_of_row _ _ 3 _ _ _ hrq
        simp at cq_
        have hx1 := Lib.hid (World.news_of_block hN2)
        go_upto_region 5 with fail
        go_wp2_with (first | (at_builtin; refine wpList_append_lies _ rfl _ _ 25 rfl bd 2 i0 (.int .i64 0) 1 8 Try.underlying25 hi hz0 hz1 hz2 rfl (by decide) _ _ _ rfl HO2.out ⟨wr.heap.size, 0, none⟩ 1 1 [.int .i64 x0] rfl rfl hx1.out (by intro u hu; simp at hu; rcases hu with rfl; rfl) (by omega) ?c3 ?c4 ?c5 _ rfl ?_))
        case c3 => unfold maxLen; omega
        case c4 => omega
        case c5 => (first | omega | (simp; omega))
        intro g9 cg z3 hown hgrow hgk hlt2
        have hqo := fun r hr => (HO2.out.lt r hr).1
        have HA3 := Lib.hid ((HA.out.trans (Aw.of hb2)).step hgrow (fun r hr => by have := hqo r hr; omega))
        rw [← HX.out] at hown
        have hq2 := (hb2.block _ (lt_heap hrq)).trans hrq
        have hq3 := (hgrow.block q (lt_heap hq2) (fun e => by have := hqo _ e.symm; omega)).trans hq2
        have hs3 := hgrow.size
        have hqn : q ≠ g9 := by rcases hgk with h | h <;> first | omega | (have := hqo _ h; omega) | (simp at h; omega)
        clear cq_
        have p0 := cell_of_row _ _ 3 _ _ _ hq3
        simp at p0
        have fz : ∀ j, z3.frozen? ⟨q, j, none⟩ = false := fun j => by simp [World.frozen?, hq3]
        have hN : (z3.setCell ⟨q, 3, none⟩ (.slice (some ⟨g9, 0, none⟩) (k + 1) cg)).heap[q]? = some (.cells #[.int .i64 W, .int .i64 H, .slice a_l nl c_l, .slice (some ⟨g9, 0, none⟩) (k + 1) cg, .slice none 0 0, .slice none 0 0, .slice ax ns cx, .slice af nf cf] 29 (0, 0)) := heap_setCell_same _ _ 3 _ _ _ hq3
        have HA4 := Lib.hid (HA3.out.set (b := q) (fun h => h.2 rfl) 3 (.slice (some ⟨g9, 0, none⟩) (k + 1) cg))
        have HO4 := Lib.hid (own_via (w' := (z3.setCell ⟨q, 3, none⟩ (.slice (some ⟨g9, 0, none⟩) (k + 1) cg))) hown (fun r hr => Below.heap_setCell _ _ _ _ (by simp [Value.ownBlock] at hr; show r ≠ q; omega)))
        go_wp2_with fail
        go_roundw
        case rel => exact ⟨k + 1, _, by omega, by go_num, hN, HO4, HA4⟩
        case measure => simp [intOf]; omega
      · have hge : ¬ (k : Int) < nd := by omega
        have hkn : nd = k := by omega
        subst hkn
        obtain ⟨a_d, c_d, hv⟩ := own_slice HO.out
        subst hv
        obtain ⟨y2, hwr⟩ : ∃ y : World, y = wr := ⟨_, rfl⟩
        rw [← hwr] at hrq HO HA hsz ⊢
        clear hwr
        have hr2_0 := (HA.out.block _ ⟨by have := lt_heap hr1_0; omega, by omega⟩ (lt_heap hr1_0)).trans hr1_0
        have hr2_1 := (HA.out.block _ ⟨by have := lt_heap hr1_1; omega, by omega⟩ (lt_heap hr1_1)).trans hr1_1
        have hr2_2 := hrq
        have HU2 := Lib.hid (HU1.out.trans (aw_low HA.out (b := w.heap.size) (by omega) (by omega) (by omega)))
        have RL2 := Lib.hid (RwX.aw RL1.out (by decide) HA.out (by omega))
        clear RL1
        have HF_d2 := Lib.hid (rwx_own (q := q) (lo := w.heap.size + 1) HO.out (by omega) (by omega))
        clear HO HA hrq hge hlt hk
        clear hr1_0 hr1_1 hr1_2 HU1
        have c0_0 := cell_of_row _ _ 0 _ _ _ hr2_0
        have c0_1 := cell_of_row _ _ 1 _ _ _ hr2_0
        have c0_2 := cell_of_row _ _ 2 _ _ _ hr2_0
        have c0_3 := cell_of_row _ _ 3 _ _ _ hr2_0
        have c0_4 := cell_of_row _ _ 4 _ _ _ hr2_0
        have c0_5 := cell_of_row _ _ 5 _ _ _ hr2_0
        have c0_6 := cell_of_row _ _ 6 _ _ _ hr2_0
        have c0_7 := cell_of_row _ _ 7 _ _ _ hr2_0
        simp at c0_0 c0_1 c0_2 c0_3 c0_4 c0_5 c0_6 c0_7
        go_upto_region 8 with fail
        obtain ⟨bn, hb_n⟩ : ∃ b, b = y2.heap.size := ⟨_, rfl⟩
        have hbqn : q < bn := by rw [hb_n]; exact lt_heap hr2_2
        have hbwn : w.heap.size ≤ bn := by rw [hb_n]; exact HU2.out.size
        have hben : bn ≤ y2.heap.size := by omega
        have hbfn : y2.heap.size ≤ bn := by omega
        clear hb_n
        go_loopw [35] (fun i wr => ∃ (k : Nat) (v : Value), k ≤ nn ∧ i = .int .i64 k ∧ wr.heap[q]? = some (.cells #[.int .i64 W, .int .i64 H, .slice a_l nl c_l, .slice a_d nd c_d, v, .slice none 0 0, .slice ax ns cx, .slice af nf cf] 29 (0, 0)) ∧ Hid (wr.ownsRow bn 71 3 v k (flatc 3 N k)) ∧ Hid (Aw (fun z => z < bn ∧ z ≠ q) y2 wr)) (fun i _ => nn - (intOf i).toNat)
        case atStart => exact ⟨0, _, by omega, rfl, hr2_2, Lib.hid (by simpa [flatc] using World.ownsRow_nil _ _ _ _), Lib.hid (Aw.refl _ _)⟩
        case round =>
          obtain ⟨k, v, hk, rfl, hrq, HO, HA⟩ := hrel
          have hsz := HA.out.size
          by_cases hlt : k < nn
          · have hlt' : (k : Int) < nn := by omega
            have HBw := HU2.out.trans (aw_low HA.out (b := w.heap.size) (by omega) (by omega) (by omega))
            obtain ⟨sb, so, hsa, e0, e1, e2⟩ := (HN_.out.on HBw).at3 hlt
            subst hsa
            obtain ⟨x0, hx0⟩ : ∃ x, x = N (k * 3) := ⟨_, rfl⟩
            rw [← hx0] at e0
            obtain ⟨x1, hx1⟩ : ∃ x, x = N (k * 3 + 1) := ⟨_, rfl⟩
            rw [← hx1] at e1
            obtain ⟨x2, hx2⟩ : ∃ x, x = N (k * 3 + 2) := ⟨_, rfl⟩
            rw [← hx2] at e2
            have HX := Lib.hid (show flatc 3 N (k + 1) = flatc 3 N k ++ [.int .i64 x0, .int .i64 x1, .int .i64 x2] by rw [flatc_step3, ← hx0, ← hx1, ← hx2])
            clear hx0 hx1 hx2 HBw
            obtain ⟨i0, hi, hz0, hz1, hz2⟩ := info_parts info_dvec
            go_wp2_with fail
            clear e0 e1 e2
            have hb0 := Ve.below_n1 wr (.cells #[.int .i64 x0, .int .i64 x1, .int .i64 x2] 73)
            have hN0 := heap_alloc_last wr (.cells #[.int .i64 x0, .int .i64 x1, .int .i64 x2] 73)
            have hq0 : (wr.alloc (.cells #[.int .i64 x0, .int .i64 x1, .int .i64 x2] 73)).heap[q]? = some (.cells #[.int .i64 W, .int .i64 H, .slice a_l nl c_l, .slice a_d nd c_d, v, .slice none 0 0, .slice ax ns cx, .slice af nf cf] 29 (0, 0)) := (hb0.block _ (lt_heap hrq)).trans hrq
            refine Ol.way_drew (S := fun y => y.heap[q]? = some (.cells #[.int .i64 W, .int .i64 H, .slice a_l nl c_l, .slice a_d nd c_d, v, .slice none 0 0, .slice ax ns cx, .slice af nf cf] 29 (0, 0)) ∧ y.heap[wr.heap.size]? = some (.cells #[.int .i64 x0, .int .i64 x1, .int .i64 x2] 73 (0, 0))) (stop := 7) (by kernel_rfl) (⟨hq0, hN0⟩) (fun hS0 => ?_)
            obtain ⟨z0, hz0_⟩ : ∃ y, (wr.alloc (.cells #[.int .i64 x0, .int .i64 x1, .int .i64 x2] 73)).drew = y := ⟨_, rfl⟩
            have HA0 := Lib.hid (show Aw (fun z => z < bn ∧ z ≠ q) y2 z0 by rw [← hz0_]; exact HA.out.trans (Aw.of hb0.drew))
            have HO0 := Lib.hid (show z0.ownsRow bn 71 3 v k (flatc 3 N k) by rw [← hz0_]; exact Ls.own_below HO.out hb0.drew)
            have hs0 : wr.heap.size ≤ z0.heap.size := by rw [← hz0_]; exact hb0.size
            rw [hz0_] at hS0 ⊢
            clear hz0_ hq0 hN0 hb0
            refine Ol.way_plain (i := 0) (v := ?_) rfl (by kernel_rfl) (by kernel_rfl) (by kernel_rfl) (fun _ _ _ h => h) (by decide) (Or.inl ⟨by kernel_rfl, by (intro wz _; go_simp; try with_reducible rfl)⟩) (Ol.on hS0) ?_
            go_simp
            refine Ol.way_take (i := 1) (v := ?_) rfl (by kernel_rfl) (by kernel_rfl) (by kernel_rfl) (fun _ _ _ h => h) (by decide) (by kernel_rfl) (by kernel_rfl) (Or.inl ⟨by kernel_rfl, by (intro wz hSz; have cq_ := cell_of_row _ _ 4 _ _ _ hSz.1; simp at cq_; go_simp; try with_reducible rfl)⟩) hS0 ?_
            go_simp
            refine Ol.way_take (i := 2) (v := ?_) rfl (by kernel_rfl) (by kernel_rfl) (by kernel_rfl) (fun _ _ _ h => h) (by decide) (by kernel_rfl) (by kernel_rfl) (Or.inl ⟨by kernel_rfl, by (intro wz hSz; have d0 := cell_of_row _ _ 0 _ _ _ hSz.2; have d1 := cell_of_row _ _ 1 _ _ _ hSz.2; have d2 := cell_of_row _ _ 2 _ _ _ hSz.2; simp at d0 d1 d2; go_simp; try with_reducible rfl)⟩) hS0 ?_
            go_simp
            refine Ol.way_ready (rs := [3]) (by kernel_rfl) (by simp) ?_
            refine Ol.Each.cons rfl (fun K hK => ?_) Ol.Each.nil
            go_simp
            go_wp2_with (go_at_call 50; refine (from_any x0 x1 x2 _).mono ?_; rintro e z1 ⟨rfl, hb1⟩)
            have HA1 := Lib.hid (HA0.out.trans (Aw.of hb1))
            have HO1 := Lib.hid (Ls.own_below HO0.out hb1)
            have hs1 := hb1.size
            refine Ol.keep hK _ _ (⟨(hb1.block _ (lt_heap hS0.1)).trans hS0.1, (hb1.block _ (lt_heap hS0.2)).trans hS0.2⟩) (fun hS1 => ?_)
            clear hK K
            refine Ol.way_ready (rs := [4]) (by kernel_rfl) (by simp) ?_
            refine Ol.Each.cons rfl (fun K hK => ?_) Ol.Each.nil
            go_simp
            have hb2 := Ve.below_n1 z1 (.cells #[.int .i64 x0, .int .i64 x1, .int .i64 x2] 71)
            have hN2 := heap_alloc_last z1 (.cells #[.int .i64 x0, .int .i64 x1, .int .i64 x2] 71)
            obtain ⟨z2, hz2_⟩ : ∃ y, z1.alloc (.cells #[.int .i64 x0, .int .i64 x1, .int .i64 x2] 71) = y := ⟨_, rfl⟩
            rw [hz2_] at hb2 hN2 ⊢
            clear hz2_
            have HA2 := Lib.hid (HA1.out.trans (Aw.of hb2))
            have HO2 := Lib.hid (Ls.own_below HO1.out hb2)
            have hs2 := hb2.size
            refine Ol.keep hK _ _ (⟨(hb2.block _ (lt_heap hS1.1)).trans hS1.1, (hb2.block _ (lt_heap hS1.2)).trans hS1.2⟩) (fun hS2 => ?_)
            clear hK K
            refine Ol.way_ready (rs := [5]) (by kernel_rfl) (by simp) ?_
            refine Ol.Each.cons rfl (fun K hK => ?_) Ol.Each.nil
            refine step_append_lies _ rfl _ _ 26 rfl bn 71 i0 (.agg #[.int .i64 0, .int .i64 0, .int .i64 0]) 3 24 Try.underlying26 hi hz0 hz1 hz2 rfl (by decide) _ _ _ rfl HO2.out ⟨z1.heap.size, 0, none⟩ 1 1 [.int .i64 x0, .int .i64 x1, .int .i64 x2] rfl rfl ?c1 ?c2 (by omega) ?c3 ?c4 ?c5 _ rfl ?_
            case c1 => exact World.news_of_block hN2
            case c2 => intro u hu; simp at hu; rcases hu with rfl | rfl | rfl <;> rfl
            case c3 => unfold maxLen; omega
            case c4 => omega
            case c5 => omega
            intro g9 cg z3 hown hgrow hgk hlt2
            have hqo := fun r hr => (HO2.out.lt r hr).1
            have HA3 := Lib.hid (HA2.out.step hgrow (fun r hr => by have := hqo r hr; omega))
            rw [← HX.out] at hown
            have hqn : q ≠ g9 := by rcases hgk with h | h <;> first | omega | (have := hqo _ h; omega)
            have hq3 := (hgrow.block q (lt_heap hS2.1) (fun e => by have := hqo _ e.symm; omega)).trans hS2.1
            have hs3 := hgrow.size
            refine Ol.keep hK _ _ (⟨hq3, (hgrow.block _ (lt_heap hS2.2) (fun e => by have := (HO.out.lt _ e.symm).2; omega)).trans hS2.2⟩) (fun hS3 => ?_)
            clear hK K
            refine Ol.way_plain (i := 6) (v := ?_) rfl (by kernel_rfl) (by kernel_rfl) (by kernel_rfl) (fun _ _ _ h => h) (by decide) (Or.inl ⟨by kernel_rfl, by (intro wz _; go_simp; try with_reducible rfl)⟩) (Ol.on hS3) ?_
            go_simp
            refine Ol.way_ready (rs := [7]) (by kernel_rfl) (by simp) ?_
            refine Ol.Each.cons rfl (fun K hK => ?_) Ol.Each.nil
            have p0 := cell_of_row _ _ 4 _ _ _ hq3
            simp at p0
            have fz : ∀ j, z3.frozen? ⟨q, j, none⟩ = false := fun j => by simp [World.frozen?, hq3]
            go_simp
            clear fz p0
            have hN : (z3.setCell ⟨q, 4, none⟩ (.slice (some ⟨g9, 0, none⟩) (k + 1) cg)).heap[q]? = some (.cells #[.int .i64 W, .int .i64 H, .slice a_l nl c_l, .slice a_d nd c_d, .slice (some ⟨g9, 0, none⟩) (k + 1) cg, .slice none 0 0, .slice ax ns cx, .slice af nf cf] 29 (0, 0)) := heap_setCell_same _ _ 4 _ _ _ hq3
            have HA4 := Lib.hid (HA3.out.set (b := q) (fun h => h.2 rfl) 4 (.slice (some ⟨g9, 0, none⟩) (k + 1) cg))
            have HO4 := Lib.hid (own_via (w' := (z3.setCell ⟨q, 4, none⟩ (.slice (some ⟨g9, 0, none⟩) (k + 1) cg))) hown (fun r hr => Below.heap_setCell _ _ _ _ (by simp [Value.ownBlock] at hr; show r ≠ q; omega)))
            refine Ol.past hK (by kernel_rfl) _ _ ?_
            clear hK K
            refine Ol.way_done (by kernel_rfl) ?_ _
            go_wp2
            go_roundw
            case rel => exact ⟨k + 1, _, by omega, by go_num, hN, HO4, HA4⟩
            case measure => simp [intOf]; omega
          · have hge : ¬ (k : Int) < nn := by omega
            have hkn : nn = k := by omega
            subst hkn
            obtain ⟨a_n, c_n, hv⟩ := own_slice HO.out
            subst hv
            obtain ⟨y3, hwr⟩ : ∃ y : World, y = wr := ⟨_, rfl⟩
            rw [← hwr] at hrq HO HA hsz ⊢
            clear hwr
            have hr3_0 := (HA.out.block _ ⟨by have := lt_heap hr2_0; omega, by omega⟩ (lt_heap hr2_0)).trans hr2_0
            have hr3_1 := (HA.out.block _ ⟨by have := lt_heap hr2_1; omega, by omega⟩ (lt_heap hr2_1)).trans hr2_1
            have hr3_2 := hrq
            have HU3 := Lib.hid (HU2.out.trans (aw_low HA.out (b := w.heap.size) (by omega) (by omega) (by omega)))
            have RL3 := Lib.hid (RwX.aw RL2.out (by decide) HA.out (by omega))
            clear RL2
            have HF_d3 := Lib.hid (RwX.aw HF_d2.out (by decide) HA.out (by omega))
            clear HF_d2
            have HF_n3 := Lib.hid (rwx_own (q := q) (lo := w.heap.size + 1) HO.out (by omega) (by omega))
            clear HO HA hrq hge hlt hk
            clear hr2_0 hr2_1 hr2_2 HU2
            have c0_0 := cell_of_row _ _ 0 _ _ _ hr3_0
            have c0_1 := cell_of_row _ _ 1 _ _ _ hr3_0
            have c0_2 := cell_of_row _ _ 2 _ _ _ hr3_0
            have c0_3 := cell_of_row _ _ 3 _ _ _ hr3_0
            have c0_4 := cell_of_row _ _ 4 _ _ _ hr3_0
            have c0_5 := cell_of_row _ _ 5 _ _ _ hr3_0
            have c0_6 := cell_of_row _ _ 6 _ _ _ hr3_0
            have c0_7 := cell_of_row _ _ 7 _ _ _ hr3_0
            simp at c0_0 c0_1 c0_2 c0_3 c0_4 c0_5 c0_6 c0_7
            go_upto_region 13 with fail
            obtain ⟨bb, hb_b⟩ : ∃ b, b = y3.heap.size := ⟨_, rfl⟩
            have hbqb : q < bb := by rw [hb_b]; exact lt_heap hr3_2
            have hbwb : w.heap.size ≤ bb := by rw [hb_b]; exact HU3.out.size
            have hbeb : bb ≤ y3.heap.size := by omega
            have hbfb : y3.heap.size ≤ bb := by omega
            clear hb_b
            go_loopw [50] (fun i wr => ∃ (k : Nat) (v : Value), k ≤ nb ∧ i = .int .i64 k ∧ wr.heap[q]? = some (.cells #[.int .i64 W, .int .i64 H, .slice a_l nl c_l, .slice a_d nd c_d, .slice a_n nn c_n, v, .slice ax ns cx, .slice af nf cf] 29 (0, 0)) ∧ Hid (wr.ownsRow bb 75 3 v k (flatc 3 B k)) ∧ Hid (Aw (fun z => z < bb ∧ z ≠ q) y3 wr)) (fun i _ => nb - (intOf i).toNat)
            case atStart => exact ⟨0, _, by omega, rfl, hr3_2, Lib.hid (by simpa [flatc] using World.ownsRow_nil _ _ _ _), Lib.hid (Aw.refl _ _)⟩
            case round =>
              obtain ⟨k, v, hk, rfl, hrq, HO, HA⟩ := hrel
              have hsz := HA.out.size
              by_cases hlt : k < nb
              · have hlt' : (k : Int) < nb := by omega
                have HBw := HU3.out.trans (aw_low HA.out (b := w.heap.size) (by omega) (by omega) (by omega))
                obtain ⟨sb, so, hsa, e0, e1, e2⟩ := (HB_.out.on HBw).at3 hlt
                subst hsa
                obtain ⟨x0, hx0⟩ : ∃ x, x = B (k * 3) := ⟨_, rfl⟩
                rw [← hx0] at e0
                obtain ⟨x1, hx1⟩ : ∃ x, x = B (k * 3 + 1) := ⟨_, rfl⟩
                rw [← hx1] at e1
                obtain ⟨x2, hx2⟩ : ∃ x, x = B (k * 3 + 2) := ⟨_, rfl⟩
                rw [← hx2] at e2
                have HX := Lib.hid (show flatc 3 B (k + 1) = flatc 3 B k ++ [.int .i64 x0, .int .i64 x1, .int .i64 x2] by rw [flatc_step3, ← hx0, ← hx1, ← hx2])
                clear hx0 hx1 hx2 HBw
                obtain ⟨i0, hi, hz0, hz1, hz2⟩ := info_parts info_dhue
                go_wp2_with fail
                clear e0 e1 e2
                have hb0 := Ve.below_n1 wr (.cells #[.int .i64 x0, .int .i64 x1, .int .i64 x2] 68)
                have hN0 := heap_alloc_last wr (.cells #[.int .i64 x0, .int .i64 x1, .int .i64 x2] 68)
                have hq0 : (wr.alloc (.cells #[.int .i64 x0, .int .i64 x1, .int .i64 x2] 68)).heap[q]? = some (.cells #[.int .i64 W, .int .i64 H, .slice a_l nl c_l, .slice a_d nd c_d, .slice a_n nn c_n, v, .slice ax ns cx, .slice af nf cf] 29 (0, 0)) := (hb0.block _ (lt_heap hrq)).trans hrq
                refine Ol.way_drew (S := fun y => y.heap[q]? = some (.cells #[.int .i64 W, .int .i64 H, .slice a_l nl c_l, .slice a_d nd c_d, .slice a_n nn c_n, v, .slice ax ns cx, .slice af nf cf] 29 (0, 0)) ∧ y.heap[wr.heap.size]? = some (.cells #[.int .i64 x0, .int .i64 x1, .int .i64 x2] 68 (0, 0))) (stop := 7) (by kernel_rfl) (⟨hq0, hN0⟩) (fun hS0 => ?_)
                obtain ⟨z0, hz0_⟩ : ∃ y, (wr.alloc (.cells #[.int .i64 x0, .int .i64 x1, .int .i64 x2] 68)).drew = y := ⟨_, rfl⟩
                have HA0 := Lib.hid (show Aw (fun z => z < bb ∧ z ≠ q) y3 z0 by rw [← hz0_]; exact HA.out.trans (Aw.of hb0.drew))
                have HO0 := Lib.hid (show z0.ownsRow bb 75 3 v k (flatc 3 B k) by rw [← hz0_]; exact Ls.own_below HO.out hb0.drew)
                have hs0 : wr.heap.size ≤ z0.heap.size := by rw [← hz0_]; exact hb0.size
                rw [hz0_] at hS0 ⊢
                clear hz0_ hq0 hN0 hb0
                refine Ol.way_plain (i := 0) (v := ?_) rfl (by kernel_rfl) (by kernel_rfl) (by kernel_rfl) (fun _ _ _ h => h) (by decide) (Or.inl ⟨by kernel_rfl, by (intro wz _; go_simp; try with_reducible rfl)⟩) (Ol.on hS0) ?_
                go_simp
                refine Ol.way_take (i := 1) (v := ?_) rfl (by kernel_rfl) (by kernel_rfl) (by kernel_rfl) (fun _ _ _ h => h) (by decide) (by kernel_rfl) (by kernel_rfl) (Or.inl ⟨by kernel_rfl, by (intro wz hSz; have cq_ := cell_of_row _ _ 5 _ _ _ hSz.1; simp at cq_; go_simp; try with_reducible rfl)⟩) hS0 ?_
                go_simp
                refine Ol.way_take (i := 2) (v := ?_) rfl (by kernel_rfl) (by kernel_rfl) (by kernel_rfl) (fun _ _ _ h => h) (by decide) (by kernel_rfl) (by kernel_rfl) (Or.inl ⟨by kernel_rfl, by (intro wz hSz; have d0 := cell_of_row _ _ 0 _ _ _ hSz.2; have d1 := cell_of_row _ _ 1 _ _ _ hSz.2; have d2 := cell_of_row _ _ 2 _ _ _ hSz.2; simp at d0 d1 d2; go_simp; try with_reducible rfl)⟩) hS0 ?_
                go_simp
                refine Ol.way_ready (rs := [3]) (by kernel_rfl) (by simp) ?_
                refine Ol.Each.cons rfl (fun K hK => ?_) Ol.Each.nil
                go_simp
                go_wp2_with (go_at_call 49; refine (hfrom_any x0 x1 x2 _).mono ?_; rintro e z1 ⟨rfl, hb1⟩)
                have HA1 := Lib.hid (HA0.out.trans (Aw.of hb1))
                have HO1 := Lib.hid (Ls.own_below HO0.out hb1)
                have hs1 := hb1.size
                refine Ol.keep hK _ _ (⟨(hb1.block _ (lt_heap hS0.1)).trans hS0.1, (hb1.block _ (lt_heap hS0.2)).trans hS0.2⟩) (fun hS1 => ?_)
                clear hK K
                refine Ol.way_ready (rs := [4]) (by kernel_rfl) (by simp) ?_
                refine Ol.Each.cons rfl (fun K hK => ?_) Ol.Each.nil
                go_simp
                have hb2 := Ve.below_n1 z1 (.cells #[.int .i64 x0, .int .i64 x1, .int .i64 x2] 75)
                have hN2 := heap_alloc_last z1 (.cells #[.int .i64 x0, .int .i64 x1, .int .i64 x2] 75)
                obtain ⟨z2, hz2_⟩ : ∃ y, z1.alloc (.cells #[.int .i64 x0, .int .i64 x1, .int .i64 x2] 75) = y := ⟨_, rfl⟩
                rw [hz2_] at hb2 hN2 ⊢
                clear hz2_
                have HA2 := Lib.hid (HA1.out.trans (Aw.of hb2))
                have HO2 := Lib.hid (Ls.own_below HO1.out hb2)
                have hs2 := hb2.size
                refine Ol.keep hK _ _ (⟨(hb2.block _ (lt_heap hS1.1)).trans hS1.1, (hb2.block _ (lt_heap hS1.2)).trans hS1.2⟩) (fun hS2 => ?_)
                clear hK K
                refine Ol.way_ready (rs := [5]) (by kernel_rfl) (by simp) ?_
                refine Ol.Each.cons rfl (fun K hK => ?_) Ol.Each.nil
                refine step_append_lies _ rfl _ _ 22 rfl bb 75 i0 (.agg #[.int .i64 0, .int .i64 0, .int .i64 0]) 3 24 Try.underlying22 hi hz0 hz1 hz2 rfl (by decide) _ _ _ rfl HO2.out ⟨z1.heap.size, 0, none⟩ 1 1 [.int .i64 x0, .int .i64 x1, .int .i64 x2] rfl rfl ?c1 ?c2 (by omega) ?c3 ?c4 ?c5 _ rfl ?_
                case c1 => exact World.news_of_block hN2
                case c2 => intro u hu; simp at hu; rcases hu with rfl | rfl | rfl <;> rfl
                case c3 => unfold maxLen; omega
                case c4 => omega
                case c5 => omega
                intro g9 cg z3 hown hgrow hgk hlt2
                have hqo := fun r hr => (HO2.out.lt r hr).1
                have HA3 := Lib.hid (HA2.out.step hgrow (fun r hr => by have := hqo r hr; omega))
                rw [← HX.out] at hown
                have hqn : q ≠ g9 := by rcases hgk with h | h <;> first | omega | (have := hqo _ h; omega)
                have hq3 := (hgrow.block q (lt_heap hS2.1) (fun e => by have := hqo _ e.symm; omega)).trans hS2.1
                have hs3 := hgrow.size
                refine Ol.keep hK _ _ (⟨hq3, (hgrow.block _ (lt_heap hS2.2) (fun e => by have := (HO.out.lt _ e.symm).2; omega)).trans hS2.2⟩) (fun hS3 => ?_)
                clear hK K
                refine Ol.way_plain (i := 6) (v := ?_) rfl (by kernel_rfl) (by kernel_rfl) (by kernel_rfl) (fun _ _ _ h => h) (by decide) (Or.inl ⟨by kernel_rfl, by (intro wz _; go_simp; try with_reducible rfl)⟩) (Ol.on hS3) ?_
                go_simp
                refine Ol.way_ready (rs := [7]) (by kernel_rfl) (by simp) ?_
                refine Ol.Each.cons rfl (fun K hK => ?_) Ol.Each.nil
                have p0 := cell_of_row _ _ 5 _ _ _ hq3
                simp at p0
                have fz : ∀ j, z3.frozen? ⟨q, j, none⟩ = false := fun j => by simp [World.frozen?, hq3]
                go_simp
                clear fz p0
                have hN : (z3.setCell ⟨q, 5, none⟩ (.slice (some ⟨g9, 0, none⟩) (k + 1) cg)).heap[q]? = some (.cells #[.int .i64 W, .int .i64 H, .slice a_l nl c_l, .slice a_d nd c_d, .slice a_n nn c_n, .slice (some ⟨g9, 0, none⟩) (k + 1) cg, .slice ax ns cx, .slice af nf cf] 29 (0, 0)) := heap_setCell_same _ _ 5 _ _ _ hq3
                have HA4 := Lib.hid (HA3.out.set (b := q) (fun h => h.2 rfl) 5 (.slice (some ⟨g9, 0, none⟩) (k + 1) cg))
                have HO4 := Lib.hid (own_via (w' := (z3.setCell ⟨q, 5, none⟩ (.slice (some ⟨g9, 0, none⟩) (k + 1) cg))) hown (fun r hr => Below.heap_setCell _ _ _ _ (by simp [Value.ownBlock] at hr; show r ≠ q; omega)))
                refine Ol.past hK (by kernel_rfl) _ _ ?_
                clear hK K
                refine Ol.way_done (by kernel_rfl) ?_ _
                go_wp2
                go_roundw
                case rel => exact ⟨k + 1, _, by omega, by go_num, hN, HO4, HA4⟩
                case measure => simp [intOf]; omega
              · have hge : ¬ (k : Int) < nb := by omega
                have hkn : nb = k := by omega
                subst hkn
                obtain ⟨a_b, c_b, hv⟩ := own_slice HO.out
                subst hv
                obtain ⟨y4, hwr⟩ : ∃ y : World, y = wr := ⟨_, rfl⟩
                rw [← hwr] at hrq HO HA hsz ⊢
                clear hwr
                have hr4_0 := (HA.out.block _ ⟨by have := lt_heap hr3_0; omega, by omega⟩ (lt_heap hr3_0)).trans hr3_0
                have hr4_1 := (HA.out.block _ ⟨by have := lt_heap hr3_1; omega, by omega⟩ (lt_heap hr3_1)).trans hr3_1
                have hr4_2 := hrq
                have HU4 := Lib.hid (HU3.out.trans (aw_low HA.out (b := w.heap.size) (by omega) (by omega) (by omega)))
                have RL4 := Lib.hid (RwX.aw RL3.out (by decide) HA.out (by omega))
                clear RL3
                have HF_d4 := Lib.hid (RwX.aw HF_d3.out (by decide) HA.out (by omega))
                clear HF_d3
                have HF_n4 := Lib.hid (RwX.aw HF_n3.out (by decide) HA.out (by omega))
                clear HF_n3
                have HF_b4 := Lib.hid (rwx_own (q := q) (lo := w.heap.size + 1) HO.out (by omega) (by omega))
                clear HO HA hrq hge hlt hk
                clear hr3_0 hr3_1 hr3_2 HU3
                have XFL := Lib.hid ((RwX.row RL4.out (r := w.heap.size + 1) (by omega) #[.int .i64 W, .int .i64 H, .slice a_l nl c_l, .slice a_d nd c_d, .slice a_n nn c_n, .slice a_b nb c_b, .slice ax ns cx, .slice af nf cf]).rw (by decide))
                have XFD := Lib.hid ((RwX.row HF_d4.out (r := w.heap.size + 1) (by omega) #[.int .i64 W, .int .i64 H, .slice a_l nl c_l, .slice a_d nd c_d, .slice a_n nn c_n, .slice a_b nb c_b, .slice ax ns cx, .slice af nf cf]).rw (by decide))
                have XFN := Lib.hid ((RwX.row HF_n4.out (r := w.heap.size + 1) (by omega) #[.int .i64 W, .int .i64 H, .slice a_l nl c_l, .slice a_d nd c_d, .slice a_n nn c_n, .slice a_b nb c_b, .slice ax ns cx, .slice af nf cf]).rw (by decide))
                have XFB := Lib.hid ((RwX.row HF_b4.out (r := w.heap.size + 1) (by omega) #[.int .i64 W, .int .i64 H, .slice a_l nl c_l, .slice a_d nd c_d, .slice a_n nn c_n, .slice a_b nb c_b, .slice ax ns cx, .slice af nf cf]).rw (by decide))
                have c2_0 := cell_of_row _ _ 0 _ _ _ hr4_2
                have c2_1 := cell_of_row _ _ 1 _ _ _ hr4_2
                have c2_2 := cell_of_row _ _ 2 _ _ _ hr4_2
                have c2_3 := cell_of_row _ _ 3 _ _ _ hr4_2
                have c2_4 := cell_of_row _ _ 4 _ _ _ hr4_2
                have c2_5 := cell_of_row _ _ 5 _ _ _ hr4_2
                have c2_6 := cell_of_row _ _ 6 _ _ _ hr4_2
                have c2_7 := cell_of_row _ _ 7 _ _ _ hr4_2
                simp at c2_0 c2_1 c2_2 c2_3 c2_4 c2_5 c2_6 c2_7
                have hHr := Lib.hid hr4_1
                have hHi := Lib.hid (show (Try.prog.info? 29).map (·.size) = some (#[.int .i64 W, .int .i64 H, .slice a_l nl c_l, .slice a_d nd c_d, .slice a_n nn c_n, .slice a_b nb c_b, .slice ax ns cx, .slice af nf cf] : Array Value).size by kernel_rfl)
                have hHz := Lib.hid (show (#[.int .i64 0, .int .i64 0, .slice none 0 0, .slice none 0 0, .slice none 0 0, .slice none 0 0, .slice none 0 0, .slice none 0 0] : Array Value).size = (#[.int .i64 W, .int .i64 H, .slice a_l nl c_l, .slice a_d nd c_d, .slice a_n nn c_n, .slice a_b nb c_b, .slice ax ns cx, .slice af nf cf] : Array Value).size from rfl)
                have hHo := Lib.hid (show (#[.int .i64 W, .int .i64 H, .slice a_l nl c_l, .slice a_d nd c_d, .slice a_n nn c_n, .slice a_b nb c_b, .slice ax ns cx, .slice af nf cf] : Array Value).all (·.oneCell') = true by simp [Value.oneCell'])
                go_wp2_with (first | (refine Au.wpList_store_row rfl 29 (.tmp 2) (.tmp 62) rfl y4 #[.int .i64 0, .int .i64 0, .slice none 0 0, .slice none 0 0, .slice none 0 0, .slice none 0 0, .slice none 0 0, .slice none 0 0] #[.int .i64 W, .int .i64 H, .slice a_l nl c_l, .slice a_d nd c_d, .slice a_n nn c_n, .slice a_b nb c_b, .slice ax ns cx, .slice af nf cf] (w.heap.size + 1) 29 hHr.out rfl rfl hHi.out hHz.out hHo.out ?_))
                clear c2_0 c2_1 c2_2 c2_3 c2_4 c2_5 c2_6 c2_7
                clear hHr hHi hHz hHo
                have hN := setRow_heap _ (w.heap.size + 1) _ #[.int .i64 W, .int .i64 H, .slice a_l nl c_l, .slice a_d nd c_d, .slice a_n nn c_n, .slice a_b nb c_b, .slice ax ns cx, .slice af nf cf] _ _ hr4_1
                have hsz := HU4.out.size
                have HUx := below_setRow (g := w.heap.size + 1) HU4.out (by first | omega | (simp at *; omega)) #[.int .i64 W, .int .i64 H, .slice a_l nl c_l, .slice a_d nd c_d, .slice a_n nn c_n, .slice a_b nb c_b, .slice ax ns cx, .slice af nf cf]
                have hO : ∀ kk, kk ≠ w.heap.size + 1 → (y4.setRow (w.heap.size + 1) #[.int .i64 W, .int .i64 H, .slice a_l nl c_l, .slice a_d nd c_d, .slice a_n nn c_n, .slice a_b nb c_b, .slice ax ns cx, .slice af nf cf]).heap[kk]? = y4.heap[kk]? := fun kk hk => setRow_other _ _ _ _ hk
                obtain ⟨y5, hy5⟩ : ∃ y, y4.setRow (w.heap.size + 1) #[.int .i64 W, .int .i64 H, .slice a_l nl c_l, .slice a_d nd c_d, .slice a_n nn c_n, .slice a_b nb c_b, .slice ax ns cx, .slice af nf cf] = y := ⟨_, rfl⟩
                rw [hy5] at hN HUx hO XFL XFD XFN XFB ⊢
                clear hy5 hsz
                have HU5 := Lib.hid HUx
                clear HUx
                have hr5_0 := (hO _ (by omega)).trans hr4_0
                have hr5_1 := hN
                have hr5_2 := (hO _ (by omega)).trans hr4_2
                clear hN hO
                clear hr4_0 hr4_1 hr4_2 HU4
                go_wp2
                exact bodyPost_ret (v := .agg #[.int .i64 W, .int .i64 H, .slice a_l nl c_l, .slice a_d nd c_d, .slice a_n nn c_n, .slice a_b nb c_b, .slice ax ns cx, .slice af nf cf]) (results_row (t := 29) Try.results27 rfl hr5_1 Try.underlying29 rfl (by kernel_rfl)) rfl ⟨⟨⟨a_l, c_l, a_d, c_d, a_n, c_n, a_b, c_b, ax, cx, af, cf⟩, rfl, ⟨XFL.out, XFD.out, XFN.out, XFB.out, HS_.out.on HU5.out, HF_.out.on HU5.out⟩⟩, HU5.out⟩

theorem from_film (f : Flm) (p : Pl) (w : World) (h : FAt w f p) (bl : f.nl * 24 ≤ 140737488351232) (bd : f.nd * 8 ≤ 140737488351232) (bn : f.nn * 24 ≤ 140737488351232) (bb : f.nb * 24 ≤ 140737488351232) (bs : f.ns * 8 ≤ 140737488351232) (bf : f.nf * 8 ≤ 140737488351232) :
    Calls Try.prog 27 #[.agg (FC f p)] w fun e' w' => (∃ p' : Pl, e' = .returned (.agg (FC f p')) ∧ FAt w' f p') ∧ Below w.heap.size w w' := by
  obtain ⟨W, H, nl, nd, nn, nb, ns, nf, L, D, N, B, S, F⟩ := f
  obtain ⟨al, cl, ad, cd, an, cn, ab, cb, ax, cx, af, cf⟩ := p
  obtain ⟨h1, h2, h3, h4, h5, h6⟩ := h
  exact from_letters W H al ad an ab ax af cl cd cn cb cx cf nl nd nn nb ns nf L D N B S F w h1 h2 h3 h4 h5 h6 bl bd bn bb bs bf

end Go.Proofs.Ytgkfoiekminfmaa.Fm
