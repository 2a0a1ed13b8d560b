/- Films, sheets, as bytes, by the program: EncodeSheet, Encode; the document's example. -/
import Derived.Test.YtgkfoiekminfmaaFg
import Derived.Test.YtgkfoiekminfmaaRlc
namespace Go.Proofs.Ytgkfoiekminfmaa.Fm
open Go.RowKit Go.Proofs.Ytgkfoiekminfmaa Go.Proofs.Ytgkfoiekminfmaa.Rp Go.Proofs.Ytgkfoiekminfmaa.Re Go.Proofs.Ytgkfoiekminfmaa.Au Go.Proofs.Ytgkfoiekminfmaa.Jw
set_option linter.unusedVariables false
set_option linter.unusedSimpArgs false

theorem Rw.low {c : Nat} {w : World} {a : Option Addr} {n : Nat} {L : Nat → Int} (h : Rw c w a n L) : RwP (fun b => b < w.heap.size) c w a n L := by
  rcases h with h | ⟨b, off, h1, h2, h3⟩
  · exact .inl h
  · exact .inr ⟨b, off, h1, h2, h3⟩

set_option maxHeartbeats 8000000 in
set_option maxRecDepth 100000 in
theorem encsheet_no (W H : Int) (al : Option Addr) (cl nl : Nat) (L : Nat → Int) (w : World) (h0 : ¬ okSh W H nl) : Calls Try.prog 16 #[.agg #[.int .i64 W, .int .i64 H, .slice al nl cl]] w fun e' w' => e' = .returned (.tuple #[.slice none 0 0, .int .i64 1]) ∧ Below w.heap.size w w' := by
  have H0 := Lib.hid h0
  clear h0
  go_enter Try.func16, Try.ntmps16
  go_upto_region 1 with fail
  have hR := Au.rows1 w (.cells #[.int .i64 W, .int .i64 H, .slice al nl cl] 35)
  have HUx := Ve.below_n1 w (.cells #[.int .i64 W, .int .i64 H, .slice al nl cl] 35)
  obtain ⟨y0, hy0⟩ : ∃ y0, w.alloc (.cells #[.int .i64 W, .int .i64 H, .slice al nl cl] 35) = y0 := ⟨_, rfl⟩
  rw [hy0] at hR HUx ⊢
  clear hy0
  have HU0 := Lib.hid HUx
  clear HUx
  have hr0_0 := hR
  clear hR
  have c0_0 := cell_of_row _ _ 0 _ _ _ hr0_0
  have c0_1 := cell_of_row _ _ 1 _ _ _ hr0_0
  have c0_2 := cell_of_row _ _ 2 _ _ _ hr0_0
  simp at c0_0 c0_1 c0_2
  go_wp2_with fail
  refine (shright_any W H al nl cl _).mono ?_
  rintro e y1 ⟨rfl, hb1⟩
  clear c0_0 c0_1 c0_2
  have hr1_0 := (hb1.block _ (lt_heap hr0_0)).trans hr0_0
  have HU1 := Lib.hid (HU0.out.trans (hb1.mono HU0.out.size))
  clear hr0_0 HU0
  rw [decide_eq_false H0.out]
  go_wp2
  exact bodyPost_ret (v := .tuple #[.slice none 0 0, .int .i64 1]) (by simp [results, Try.results16, go_sem]) rfl ⟨rfl, HU1.out⟩

set_option maxHeartbeats 8000000 in
set_option maxRecDepth 100000 in
theorem encsheet_ok (W H : Int) (al : Option Addr) (cl nl : Nat) (L : Nat → Int) (w : World) (hr : Rw 3 w al nl L) (h0 : okSh W H nl) : Calls Try.prog 16 #[.agg #[.int .i64 W, .int .i64 H, .slice al nl cl]] w fun e' w' => (∃ b n c, e' = .returned (.tuple #[.slice b n c, .int .i64 0]) ∧ w'.ownsRow w.heap.size 5 1 (.slice b n c) (sheetB W H nl L).length (vals (sheetB W H nl L))) ∧ Below w.heap.size w w' := by
  have H0 := Lib.hid h0
  have hnl : nl ≤ 5000 := by have := okSz_mul h0.1; have := h0.2; omega
  have HR := Lib.hid hr
  clear h0 hr
  go_enter Try.func16, Try.ntmps16
  go_upto_region 1 with fail
  have hR := Au.rows1 w (.cells #[.int .i64 W, .int .i64 H, .slice al nl cl] 35)
  have HUx := Ve.below_n1 w (.cells #[.int .i64 W, .int .i64 H, .slice al nl cl] 35)
  obtain ⟨y0, hy0⟩ : ∃ y0, w.alloc (.cells #[.int .i64 W, .int .i64 H, .slice al nl cl] 35) = y0 := ⟨_, rfl⟩
  rw [hy0] at hR HUx ⊢
  clear hy0
  have HU0 := Lib.hid HUx
  clear HUx
  have hr0_0 := hR
  clear hR
  have c0_0 := cell_of_row _ _ 0 _ _ _ hr0_0
  have c0_1 := cell_of_row _ _ 1 _ _ _ hr0_0
  have c0_2 := cell_of_row _ _ 2 _ _ _ hr0_0
  simp at c0_0 c0_1 c0_2
  go_wp2_with fail
  refine (shright_any W H al nl cl _).mono ?_
  rintro e y1 ⟨rfl, hb1⟩
  clear c0_0 c0_1 c0_2
  have hr1_0 := (hb1.block _ (lt_heap hr0_0)).trans hr0_0
  have HU1 := Lib.hid (HU0.out.trans (hb1.mono HU0.out.size))
  clear hr0_0 HU0
  rw [decide_eq_true H0.out]
  have hl0 := HU1.out.size
  have c0_0 := cell_of_row _ _ 0 _ _ _ hr1_0
  have c0_1 := cell_of_row _ _ 1 _ _ _ hr1_0
  have c0_2 := cell_of_row _ _ 2 _ _ _ hr1_0
  simp at c0_0 c0_1 c0_2
  go_wp2_with fail
  refine (wnew _).mono ?_
  rintro e y9 ⟨rfl, hwp, hb2⟩
  clear c0_0 c0_1 c0_2
  have HB2 := Lib.hid ((hb2.block _ (lt_heap hr1_0)).trans hr1_0)
  have HW2 := Lib.hid (HU1.out.trans (hb2.mono hl0))
  have HP2 := Lib.hid hwp
  have HV2 := Lib.hid hb2
  obtain ⟨g, hg⟩ : ∃ g, g = y1.heap.size := ⟨_, rfl⟩
  have hg2 := hwp.size.2
  rw [← hg] at HP2 HV2 hg2 ⊢
  have HG := Lib.hid hg
  have hgw : w.heap.size < g := by have := lt_heap hr1_0; omega
  have hgy : y1.heap.size ≤ g := by omega
  have hgz : g ≤ y1.heap.size := by omega
  clear hwp hb2 hr1_0 hg
  go_upto_region 4 with fail
  have hb3 := Ve.below_n1 y9 (.cells #[.pointer (some ⟨g, 0, none⟩)] 82)
  have hN := heap_alloc_last y9 (.cells #[.pointer (some ⟨g, 0, none⟩)] 82)
  obtain ⟨y3, hy3⟩ : ∃ y, y9.alloc (.cells #[.pointer (some ⟨g, 0, none⟩)] 82) = y := ⟨_, rfl⟩
  rw [hy3] at hb3 hN ⊢
  clear hy3
  have hr3_0 := (hb3.block _ (lt_heap HB2.out)).trans HB2.out
  have HP3 := Lib.hid (HP2.out.new hb3)
  have HU3 := Lib.hid (HV2.out.trans (hb3.mono (Nat.le_of_lt hg2)))
  have HW3 := Lib.hid (HW2.out.trans (hb3.mono HW2.out.size))
  have HN3 := Lib.hid hN
  have hl3 := lt_heap hN
  have hl2 := HV2.out.size
  have hc := cell_of_row _ _ 0 _ _ _ hN
  simp at hc
  clear hb3 hN HB2 HP2 HW2
  have c0_0 := cell_of_row _ _ 0 _ _ _ hr3_0
  have c0_1 := cell_of_row _ _ 1 _ _ _ hr3_0
  have c0_2 := cell_of_row _ _ 2 _ _ _ hr3_0
  simp at c0_0 c0_1 c0_2
  go_wp2_with fail
  clear hc
  clear c0_0 c0_1 c0_2
  have HLW : ∀ {c : Nat} {a : Option Addr} {k : Nat} {M : Nat → Int}, 0 < c → Rw c w a k M → RwP (fun b => b < g) c y3 a k M := fun hc h => (((h.on HU1.out).low.keep (fun b hb => HU3.out.block b (by omega))).weak (fun b hb => by omega))
  refine (wsheet g g [] W H al cl nl L _ HP3.out (by simp) (HLW (by decide) HR.out) hnl).mono ?_
  rintro e w4 ⟨rfl, hp4, ha4⟩
  rw [List.nil_append] at hp4
  have HP4 := Lib.hid hp4
  have HW4 := Lib.hid (HW3.out.trans (ha4.below (B := w.heap.size) (by omega) (by omega) (by omega)))
  have hN4 := ha4.other _ _ _ _ (by omega) (by decide) HN3.out
  have hc := cell_of_row _ _ 0 _ _ _ hN4
  simp at hc
  clear hp4 ha4 hN4 hr3_0
  go_wp2_with fail
  clear hc
  refine (wbytes_any g g _ _ HP4.out (by rw [sheetB_length]; first | omega | (dsimp only; omega))).mono ?_
  rintro e w5 ⟨⟨b, n, c, rfl, how⟩, hb5⟩
  have HOW := Lib.hid how
  have HW5 := Lib.hid (HW4.out.trans (hb5.mono HW4.out.size))
  have hz4 := HW4.out.size
  clear how hb5
  go_wp2
  exact bodyPost_ret (v := .tuple #[.slice b n c, .int .i64 0]) (by simp [results, Try.results16, go_sem]) rfl ⟨⟨b, n, c, rfl, own_mono HOW.out hz4⟩, HW5.out⟩

theorem encsheet_any (W H : Int) (al : Option Addr) (cl nl : Nat) (L : Nat → Int) (w : World) (hr : Rw 3 w al nl L) :
    Calls Try.prog 16 #[.agg #[.int .i64 W, .int .i64 H, .slice al nl cl]] w fun e' w' => ((¬ okSh W H nl ∧ e' = .returned (.tuple #[.slice none 0 0, .int .i64 1])) ∨ (okSh W H nl ∧ ∃ b n c, e' = .returned (.tuple #[.slice b n c, .int .i64 0]) ∧ w'.ownsRow w.heap.size 5 1 (.slice b n c) (sheetB W H nl L).length (vals (sheetB W H nl L)))) ∧ Below w.heap.size w w' := by
  by_cases h : okSh W H nl
  · exact (encsheet_ok W H al cl nl L w hr h).mono fun e w' ⟨h1, h2⟩ => ⟨.inr ⟨h, h1⟩, h2⟩
  · exact (encsheet_no W H al cl nl L w h).mono fun e w' ⟨h1, h2⟩ => ⟨.inl ⟨h, h1⟩, h2⟩

set_option maxHeartbeats 8000000 in
set_option maxRecDepth 100000 in
theorem encfilm_no (W H : Int) (al ad an ab ax af : Option Addr) (cl cd cn cb cx cf nl nd nn nb ns nf : Nat) (L D N Q S F : Nat → Int) (w : World) (hr : FAt w (⟨W, H, nl, nd, nn, nb, ns, nf, L, D, N, Q, S, F⟩ : Flm) (⟨al, cl, ad, cd, an, cn, ab, cb, ax, cx, af, cf⟩ : Pl)) (h0 : ¬ okF (⟨W, H, nl, nd, nn, nb, ns, nf, L, D, N, Q, S, F⟩ : Flm)) : Calls Try.prog 17 #[.agg #[.int .i64 W, .int .i64 H, .slice al nl cl, .slice ad nd cd, .slice an nn cn, .slice ab nb cb, .slice ax ns cx, .slice af nf cf]] w fun e' w' => e' = .returned (.tuple #[.slice none 0 0, .int .i64 1]) ∧ Below w.heap.size w w' := by
  have H0 := Lib.hid h0
  have HR := Lib.hid hr
  clear h0 hr
  go_enter Try.func17, Try.ntmps17
  go_upto_region 1 with fail
  have hR := Au.rows1 w (.cells #[.int .i64 W, .int .i64 H, .slice al nl cl, .slice ad nd cd, .slice an nn cn, .slice ab nb cb, .slice ax ns cx, .slice af nf cf] 39)
  have HUx := Ve.below_n1 w (.cells #[.int .i64 W, .int .i64 H, .slice al nl cl, .slice ad nd cd, .slice an nn cn, .slice ab nb cb, .slice ax ns cx, .slice af nf cf] 39)
  obtain ⟨y0, hy0⟩ : ∃ y0, w.alloc (.cells #[.int .i64 W, .int .i64 H, .slice al nl cl, .slice ad nd cd, .slice an nn cn, .slice ab nb cb, .slice ax ns cx, .slice af nf cf] 39) = y0 := ⟨_, rfl⟩
  rw [hy0] at hR HUx ⊢
  clear hy0
  have HU0 := Lib.hid HUx
  clear HUx
  have hr0_0 := hR
  clear hR
  have c0_0 := cell_of_row _ _ 0 _ _ _ hr0_0
  have c0_1 := cell_of_row _ _ 1 _ _ _ hr0_0
  have c0_2 := cell_of_row _ _ 2 _ _ _ hr0_0
  have c0_3 := cell_of_row _ _ 3 _ _ _ hr0_0
  have c0_4 := cell_of_row _ _ 4 _ _ _ hr0_0
  have c0_5 := cell_of_row _ _ 5 _ _ _ hr0_0
  have c0_6 := cell_of_row _ _ 6 _ _ _ hr0_0
  have c0_7 := cell_of_row _ _ 7 _ _ _ hr0_0
  simp at c0_0 c0_1 c0_2 c0_3 c0_4 c0_5 c0_6 c0_7
  go_wp2_with fail
  refine (fright_any (⟨W, H, nl, nd, nn, nb, ns, nf, L, D, N, Q, S, F⟩ : Flm) (⟨al, cl, ad, cd, an, cn, ab, cb, ax, cx, af, cf⟩ : Pl) _ (HR.out.on HU0.out)).mono ?_
  rintro e y1 ⟨rfl, hb1⟩
  clear c0_0 c0_1 c0_2 c0_3 c0_4 c0_5 c0_6 c0_7
  have hr1_0 := (hb1.block _ (lt_heap hr0_0)).trans hr0_0
  have HU1 := Lib.hid (HU0.out.trans (hb1.mono HU0.out.size))
  clear hr0_0 HU0
  rw [decide_eq_false H0.out]
  go_wp2
  exact bodyPost_ret (v := .tuple #[.slice none 0 0, .int .i64 1]) (by simp [results, Try.results17, go_sem]) rfl ⟨rfl, HU1.out⟩

set_option maxHeartbeats 8000000 in
set_option maxRecDepth 100000 in
theorem encfilm_ok (W H : Int) (al ad an ab ax af : Option Addr) (cl cd cn cb cx cf nl nd nn nb ns nf : Nat) (L D N Q S F : Nat → Int) (w : World) (hr : FAt w (⟨W, H, nl, nd, nn, nb, ns, nf, L, D, N, Q, S, F⟩ : Flm) (⟨al, cl, ad, cd, an, cn, ab, cb, ax, cx, af, cf⟩ : Pl)) (h0 : okF (⟨W, H, nl, nd, nn, nb, ns, nf, L, D, N, Q, S, F⟩ : Flm)) : Calls Try.prog 17 #[.agg #[.int .i64 W, .int .i64 H, .slice al nl cl, .slice ad nd cd, .slice an nn cn, .slice ab nb cb, .slice ax ns cx, .slice af nf cf]] w fun e' w' => (∃ b n c, e' = .returned (.tuple #[.slice b n c, .int .i64 0]) ∧ w'.ownsRow w.heap.size 5 1 (.slice b n c) (filmB (⟨W, H, nl, nd, nn, nb, ns, nf, L, D, N, Q, S, F⟩ : Flm)).length (vals (filmB (⟨W, H, nl, nd, nn, nb, ns, nf, L, D, N, Q, S, F⟩ : Flm)))) ∧ Below w.heap.size w w' := by
  have H0 := Lib.hid h0
  have hm := okSz_mul h0.1.1
  have hnl : nl ≤ 5000 := by have := h0.1.2; simp only [] at this hm; omega
  have hnd : nd ≤ 5000 := by have := h0.2.1; simp only [] at this hm; omega
  have hnn : nn ≤ 5000 := by have := h0.2.2.1; simp only [] at this hm; omega
  have hnb : nb ≤ 5000 := by have := h0.2.2.2.1; simp only [] at this hm; omega
  have hns : ns ≤ 5000 := by have := h0.2.2.2.2.1.1; simp only [] at this hm; omega
  have hnf : nf ≤ 5000 := by have := h0.2.2.2.2.2.1; simp only [] at this hm; omega
  have HR := Lib.hid hr
  clear h0 hr hm
  go_enter Try.func17, Try.ntmps17
  go_upto_region 1 with fail
  have hR := Au.rows1 w (.cells #[.int .i64 W, .int .i64 H, .slice al nl cl, .slice ad nd cd, .slice an nn cn, .slice ab nb cb, .slice ax ns cx, .slice af nf cf] 39)
  have HUx := Ve.below_n1 w (.cells #[.int .i64 W, .int .i64 H, .slice al nl cl, .slice ad nd cd, .slice an nn cn, .slice ab nb cb, .slice ax ns cx, .slice af nf cf] 39)
  obtain ⟨y0, hy0⟩ : ∃ y0, w.alloc (.cells #[.int .i64 W, .int .i64 H, .slice al nl cl, .slice ad nd cd, .slice an nn cn, .slice ab nb cb, .slice ax ns cx, .slice af nf cf] 39) = y0 := ⟨_, rfl⟩
  rw [hy0] at hR HUx ⊢
  clear hy0
  have HU0 := Lib.hid HUx
  clear HUx
  have hr0_0 := hR
  clear hR
  have c0_0 := cell_of_row _ _ 0 _ _ _ hr0_0
  have c0_1 := cell_of_row _ _ 1 _ _ _ hr0_0
  have c0_2 := cell_of_row _ _ 2 _ _ _ hr0_0
  have c0_3 := cell_of_row _ _ 3 _ _ _ hr0_0
  have c0_4 := cell_of_row _ _ 4 _ _ _ hr0_0
  have c0_5 := cell_of_row _ _ 5 _ _ _ hr0_0
  have c0_6 := cell_of_row _ _ 6 _ _ _ hr0_0
  have c0_7 := cell_of_row _ _ 7 _ _ _ hr0_0
  simp at c0_0 c0_1 c0_2 c0_3 c0_4 c0_5 c0_6 c0_7
  go_wp2_with fail
  refine (fright_any (⟨W, H, nl, nd, nn, nb, ns, nf, L, D, N, Q, S, F⟩ : Flm) (⟨al, cl, ad, cd, an, cn, ab, cb, ax, cx, af, cf⟩ : Pl) _ (HR.out.on HU0.out)).mono ?_
  rintro e y1 ⟨rfl, hb1⟩
  clear c0_0 c0_1 c0_2 c0_3 c0_4 c0_5 c0_6 c0_7
  have hr1_0 := (hb1.block _ (lt_heap hr0_0)).trans hr0_0
  have HU1 := Lib.hid (HU0.out.trans (hb1.mono HU0.out.size))
  clear hr0_0 HU0
  rw [decide_eq_true H0.out]
  have hl0 := HU1.out.size
  have c0_0 := cell_of_row _ _ 0 _ _ _ hr1_0
  have c0_1 := cell_of_row _ _ 1 _ _ _ hr1_0
  have c0_2 := cell_of_row _ _ 2 _ _ _ hr1_0
  have c0_3 := cell_of_row _ _ 3 _ _ _ hr1_0
  have c0_4 := cell_of_row _ _ 4 _ _ _ hr1_0
  have c0_5 := cell_of_row _ _ 5 _ _ _ hr1_0
  have c0_6 := cell_of_row _ _ 6 _ _ _ hr1_0
  have c0_7 := cell_of_row _ _ 7 _ _ _ hr1_0
  simp at c0_0 c0_1 c0_2 c0_3 c0_4 c0_5 c0_6 c0_7
  go_wp2_with fail
  refine (wnew _).mono ?_
  rintro e y9 ⟨rfl, hwp, hb2⟩
  clear c0_0 c0_1 c0_2 c0_3 c0_4 c0_5 c0_6 c0_7
  have HB2 := Lib.hid ((hb2.block _ (lt_heap hr1_0)).trans hr1_0)
  have HW2 := Lib.hid (HU1.out.trans (hb2.mono hl0))
  have HP2 := Lib.hid hwp
  have HV2 := Lib.hid hb2
  obtain ⟨g, hg⟩ : ∃ g, g = y1.heap.size := ⟨_, rfl⟩
  have hg2 := hwp.size.2
  rw [← hg] at HP2 HV2 hg2 ⊢
  have HG := Lib.hid hg
  have hgw : w.heap.size < g := by have := lt_heap hr1_0; omega
  have hgy : y1.heap.size ≤ g := by omega
  have hgz : g ≤ y1.heap.size := by omega
  clear hwp hb2 hr1_0 hg
  go_upto_region 4 with fail
  have hb3 := Ve.below_n1 y9 (.cells #[.pointer (some ⟨g, 0, none⟩)] 82)
  have hN := heap_alloc_last y9 (.cells #[.pointer (some ⟨g, 0, none⟩)] 82)
  obtain ⟨y3, hy3⟩ : ∃ y, y9.alloc (.cells #[.pointer (some ⟨g, 0, none⟩)] 82) = y := ⟨_, rfl⟩
  rw [hy3] at hb3 hN ⊢
  clear hy3
  have hr3_0 := (hb3.block _ (lt_heap HB2.out)).trans HB2.out
  have HP3 := Lib.hid (HP2.out.new hb3)
  have HU3 := Lib.hid (HV2.out.trans (hb3.mono (Nat.le_of_lt hg2)))
  have HW3 := Lib.hid (HW2.out.trans (hb3.mono HW2.out.size))
  have HN3 := Lib.hid hN
  have hl3 := lt_heap hN
  have hl2 := HV2.out.size
  have hc := cell_of_row _ _ 0 _ _ _ hN
  simp at hc
  clear hb3 hN HB2 HP2 HW2
  have c0_0 := cell_of_row _ _ 0 _ _ _ hr3_0
  have c0_1 := cell_of_row _ _ 1 _ _ _ hr3_0
  have c0_2 := cell_of_row _ _ 2 _ _ _ hr3_0
  have c0_3 := cell_of_row _ _ 3 _ _ _ hr3_0
  have c0_4 := cell_of_row _ _ 4 _ _ _ hr3_0
  have c0_5 := cell_of_row _ _ 5 _ _ _ hr3_0
  have c0_6 := cell_of_row _ _ 6 _ _ _ hr3_0
  have c0_7 := cell_of_row _ _ 7 _ _ _ hr3_0
  simp at c0_0 c0_1 c0_2 c0_3 c0_4 c0_5 c0_6 c0_7
  go_wp2_with fail
  clear hc
  clear c0_0 c0_1 c0_2 c0_3 c0_4 c0_5 c0_6 c0_7
  have HLW : ∀ {c : Nat} {a : Option Addr} {k : Nat} {M : Nat → Int}, 0 < c → Rw c w a k M → RwP (fun b => b < g) c y3 a k M := fun hc h => (((h.on HU1.out).low.keep (fun b hb => HU3.out.block b (by omega))).weak (fun b hb => by omega))
  refine (wfilm g g [] W H al ad an ab ax af cl cd cn cb cx cf nl nd nn nb ns nf L D N Q S F _ HP3.out (by simp) (HLW (by decide) HR.out.l) hnl (HLW (by decide) HR.out.d) hnd (HLW (by decide) HR.out.n) hnn (HLW (by decide) HR.out.b) hnb (HLW (by decide) HR.out.s) hns (HLW (by decide) HR.out.f) hnf).mono ?_
  rintro e w4 ⟨rfl, hp4, ha4⟩
  rw [List.nil_append] at hp4
  have HP4 := Lib.hid (show WP g g (filmB (⟨W, H, nl, nd, nn, nb, ns, nf, L, D, N, Q, S, F⟩ : Flm)) w4 from hp4)
  have HW4 := Lib.hid (HW3.out.trans (ha4.below (B := w.heap.size) (by omega) (by omega) (by omega)))
  have hN4 := ha4.other _ _ _ _ (by omega) (by decide) HN3.out
  have hc := cell_of_row _ _ 0 _ _ _ hN4
  simp at hc
  clear hp4 ha4 hN4 hr3_0
  go_wp2_with fail
  clear hc
  refine (wbytes_any g g _ _ HP4.out (by rw [filmB_length]; first | omega | (dsimp only; omega))).mono ?_
  rintro e w5 ⟨⟨b, n, c, rfl, how⟩, hb5⟩
  have HOW := Lib.hid how
  have HW5 := Lib.hid (HW4.out.trans (hb5.mono HW4.out.size))
  have hz4 := HW4.out.size
  clear how hb5
  go_wp2
  exact bodyPost_ret (v := .tuple #[.slice b n c, .int .i64 0]) (by simp [results, Try.results17, go_sem]) rfl ⟨⟨b, n, c, rfl, own_mono HOW.out hz4⟩, HW5.out⟩

theorem encfilm_any (f : Flm) (p : Pl) (w : World) (hr : FAt w f p) :
    Calls Try.prog 17 #[.agg (FC f p)] w fun e' w' => ((¬ okF f ∧ e' = .returned (.tuple #[.slice none 0 0, .int .i64 1])) ∨ (okF f ∧ ∃ b n c, e' = .returned (.tuple #[.slice b n c, .int .i64 0]) ∧ w'.ownsRow w.heap.size 5 1 (.slice b n c) (filmB f).length (vals (filmB f)))) ∧ Below w.heap.size w w' := by
  obtain ⟨W, H, nl, nd, nn, nb, ns, nf, L, D, N, Q, S, F⟩ := f
  obtain ⟨al, cl, ad, cd, an, cn, ab, cb, ax, cx, af, cf⟩ := p
  by_cases h : okF ⟨W, H, nl, nd, nn, nb, ns, nf, L, D, N, Q, S, F⟩
  · refine (encfilm_ok W H al ad an ab ax af cl cd cn cb cx cf nl nd nn nb ns nf L D N Q S F w hr h).mono ?_
    rintro e w' ⟨h1, h2⟩
    exact ⟨.inr ⟨h, h1⟩, h2⟩
  · refine (encfilm_no W H al ad an ab ax af cl cd cn cb cx cf nl nd nn nb ns nf L D N Q S F w hr h).mono ?_
    rintro e w' ⟨h1, h2⟩
    exact ⟨.inl ⟨h, h1⟩, h2⟩

/-! ### the document's example -/
theorem example_is : sheetB 1 1 1 (fun _ => 0) = [1, 0, 1, 0, 0, 0, 0, 0, 0, 0, 0, 0, 0, 0, 0, 0, 0, 0, 0] := by decide +kernel

set_option maxHeartbeats 2000000 in
set_option maxRecDepth 100000 in
theorem awake_any (w : World) : Calls Try.prog 7 #[] w fun e w' => e = .returned (.bool true) ∧ Below w.heap.size w w' := by
  have hrow : ∀ (y : World) (t : TypeId), Rw 3 (y.alloc (.cells #[.int .i64 0, .int .i64 0, .int .i64 0] t)) (some ⟨y.heap.size, 0, none⟩) 1 (fun _ => 0) := fun y t => .inr ⟨_, _, rfl, by simp, fun j hj => by
    match j, hj with
    | 0, _ => go_simp
    | 1, _ => go_simp
    | 2, _ => go_simp⟩
  have HROW := Lib.hid hrow
  clear hrow
  go_enter Try.func7, Try.ntmps7
  go_wp2_with fail
  refine (encsheet_any 1 1 (some ⟨w.heap.size, 0, none⟩) 1 1 (fun _ => 0) _ (HROW.out w _)).mono ?_
  rintro e w1 ⟨⟨hno, -⟩ | ⟨-, b, n, c, rfl, how⟩, hb1⟩
  · exact absurd (show okSh 1 1 1 from ⟨⟨by omega, by omega, by omega, by omega⟩, rfl⟩) hno
  rw [example_is] at how
  have HW1 := Lib.hid ((Ve.below_n1 w _).trans (hb1.mono (by simp)))
  have hlen : ([1, 0, 1, 0, 0, 0, 0, 0, 0, 0, 0, 0, 0, 0, 0, 0, 0, 0, 0] : List UInt8).length = 19 := rfl
  rcases how.2 with ⟨h, h0⟩ | ⟨q, cap, cur, h, -⟩
  · cases h0
  · injection h with q4 q5 q6
    rw [hlen] at q5
    subst q4 q5 q6
    have e0 : w1.cell? ⟨q, 0, none⟩ = some (.int .u8 1) := how.cellAt 0 (by decide)
    have e2 : w1.cell? ⟨q, 2, none⟩ = some (.int .u8 1) := how.cellAt 2 (by decide)
    clear how hb1 hlen
    go_wp2_with fail
    go_ret
    exact ⟨rfl, HW1.out⟩

end Go.Proofs.Ytgkfoiekminfmaa.Fm
