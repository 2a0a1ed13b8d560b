/- Films, sheets, as bytes, by the document: SheetBytes, Bytes. -/
import Derived.Test.YtgkfoiekminfmaaFg
import Derived.Test.YtgkfoiekminfmaaRld
namespace Go.Proofs.Ytgkfoiekminfmaa.Fm
open Go.RowKit Go.Proofs.Ytgkfoiekminfmaa Go.Proofs.Ytgkfoiekminfmaa.Rp Go.Proofs.Ytgkfoiekminfmaa.Re Go.Proofs.Ytgkfoiekminfmaa.Au Go.Proofs.Ytgkfoiekminfmaa.Jw
set_option linter.unusedVariables false
set_option linter.unusedSimpArgs false

set_option maxHeartbeats 8000000 in
set_option maxRecDepth 100000 in
theorem dsheet_any (W H : Int) (al : Option Addr) (cl nl : Nat) (L : Nat → Int) (w : World) (hr : Rw 3 w al nl L) (hn : nl ≤ 5000) : Calls Try.prog 18 #[.agg #[.int .i64 W, .int .i64 H, .slice al nl cl]] w fun e' w' => (∃ v, e' = .returned v ∧ w'.ownsRow w.heap.size 5 1 v (sheetB W H nl L).length (vals (sheetB W H nl L))) ∧ Below w.heap.size w w' := by
  have HRl := Lib.hid hr
  clear hr
  obtain ⟨mw, hmw⟩ : ∃ m : Nat, m = u64 W := ⟨_, rfl⟩
  have hwz : IntKind.u64.wrap W = (mw : Int) := by rw [hmw, u64_wrap]
  have hwl : mw < 18446744073709551616 := by rw [hmw]; exact u64_lt W
  obtain ⟨mh, hmh⟩ : ∃ m : Nat, m = u64 H := ⟨_, rfl⟩
  have hhz : IntKind.u64.wrap H = (mh : Int) := by rw [hmh, u64_wrap]
  have hhl : mh < 18446744073709551616 := by rw [hmh]; exact u64_lt H
  have HM := Lib.hid (show numsOf 2 [W, H] = bytesOf mw 2 ++ bytesOf mh 2 by rw [hmw, hmh]; simp [numsOf])
  clear hmw hmh
  go_enter Try.func18, Try.ntmps18
  go_upto_region 1 with fail
  have hR := Au.rows1 w (.cells #[.int .i64 W, .int .i64 H, .slice al nl cl] 24)
  have HUx := Ve.below_n1 w (.cells #[.int .i64 W, .int .i64 H, .slice al nl cl] 24)
  obtain ⟨y0, hy0⟩ : ∃ y0, w.alloc (.cells #[.int .i64 W, .int .i64 H, .slice al nl cl] 24) = y0 := ⟨_, rfl⟩
  rw [hy0] at hR HUx ⊢
  clear hy0
  have HU0 := Lib.hid HUx
  clear HUx
  have hr0_0 := hR
  clear hR
  refine wp_region_held_drew (S := fun y => y.heap[w.heap.size]? = some (.cells #[.int .i64 W, .int .i64 H, .slice al nl cl] 24 (0, 0))) (by kernel_rfl) (hr0_0) (fun hS0 => ?_)
  obtain ⟨y1, hy1⟩ : ∃ y, y0.drew = y := ⟨_, rfl⟩
  have HU1 := Lib.hid (show Below w.heap.size w y1 by rw [← hy1]; exact HU0.out.drew)
  have hr1_0 : y1.heap[w.heap.size]? = some (.cells #[.int .i64 W, .int .i64 H, .slice al nl cl] 24 (0, 0)) := by rw [← hy1]; exact hr0_0
  rw [hy1] at hS0 ⊢
  clear hy1
  refine wpAnyH_take (i := 0) (v := ?_) rfl (by kernel_rfl) (by kernel_rfl) (by kernel_rfl) (fun _ _ _ h => h) (Or.inl ⟨by kernel_rfl, by (intro wz hSz; go_simp; try with_reducible rfl)⟩) hS0 ?_
  go_simp
  refine wpAnyH_take (i := 1) (v := ?_) rfl (by kernel_rfl) (by kernel_rfl) (by kernel_rfl) (fun _ _ _ h => h) (Or.inl ⟨by kernel_rfl, by (intro wz hSz; have c0_0 := cell_of_row _ _ 0 _ _ _ hSz; have c0_1 := cell_of_row _ _ 1 _ _ _ hSz; have c0_2 := cell_of_row _ _ 2 _ _ _ hSz; simp at c0_0 c0_1 c0_2; go_simp; try with_reducible rfl)⟩) hS0 ?_
  go_simp
  refine wpAnyH_take (i := 2) (v := ?_) rfl (by kernel_rfl) (by kernel_rfl) (by kernel_rfl) (fun _ _ _ h => h) (Or.inl ⟨by kernel_rfl, by (intro wz hSz; go_simp; try with_reducible rfl)⟩) hS0 ?_
  go_simp
  refine wpAnyH_take (i := 4) (v := ?_) rfl (by kernel_rfl) (by kernel_rfl) (by kernel_rfl) (fun _ _ _ h => h) (Or.inl ⟨by kernel_rfl, by (intro wz hSz; go_simp; try with_reducible rfl)⟩) hS0 ?_
  go_simp
  refine wpAnyH_take (i := 5) (v := ?_) rfl (by kernel_rfl) (by kernel_rfl) (by kernel_rfl) (fun _ _ _ h => h) (Or.inl ⟨by kernel_rfl, by (intro wz hSz; have c0_0 := cell_of_row _ _ 0 _ _ _ hSz; have c0_1 := cell_of_row _ _ 1 _ _ _ hSz; have c0_2 := cell_of_row _ _ 2 _ _ _ hSz; simp at c0_0 c0_1 c0_2; go_simp; try with_reducible rfl)⟩) hS0 ?_
  go_simp
  refine wpAnyH_take (i := 6) (v := ?_) rfl (by kernel_rfl) (by kernel_rfl) (by kernel_rfl) (fun _ _ _ h => h) (Or.inl ⟨by kernel_rfl, by (intro wz hSz; go_simp; try with_reducible rfl)⟩) hS0 ?_
  go_simp
  refine wpAnyH_ready (rs := [3]) (by kernel_rfl) (by simp) ?_
  refine AllReadyH.cons rfl (fun K hK => ?_) AllReadyH.nil
  go_simp
  go_wp2_with (go_at_call 38; refine (num_any [] mw 2 hwl (by omega) _ _ (.inl ⟨rfl, rfl⟩) (by simp)).mono ?_; rintro e y2 ⟨⟨v1_, rfl, ho1⟩, hb2⟩; have HB0 := Lib.hid (own_bs ho1); obtain ⟨a1_, c1_, hv1⟩ := own_form ho1; clear ho1; obtain ⟨bm0, hbm0⟩ : ∃ bl, bl = ([] ++ bytesOf mw 2).length := ⟨_, rfl⟩; rw [← hbm0] at hv1; clear hbm0; subst hv1; have HB1 := HB0; clear HB0)
  have hr2_0 := (hb2.block _ (lt_heap hr1_0)).trans hr1_0
  have HU2 := Lib.hid (HU1.out.trans (hb2.mono HU1.out.size))
  refine hK.out _ _ ((hb2.block _ (lt_heap hS0)).trans hS0) (fun hS2c => ?_)
  clear hK K
  refine wpAnyH_ready (rs := [7]) (by kernel_rfl) (by simp) ?_
  refine AllReadyH.cons rfl (fun K hK => ?_) AllReadyH.nil
  go_simp
  go_wp2_with (go_at_call 38; refine (num_any ([] ++ bytesOf mw 2) mh 2 hhl (by omega) _ _ HB1.out (by simp [bytesOf_length])).mono ?_; rintro e y3 ⟨⟨v2_, rfl, ho2⟩, hb3⟩; have HO2 := Lib.hid ho2; obtain ⟨a2_, c2_, hv2⟩ := own_form ho2; clear ho2; obtain ⟨bl0, hbl0⟩ : ∃ bl, bl = ([] ++ bytesOf mw 2 ++ bytesOf mh 2).length := ⟨_, rfl⟩; rw [← hbl0] at hv2; clear hbl0; subst hv2)
  have hr3_0 := (hb3.block _ (lt_heap hr2_0)).trans hr2_0
  have HU3 := Lib.hid (HU2.out.trans (hb3.mono HU2.out.size))
  refine hK.out _ _ ((hb3.block _ (lt_heap hS2c)).trans hS2c) (fun hS3c => ?_)
  clear hK K
  refine wpAnyH_take (i := 8) (v := ?_) rfl (by kernel_rfl) (by kernel_rfl) (by kernel_rfl) (fun _ _ _ h => h) (Or.inl ⟨by kernel_rfl, by (intro wz hSz; go_simp; try with_reducible rfl)⟩) hS3c ?_
  go_simp
  refine wpAnyH_done (by kernel_rfl) ?_ _
  have hz9 := HU3.out.size
  have hz8 := HU2.out.size
  have HO3 := Lib.hid (show y3.ownsRow w.heap.size 5 1 (.slice a2_ bl0 c2_) (numsOf 2 [W, H]).length (vals (numsOf 2 [W, H])) by have h := HO2.out; rw [List.nil_append, ← HM.out] at h; exact own_mono h (by omega))
  go_upto_region 3 with fail
  go_loopw [3, 4] (fun v i wr => ∃ k : Nat, k ≤ nl ∧ i = .int .i64 k ∧ wr.heap[w.heap.size]? = some (.cells #[.int .i64 W, .int .i64 H, .slice al nl cl] 24 (0, 0)) ∧ Hid (wr.ownsRow w.heap.size 5 1 v (numsOf 2 [W, H] ++ vecsOf L k).length (vals (numsOf 2 [W, H] ++ vecsOf L k))) ∧ Hid (Below w.heap.size w wr)) (fun _ i _ => nl - (intOf i).toNat)
  case atStart => exact ⟨0, by omega, rfl, hr3_0, Lib.hid (by have h := HO3.out; simpa [vecsOf] using h), HU3⟩
  case round =>
    obtain ⟨k, hk, rfl, hrb, HI, HU⟩ := hrel
    have hzr := HU.out.size
    obtain ⟨va, vc, hv⟩ := own_form HI.out
    by_cases hlt : k < nl
    · have hlt' : (k : Int) < nl := by omega
      obtain ⟨sb, so, hsa, e0, e1, e2⟩ := (HRl.out.on HU.out).at3 hlt
      subst hsa
      obtain ⟨x0, hx0⟩ : ∃ x, x = L (k * 3) := ⟨_, rfl⟩
      rw [← hx0] at e0
      obtain ⟨x1, hx1⟩ : ∃ x, x = L (k * 3 + 1) := ⟨_, rfl⟩
      rw [← hx1] at e1
      obtain ⟨x2, hx2⟩ : ∃ x, x = L (k * 3 + 2) := ⟨_, rfl⟩
      rw [← hx2] at e2
      have HX := Lib.hid (show vecsOf L (k + 1) = vecsOf L k ++ numsOf 5 [x0, x1, x2] by rw [vecsOf, ← hx0, ← hx1, ← hx2])
      clear hx0 hx1 hx2
      have c0 := cell_of_row _ _ 2 _ _ _ hrb
      simp at c0
      obtain ⟨bl, hbl⟩ : ∃ bl, bl = (numsOf 2 [W, H] ++ vecsOf L k).length := ⟨_, rfl⟩
      have HBL := Lib.hid hbl
      rw [← hbl] at hv
      clear hbl
      subst hv
      go_wp2_with fail
      refine (dvec_any _ x0 x1 x2 _ _ (own_bs HI.out) (by simp only [List.length_append, numsOf_length, bytesOf_length, vecsOf_length, sheetB_length, bts_length, List.length_cons, List.length_nil]; omega)).mono ?_
      rintro e w1 ⟨⟨v', rfl, ho⟩, hb1⟩
      have HI2 := Lib.hid (show w1.ownsRow w.heap.size 5 1 v' (numsOf 2 [W, H] ++ vecsOf L (k + 1)).length (vals (numsOf 2 [W, H] ++ vecsOf L (k + 1))) by rw [HX.out, ← List.append_assoc]; exact own_mono ho hzr)
      have hrb2 := (hb1.block _ (lt_heap hrb)).trans hrb
      have HU2 := Lib.hid (HU.out.trans (hb1.mono HU.out.size))
      clear ho hb1 c0 e0 e1 e2
      go_wp2_with fail
      go_roundw
      case rel => exact ⟨k + 1, by omega, by go_num, hrb2, HI2, HU2⟩
      case measure => simp [intOf]; omega
    · have hge : ¬ (k : Int) < nl := by omega
      have hkn : nl = k := by omega
      subst hkn
      obtain ⟨y4, hwr⟩ : ∃ y : World, y = wr := ⟨_, rfl⟩
      rw [← hwr] at hrb HI HU hzr ⊢
      clear hwr
      obtain ⟨bl4, hbl⟩ : ∃ bl, bl = (numsOf 2 [W, H] ++ vecsOf L nl).length := ⟨_, rfl⟩
      have HBL4 := Lib.hid hbl
      rw [← hbl] at hv
      clear hbl
      subst hv
      have hr4_0 := hrb
      have HO4 := HI
      have HU4 := HU
      clear hrb HI HU
      have c4 := cell_of_row _ _ 2 _ _ _ hr4_0
      simp at c4
      go_wp2
      go_ret
      exact ⟨⟨.slice va bl4 vc, rfl, HO4.out⟩, HU4.out⟩

set_option maxHeartbeats 16000000 in
set_option maxRecDepth 100000 in
theorem dfilm_letters (W H : Int) (al ad an ab ax af : Option Addr) (cl cd cn cb cx cf nl nd nn nb ns nf : Nat) (L D N Q S F : Nat → Int) (w : World)  (hl : Rw 3 w al nl L) (bl : nl ≤ 5000) (hd : Rw 1 w ad nd D) (bd : nd ≤ 5000) (hn : Rw 3 w an nn N) (bn : nn ≤ 5000) (hb : Rw 3 w ab nb Q) (bb : nb ≤ 5000) (hs : Rw 1 w ax ns S) (bs : ns ≤ 5000) (hf : Rw 1 w af nf F) (bf : nf ≤ 5000) : Calls Try.prog 19 #[.agg #[.int .i64 W, .int .i64 H, .slice al nl cl, .slice ad nd cd, .slice an nn cn, .slice ab nb cb, .slice ax ns cx, .slice af nf cf]] w fun e' w' => (∃ v, e' = .returned v ∧ w'.ownsRow w.heap.size 5 1 v (sheetB W H nl L ++ bts 5 D nd ++ vecsOf N nn ++ vecsOf Q nb ++ bts 2 S ns ++ bts 2 F nf).length (vals (sheetB W H nl L ++ bts 5 D nd ++ vecsOf N nn ++ vecsOf Q nb ++ bts 2 S ns ++ bts 2 F nf))) ∧ Below w.heap.size w w' := by
  obtain ⟨Z, hZ⟩ : ∃ Z, Z = sheetB W H nl L ++ bts 5 D nd ++ vecsOf N nn ++ vecsOf Q nb ++ bts 2 S ns ++ bts 2 F nf := ⟨_, rfl⟩
  rw [← hZ]
  have HZ := Lib.hid hZ
  clear hZ
  have HRl := Lib.hid hl
  clear hl
  have HRd := Lib.hid hd
  clear hd
  have HRn := Lib.hid hn
  clear hn
  have HRb := Lib.hid hb
  clear hb
  have HRs := Lib.hid hs
  clear hs
  have HRf := Lib.hid hf
  clear hf
  go_enter Try.func19, Try.ntmps19
  go_upto_region 1 with fail
  have hR := Au.rows1 w (.cells #[.int .i64 W, .int .i64 H, .slice al nl cl, .slice ad nd cd, .slice an nn cn, .slice ab nb cb, .slice ax ns cx, .slice af nf cf] 29)
  have HUx := Ve.below_n1 w (.cells #[.int .i64 W, .int .i64 H, .slice al nl cl, .slice ad nd cd, .slice an nn cn, .slice ab nb cb, .slice ax ns cx, .slice af nf cf] 29)
  obtain ⟨y0, hy0⟩ : ∃ y0, w.alloc (.cells #[.int .i64 W, .int .i64 H, .slice al nl cl, .slice ad nd cd, .slice an nn cn, .slice ab nb cb, .slice ax ns cx, .slice af nf cf] 29) = y0 := ⟨_, rfl⟩
  rw [hy0] at hR HUx ⊢
  clear hy0
  have HU0 := Lib.hid HUx
  clear HUx
  have hr0_0 := hR
  clear hR
  have c0_0 := cell_of_row _ _ 0 _ _ _ hr0_0
  have c0_1 := cell_of_row _ _ 1 _ _ _ hr0_0
  have c0_2 := cell_of_row _ _ 2 _ _ _ hr0_0
  have c0_3 := cell_of_row _ _ 3 _ _ _ hr0_0
  have c0_4 := cell_of_row _ _ 4 _ _ _ hr0_0
  have c0_5 := cell_of_row _ _ 5 _ _ _ hr0_0
  have c0_6 := cell_of_row _ _ 6 _ _ _ hr0_0
  have c0_7 := cell_of_row _ _ 7 _ _ _ hr0_0
  simp at c0_0 c0_1 c0_2 c0_3 c0_4 c0_5 c0_6 c0_7
  go_wp2_with fail
  refine (dsheet_any W H al cl nl L _ (HRl.out.on HU0.out) bl).mono ?_
  rintro e y1 ⟨⟨v, rfl, ho⟩, hb1⟩
  clear c0_0 c0_1 c0_2 c0_3 c0_4 c0_5 c0_6 c0_7
  have hz0 := HU0.out.size
  have hr1_0 := (hb1.block _ (lt_heap hr0_0)).trans hr0_0
  have HU1 := Lib.hid (HU0.out.trans (hb1.mono HU0.out.size))
  have HO1 := Lib.hid (own_mono ho hz0)
  clear hr0_0 HU0 ho hb1
  obtain ⟨va, vc, hv⟩ := own_form HO1.out
  obtain ⟨bl1, hbl⟩ : ∃ bl, bl = (sheetB W H nl L).length := ⟨_, rfl⟩
  have HBL1 := Lib.hid hbl
  rw [← hbl] at hv
  clear hbl
  subst hv
  go_upto_region 3 with fail
  go_loopw [3, 4] (fun v i wr => ∃ k : Nat, k ≤ nd ∧ i = .int .i64 k ∧ wr.heap[w.heap.size]? = some (.cells #[.int .i64 W, .int .i64 H, .slice al nl cl, .slice ad nd cd, .slice an nn cn, .slice ab nb cb, .slice ax ns cx, .slice af nf cf] 29 (0, 0)) ∧ Hid (wr.ownsRow w.heap.size 5 1 v (sheetB W H nl L ++ bts 5 D k).length (vals (sheetB W H nl L ++ bts 5 D k))) ∧ Hid (Below w.heap.size w wr)) (fun _ i _ => nd - (intOf i).toNat)
  case atStart => exact ⟨0, by omega, rfl, hr1_0, Lib.hid (by have h := HO1.out; simpa [bts] using h), HU1⟩
  case round =>
    obtain ⟨k, hk, rfl, hrb, HI, HU⟩ := hrel
    have hzr := HU.out.size
    obtain ⟨va, vc, hv⟩ := own_form HI.out
    by_cases hlt : k < nd
    · have hlt' : (k : Int) < nd := by omega
      obtain ⟨sb, so, hsa, e0⟩ := (HRd.out.on HU.out).at1 hlt
      subst hsa
      obtain ⟨x0, hx0⟩ : ∃ x, x = D (k) := ⟨_, rfl⟩
      rw [← hx0] at e0
      obtain ⟨m, hm⟩ : ∃ m : Nat, m = Rp.u64 x0 := ⟨_, rfl⟩
      have hnz : IntKind.u64.wrap x0 = (m : Int) := by rw [hm, u64_wrap]
      have hml : m < 18446744073709551616 := by rw [hm]; exact u64_lt x0
      have HX := Lib.hid (show bts 5 D (k + 1) = bts 5 D k ++ bytesOf m 5 by rw [bts, ← hx0, hm])
      clear hx0 hm
      have c0 := cell_of_row _ _ 3 _ _ _ hrb
      simp at c0
      obtain ⟨bl, hbl⟩ : ∃ bl, bl = (sheetB W H nl L ++ bts 5 D k).length := ⟨_, rfl⟩
      have HBL := Lib.hid hbl
      rw [← hbl] at hv
      clear hbl
      subst hv
      go_wp2_with fail
      refine (num_any _ m 5 hml (by omega) _ _ (own_bs HI.out) (by simp only [List.length_append, numsOf_length, bytesOf_length, vecsOf_length, sheetB_length, bts_length, List.length_cons, List.length_nil]; omega)).mono ?_
      rintro e w1 ⟨⟨v', rfl, ho⟩, hb1⟩
      have HI2 := Lib.hid (show w1.ownsRow w.heap.size 5 1 v' (sheetB W H nl L ++ bts 5 D (k + 1)).length (vals (sheetB W H nl L ++ bts 5 D (k + 1))) by rw [HX.out, ← List.append_assoc]; exact own_mono ho hzr)
      have hrb2 := (hb1.block _ (lt_heap hrb)).trans hrb
      have HU2 := Lib.hid (HU.out.trans (hb1.mono HU.out.size))
      clear ho hb1 c0 e0
      go_wp2_with fail
      go_roundw
      case rel => exact ⟨k + 1, by omega, by go_num, hrb2, HI2, HU2⟩
      case measure => simp [intOf]; omega
    · have hge : ¬ (k : Int) < nd := by omega
      have hkn : nd = k := by omega
      subst hkn
      obtain ⟨y2, hwr⟩ : ∃ y : World, y = wr := ⟨_, rfl⟩
      rw [← hwr] at hrb HI HU hzr ⊢
      clear hwr
      obtain ⟨bl2, hbl⟩ : ∃ bl, bl = (sheetB W H nl L ++ bts 5 D nd).length := ⟨_, rfl⟩
      have HBL2 := Lib.hid hbl
      rw [← hbl] at hv
      clear hbl
      subst hv
      have hr2_0 := hrb
      have HO2 := HI
      have HU2 := HU
      clear hrb HI HU
      have c2 := cell_of_row _ _ 3 _ _ _ hr2_0
      simp at c2
      go_upto_region 7 with fail
      go_loopw [3, 5] (fun v i wr => ∃ k : Nat, k ≤ nn ∧ i = .int .i64 k ∧ wr.heap[w.heap.size]? = some (.cells #[.int .i64 W, .int .i64 H, .slice al nl cl, .slice ad nd cd, .slice an nn cn, .slice ab nb cb, .slice ax ns cx, .slice af nf cf] 29 (0, 0)) ∧ Hid (wr.ownsRow w.heap.size 5 1 v (sheetB W H nl L ++ bts 5 D nd ++ vecsOf N k).length (vals (sheetB W H nl L ++ bts 5 D nd ++ vecsOf N k))) ∧ Hid (Below w.heap.size w wr)) (fun _ i _ => nn - (intOf i).toNat)
      case atStart => exact ⟨0, by omega, rfl, hr2_0, Lib.hid (by have h := HO2.out; simpa [vecsOf] using h), HU2⟩
      case round =>
        obtain ⟨k, hk, rfl, hrb, HI, HU⟩ := hrel
        have hzr := HU.out.size
        obtain ⟨va, vc, hv⟩ := own_form HI.out
        by_cases hlt : k < nn
        · have hlt' : (k : Int) < nn := by omega
          obtain ⟨sb, so, hsa, e0, e1, e2⟩ := (HRn.out.on HU.out).at3 hlt
          subst hsa
          obtain ⟨x0, hx0⟩ : ∃ x, x = N (k * 3) := ⟨_, rfl⟩
          rw [← hx0] at e0
          obtain ⟨x1, hx1⟩ : ∃ x, x = N (k * 3 + 1) := ⟨_, rfl⟩
          rw [← hx1] at e1
          obtain ⟨x2, hx2⟩ : ∃ x, x = N (k * 3 + 2) := ⟨_, rfl⟩
          rw [← hx2] at e2
          have HX := Lib.hid (show vecsOf N (k + 1) = vecsOf N k ++ numsOf 5 [x0, x1, x2] by rw [vecsOf, ← hx0, ← hx1, ← hx2])
          clear hx0 hx1 hx2
          have c0 := cell_of_row _ _ 4 _ _ _ hrb
          simp at c0
          obtain ⟨bl, hbl⟩ : ∃ bl, bl = (sheetB W H nl L ++ bts 5 D nd ++ vecsOf N k).length := ⟨_, rfl⟩
          have HBL := Lib.hid hbl
          rw [← hbl] at hv
          clear hbl
          subst hv
          go_wp2_with fail
          refine (dvec_any _ x0 x1 x2 _ _ (own_bs HI.out) (by simp only [List.length_append, numsOf_length, bytesOf_length, vecsOf_length, sheetB_length, bts_length, List.length_cons, List.length_nil]; omega)).mono ?_
          rintro e w1 ⟨⟨v', rfl, ho⟩, hb1⟩
          have HI2 := Lib.hid (show w1.ownsRow w.heap.size 5 1 v' (sheetB W H nl L ++ bts 5 D nd ++ vecsOf N (k + 1)).length (vals (sheetB W H nl L ++ bts 5 D nd ++ vecsOf N (k + 1))) by rw [HX.out, ← List.append_assoc]; exact own_mono ho hzr)
          have hrb2 := (hb1.block _ (lt_heap hrb)).trans hrb
          have HU2 := Lib.hid (HU.out.trans (hb1.mono HU.out.size))
          clear ho hb1 c0 e0 e1 e2
          go_wp2_with fail
          go_roundw
          case rel => exact ⟨k + 1, by omega, by go_num, hrb2, HI2, HU2⟩
          case measure => simp [intOf]; omega
        · have hge : ¬ (k : Int) < nn := by omega
          have hkn : nn = k := by omega
          subst hkn
          obtain ⟨y3, hwr⟩ : ∃ y : World, y = wr := ⟨_, rfl⟩
          rw [← hwr] at hrb HI HU hzr ⊢
          clear hwr
          obtain ⟨bl3, hbl⟩ : ∃ bl, bl = (sheetB W H nl L ++ bts 5 D nd ++ vecsOf N nn).length := ⟨_, rfl⟩
          have HBL3 := Lib.hid hbl
          rw [← hbl] at hv
          clear hbl
          subst hv
          have hr3_0 := hrb
          have HO3 := HI
          have HU3 := HU
          clear hrb HI HU
          have c3 := cell_of_row _ _ 4 _ _ _ hr3_0
          simp at c3
          go_upto_region 11 with fail
          go_loopw [3, 6] (fun v i wr => ∃ k : Nat, k ≤ nb ∧ i = .int .i64 k ∧ wr.heap[w.heap.size]? = some (.cells #[.int .i64 W, .int .i64 H, .slice al nl cl, .slice ad nd cd, .slice an nn cn, .slice ab nb cb, .slice ax ns cx, .slice af nf cf] 29 (0, 0)) ∧ Hid (wr.ownsRow w.heap.size 5 1 v (sheetB W H nl L ++ bts 5 D nd ++ vecsOf N nn ++ vecsOf Q k).length (vals (sheetB W H nl L ++ bts 5 D nd ++ vecsOf N nn ++ vecsOf Q k))) ∧ Hid (Below w.heap.size w wr)) (fun _ i _ => nb - (intOf i).toNat)
          case atStart => exact ⟨0, by omega, rfl, hr3_0, Lib.hid (by have h := HO3.out; simpa [vecsOf] using h), HU3⟩
          case round =>
            obtain ⟨k, hk, rfl, hrb, HI, HU⟩ := hrel
            have hzr := HU.out.size
            obtain ⟨va, vc, hv⟩ := own_form HI.out
            by_cases hlt : k < nb
            · have hlt' : (k : Int) < nb := by omega
              obtain ⟨sb, so, hsa, e0, e1, e2⟩ := (HRb.out.on HU.out).at3 hlt
              subst hsa
              obtain ⟨x0, hx0⟩ : ∃ x, x = Q (k * 3) := ⟨_, rfl⟩
              rw [← hx0] at e0
              obtain ⟨x1, hx1⟩ : ∃ x, x = Q (k * 3 + 1) := ⟨_, rfl⟩
              rw [← hx1] at e1
              obtain ⟨x2, hx2⟩ : ∃ x, x = Q (k * 3 + 2) := ⟨_, rfl⟩
              rw [← hx2] at e2
              have HX := Lib.hid (show vecsOf Q (k + 1) = vecsOf Q k ++ numsOf 5 [x0, x1, x2] by rw [vecsOf, ← hx0, ← hx1, ← hx2])
              clear hx0 hx1 hx2
              have c0 := cell_of_row _ _ 5 _ _ _ hrb
              simp at c0
              obtain ⟨bl, hbl⟩ : ∃ bl, bl = (sheetB W H nl L ++ bts 5 D nd ++ vecsOf N nn ++ vecsOf Q k).length := ⟨_, rfl⟩
              have HBL := Lib.hid hbl
              rw [← hbl] at hv
              clear hbl
              subst hv
              go_wp2_with fail
              refine (dvec_any _ x0 x1 x2 _ _ (own_bs HI.out) (by simp only [List.length_append, numsOf_length, bytesOf_length, vecsOf_length, sheetB_length, bts_length, List.length_cons, List.length_nil]; omega)).mono ?_
              rintro e w1 ⟨⟨v', rfl, ho⟩, hb1⟩
              have HI2 := Lib.hid (show w1.ownsRow w.heap.size 5 1 v' (sheetB W H nl L ++ bts 5 D nd ++ vecsOf N nn ++ vecsOf Q (k + 1)).length (vals (sheetB W H nl L ++ bts 5 D nd ++ vecsOf N nn ++ vecsOf Q (k + 1))) by rw [HX.out, ← List.append_assoc]; exact own_mono ho hzr)
              have hrb2 := (hb1.block _ (lt_heap hrb)).trans hrb
              have HU2 := Lib.hid (HU.out.trans (hb1.mono HU.out.size))
              clear ho hb1 c0 e0 e1 e2
              go_wp2_with fail
              go_roundw
              case rel => exact ⟨k + 1, by omega, by go_num, hrb2, HI2, HU2⟩
              case measure => simp [intOf]; omega
            · have hge : ¬ (k : Int) < nb := by omega
              have hkn : nb = k := by omega
              subst hkn
              obtain ⟨y4, hwr⟩ : ∃ y : World, y = wr := ⟨_, rfl⟩
              rw [← hwr] at hrb HI HU hzr ⊢
              clear hwr
              obtain ⟨bl4, hbl⟩ : ∃ bl, bl = (sheetB W H nl L ++ bts 5 D nd ++ vecsOf N nn ++ vecsOf Q nb).length := ⟨_, rfl⟩
              have HBL4 := Lib.hid hbl
              rw [← hbl] at hv
              clear hbl
              subst hv
              have hr4_0 := hrb
              have HO4 := HI
              have HU4 := HU
              clear hrb HI HU
              have c4 := cell_of_row _ _ 5 _ _ _ hr4_0
              simp at c4
              go_upto_region 15 with fail
              go_loopw [3, 7] (fun v i wr => ∃ k : Nat, k ≤ ns ∧ i = .int .i64 k ∧ wr.heap[w.heap.size]? = some (.cells #[.int .i64 W, .int .i64 H, .slice al nl cl, .slice ad nd cd, .slice an nn cn, .slice ab nb cb, .slice ax ns cx, .slice af nf cf] 29 (0, 0)) ∧ Hid (wr.ownsRow w.heap.size 5 1 v (sheetB W H nl L ++ bts 5 D nd ++ vecsOf N nn ++ vecsOf Q nb ++ bts 2 S k).length (vals (sheetB W H nl L ++ bts 5 D nd ++ vecsOf N nn ++ vecsOf Q nb ++ bts 2 S k))) ∧ Hid (Below w.heap.size w wr)) (fun _ i _ => ns - (intOf i).toNat)
              case atStart => exact ⟨0, by omega, rfl, hr4_0, Lib.hid (by have h := HO4.out; simpa [bts] using h), HU4⟩
              case round =>
                obtain ⟨k, hk, rfl, hrb, HI, HU⟩ := hrel
                have hzr := HU.out.size
                obtain ⟨va, vc, hv⟩ := own_form HI.out
                by_cases hlt : k < ns
                · have hlt' : (k : Int) < ns := by omega
                  obtain ⟨sb, so, hsa, e0⟩ := (HRs.out.on HU.out).at1 hlt
                  subst hsa
                  obtain ⟨x0, hx0⟩ : ∃ x, x = S (k) := ⟨_, rfl⟩
                  rw [← hx0] at e0
                  obtain ⟨m, hm⟩ : ∃ m : Nat, m = Rp.u64 x0 := ⟨_, rfl⟩
                  have hnz : IntKind.u64.wrap x0 = (m : Int) := by rw [hm, u64_wrap]
                  have hml : m < 18446744073709551616 := by rw [hm]; exact u64_lt x0
                  have HX := Lib.hid (show bts 2 S (k + 1) = bts 2 S k ++ bytesOf m 2 by rw [bts, ← hx0, hm])
                  clear hx0 hm
                  have c0 := cell_of_row _ _ 6 _ _ _ hrb
                  simp at c0
                  obtain ⟨bl, hbl⟩ : ∃ bl, bl = (sheetB W H nl L ++ bts 5 D nd ++ vecsOf N nn ++ vecsOf Q nb ++ bts 2 S k).length := ⟨_, rfl⟩
                  have HBL := Lib.hid hbl
                  rw [← hbl] at hv
                  clear hbl
                  subst hv
                  go_wp2_with fail
                  refine (num_any _ m 2 hml (by omega) _ _ (own_bs HI.out) (by simp only [List.length_append, numsOf_length, bytesOf_length, vecsOf_length, sheetB_length, bts_length, List.length_cons, List.length_nil]; omega)).mono ?_
                  rintro e w1 ⟨⟨v', rfl, ho⟩, hb1⟩
                  have HI2 := Lib.hid (show w1.ownsRow w.heap.size 5 1 v' (sheetB W H nl L ++ bts 5 D nd ++ vecsOf N nn ++ vecsOf Q nb ++ bts 2 S (k + 1)).length (vals (sheetB W H nl L ++ bts 5 D nd ++ vecsOf N nn ++ vecsOf Q nb ++ bts 2 S (k + 1))) by rw [HX.out, ← List.append_assoc]; exact own_mono ho hzr)
                  have hrb2 := (hb1.block _ (lt_heap hrb)).trans hrb
                  have HU2 := Lib.hid (HU.out.trans (hb1.mono HU.out.size))
                  clear ho hb1 c0 e0
                  go_wp2_with fail
                  go_roundw
                  case rel => exact ⟨k + 1, by omega, by go_num, hrb2, HI2, HU2⟩
                  case measure => simp [intOf]; omega
                · have hge : ¬ (k : Int) < ns := by omega
                  have hkn : ns = k := by omega
                  subst hkn
                  obtain ⟨y5, hwr⟩ : ∃ y : World, y = wr := ⟨_, rfl⟩
                  rw [← hwr] at hrb HI HU hzr ⊢
                  clear hwr
                  obtain ⟨bl5, hbl⟩ : ∃ bl, bl = (sheetB W H nl L ++ bts 5 D nd ++ vecsOf N nn ++ vecsOf Q nb ++ bts 2 S ns).length := ⟨_, rfl⟩
                  have HBL5 := Lib.hid hbl
                  rw [← hbl] at hv
                  clear hbl
                  subst hv
                  have hr5_0 := hrb
                  have HO5 := HI
                  have HU5 := HU
                  clear hrb HI HU
                  have c5 := cell_of_row _ _ 6 _ _ _ hr5_0
                  simp at c5
                  go_upto_region 19 with fail
                  go_loopw [3, 8] (fun v i wr => ∃ k : Nat, k ≤ nf ∧ i = .int .i64 k ∧ wr.heap[w.heap.size]? = some (.cells #[.int .i64 W, .int .i64 H, .slice al nl cl, .slice ad nd cd, .slice an nn cn, .slice ab nb cb, .slice ax ns cx, .slice af nf cf] 29 (0, 0)) ∧ Hid (wr.ownsRow w.heap.size 5 1 v (sheetB W H nl L ++ bts 5 D nd ++ vecsOf N nn ++ vecsOf Q nb ++ bts 2 S ns ++ bts 2 F k).length (vals (sheetB W H nl L ++ bts 5 D nd ++ vecsOf N nn ++ vecsOf Q nb ++ bts 2 S ns ++ bts 2 F k))) ∧ Hid (Below w.heap.size w wr)) (fun _ i _ => nf - (intOf i).toNat)
                  case atStart => exact ⟨0, by omega, rfl, hr5_0, Lib.hid (by have h := HO5.out; simpa [bts] using h), HU5⟩
                  case round =>
                    obtain ⟨k, hk, rfl, hrb, HI, HU⟩ := hrel
                    have hzr := HU.out.size
                    obtain ⟨va, vc, hv⟩ := own_form HI.out
                    by_cases hlt : k < nf
                    · have hlt' : (k : Int) < nf := by omega
                      obtain ⟨sb, so, hsa, e0⟩ := (HRf.out.on HU.out).at1 hlt
                      subst hsa
                      obtain ⟨x0, hx0⟩ : ∃ x, x = F (k) := ⟨_, rfl⟩
                      rw [← hx0] at e0
                      obtain ⟨m, hm⟩ : ∃ m : Nat, m = Rp.u64 x0 := ⟨_, rfl⟩
                      have hnz : IntKind.u64.wrap x0 = (m : Int) := by rw [hm, u64_wrap]
                      have hml : m < 18446744073709551616 := by rw [hm]; exact u64_lt x0
                      have HX := Lib.hid (show bts 2 F (k + 1) = bts 2 F k ++ bytesOf m 2 by rw [bts, ← hx0, hm])
                      clear hx0 hm
                      have c0 := cell_of_row _ _ 7 _ _ _ hrb
                      simp at c0
                      obtain ⟨bl, hbl⟩ : ∃ bl, bl = (sheetB W H nl L ++ bts 5 D nd ++ vecsOf N nn ++ vecsOf Q nb ++ bts 2 S ns ++ bts 2 F k).length := ⟨_, rfl⟩
                      have HBL := Lib.hid hbl
                      rw [← hbl] at hv
                      clear hbl
                      subst hv
                      go_wp2_with fail
                      refine (num_any _ m 2 hml (by omega) _ _ (own_bs HI.out) (by simp only [List.length_append, numsOf_length, bytesOf_length, vecsOf_length, sheetB_length, bts_length, List.length_cons, List.length_nil]; omega)).mono ?_
                      rintro e w1 ⟨⟨v', rfl, ho⟩, hb1⟩
                      have HI2 := Lib.hid (show w1.ownsRow w.heap.size 5 1 v' (sheetB W H nl L ++ bts 5 D nd ++ vecsOf N nn ++ vecsOf Q nb ++ bts 2 S ns ++ bts 2 F (k + 1)).length (vals (sheetB W H nl L ++ bts 5 D nd ++ vecsOf N nn ++ vecsOf Q nb ++ bts 2 S ns ++ bts 2 F (k + 1))) by rw [HX.out, ← List.append_assoc]; exact own_mono ho hzr)
                      have hrb2 := (hb1.block _ (lt_heap hrb)).trans hrb
                      have HU2 := Lib.hid (HU.out.trans (hb1.mono HU.out.size))
                      clear ho hb1 c0 e0
                      go_wp2_with fail
                      go_roundw
                      case rel => exact ⟨k + 1, by omega, by go_num, hrb2, HI2, HU2⟩
                      case measure => simp [intOf]; omega
                    · have hge : ¬ (k : Int) < nf := by omega
                      have hkn : nf = k := by omega
                      subst hkn
                      obtain ⟨y6, hwr⟩ : ∃ y : World, y = wr := ⟨_, rfl⟩
                      rw [← hwr] at hrb HI HU hzr ⊢
                      clear hwr
                      obtain ⟨bl6, hbl⟩ : ∃ bl, bl = (sheetB W H nl L ++ bts 5 D nd ++ vecsOf N nn ++ vecsOf Q nb ++ bts 2 S ns ++ bts 2 F nf).length := ⟨_, rfl⟩
                      have HBL6 := Lib.hid hbl
                      rw [← hbl] at hv
                      clear hbl
                      subst hv
                      have hr6_0 := hrb
                      have HO6 := HI
                      have HU6 := HU
                      clear hrb HI HU
                      have c6 := cell_of_row _ _ 7 _ _ _ hr6_0
                      simp at c6
                      go_wp2
                      go_ret
                      exact ⟨⟨.slice va bl6 vc, rfl, by rw [HZ.out]; exact HO6.out⟩, HU6.out⟩

theorem dfilm_any (f : Flm) (p : Pl) (w : World) (h : FAt w f p) (ho : okF f) :
    Calls Try.prog 19 #[.agg (FC f p)] w fun e' w' => (∃ v, e' = .returned v ∧ w'.ownsRow w.heap.size 5 1 v (filmB f).length (vals (filmB f))) ∧ Below w.heap.size w w' := by
  obtain ⟨W, H, nl, nd, nn, nb, ns, nf, L, D, N, Q, S, F⟩ := f
  obtain ⟨al, cl, ad, cd, an, cn, ab, cb, ax, cx, af, cf⟩ := p
  obtain ⟨h1, h2, h3, h4, h5, h6⟩ := h
  obtain ⟨⟨k0, k1⟩, k2, k3, k4, ⟨k5, -⟩, ⟨k6, -⟩⟩ := ho
  have hm := okSz_mul k0
  simp only [] at k1 k2 k3 k4 k5 k6 hm
  exact dfilm_letters W H al ad an ab ax af cl cd cn cb cx cf nl nd nn nb ns nf L D N Q S F w h1 (by omega) h2 (by omega) h3 (by omega) h4 (by omega) h5 (by omega) h6 (by omega)

end Go.Proofs.Ytgkfoiekminfmaa.Fm
