/- Layer 21 (plate): PlateBack's walk. -/
import Derived.Test.YtcohehekkeeeoaaDoorPgu
import Derived.Test.YtcohehekkeeeoaaDoorPgv
namespace Go.Proofs.YtcohehekkeeeoaaDoor.Pg
open Go Go.RowKit Go.Proofs.YtcohehekkeeeoaaDoor Go.Proofs.YtcohehekkeeeoaaDoor.Re Go.Proofs.YtcohehekkeeeoaaDoor.Au
set_option linter.unusedVariables false
set_option linter.unusedSimpArgs false

theorem same_eq (x' y' x y : Int) (hx : x' = x) (hy : y' = y) (n : Nat) (a a' : Option Addr) (c c' : Nat) (D : List UInt8) (w : World) (h1 : Dt w a n D) (h2 : Dt w a' n D) (hn : n ≤ 100000) : Calls Tryd.prog 14 #[.agg #[.int .i64 x', .int .i64 y', .slice a n c], .agg #[.int .i64 x, .int .i64 y, .slice a' n c']] w fun e' w' => e' = .returned (.bool true) ∧ Below w.heap.size w w' := by
  subst hx hy
  exact same_any x' y' n a a' c c' D w h1 h2 (by omega)

set_option maxHeartbeats 8000000 in
set_option maxRecDepth 100000 in
theorem back_yy (x y : Int) (a : Option Addr) (n c : Nat) (D : List UInt8) (ab : Option Addr) (nb cb : Nat) (lb : List UInt8) (w : World) (hD : Dn w a n c D) (hb : BA w ab nb cb lb) (hnb : nb ≤ 140737488351232) (hn : n ≤ 5000) (hok : Fm.okSh x y n) (E dw dh Kn : Nat) (DD : List UInt8) (hdec : Dec lb E dw dh DD) (hE : E = 0) (hKn : Kn = dw * dh) : Calls Tryd.prog 5 #[.agg #[.int .i64 x, .int .i64 y, .slice a n c], .slice ab nb cb] w fun e' w' => e' = .returned (.bool true) ∧ Below w.heap.size w w' := by
  obtain ⟨wn, hwn⟩ : ∃ k : Nat, x = k := ⟨x.toNat, by have := hok.1.1; omega⟩
  obtain ⟨hm, hhm⟩ : ∃ k : Nat, y = k := ⟨y.toNat, by have := hok.1.2.2.1; omega⟩
  have HWN := Lib.hid hwn
  have HHM := Lib.hid hhm
  have hDl := hD.1.1
  obtain ⟨F, hF⟩ : ∃ F, F = headL wn hm ++ D := ⟨_, rfl⟩
  have HF := Lib.hid hF
  obtain ⟨Q, hQ⟩ : ∃ Q, Q = F.length := ⟨_, rfl⟩
  have HQ := Lib.hid hQ
  have hQ2 : Q = (headL wn hm).length + 3 * n := by rw [hQ, hF, List.length_append, hDl]
  have hlen := head_len wn hm
  have hnw : n = wn * hm := by
    have h := hok.2
    rw [hwn, hhm] at h
    have : ((wn * hm : Nat) : Int) = (wn : Int) * (hm : Int) := by simp
    omega
  have HNW := Lib.hid hnw
  have HDF := Lib.hid (show Dec F 0 wn hm D by
    rw [hF]
    exact dec_laid (by have := hok.1.1; omega) (by have := hok.1.2.1; omega) (by have := hok.1.2.2.1; omega) (by have := hok.1.2.2.2; omega) (by rw [hDl, hnw]))
  have hQb : Q ≤ 20000 := by omega
  have hQ3 : decide ((Q : Int) < 3) = false := decide_eq_false (by omega)
  have hQ3' : ¬ (Q : Int) < 3 := by omega
  have hn5 : (n : Int) ≤ 4096 ∧ 1 ≤ (n : Int) := by have := Fm.okSz_mul hok.1; have := hok.2; omega
  have hxy : 3 * x * y = 3 * (n : Int) := by rw [hok.2, Int.mul_assoc]
  have hwr : IntKind.i64.wrap (3 * x * y) = 3 * (n : Int) := by rw [hxy, IntKind.wrap_i64]; omega
  have hq11 : decide ((Q : Int) < 3 * (n : Int) + 11) = false := decide_eq_false (by omega)
  have hq13 : decide (3 * (n : Int) + 13 < (Q : Int)) = false := decide_eq_false (by omega)
  have hwx : IntKind.i64.wrap (3 * x) = 3 * x := by have := hok.1.1; have := hok.1.2.1; rw [IntKind.wrap_i64]; omega
  have hw11 : IntKind.i64.wrap (3 * (n : Int) + 11) = 3 * (n : Int) + 11 := by rw [IntKind.wrap_i64]; omega
  have hw13 : IntKind.i64.wrap (3 * (n : Int) + 13) = 3 * (n : Int) + 13 := by rw [IntKind.wrap_i64]; omega
  have hx64 : 1 ≤ x ∧ x ≤ 64 := ⟨hok.1.1, hok.1.2.1⟩
  have hy64 : 1 ≤ y ∧ y ≤ 64 := ⟨hok.1.2.2.1, hok.1.2.2.2⟩
  have HT3 := Lib.hid (show F.take 3 = [80, 54, 10] by rw [hF]; rfl)
  have HOKS := Lib.hid hok
  clear hQ2 hQ hF hDl hok hlen hnw hxy hn5 hwn hhm
  have HD := Lib.hid hD
  have HBA := Lib.hid hb
  have HDEC := Lib.hid hdec
  have HKK := Lib.hid hKn
  clear hD hb hdec hKn
  subst hE
  have HHEAD := Lib.hid (show lb = headL dw dh ++ DD ∧ 1 ≤ dw ∧ dw ≤ 64 ∧ 1 ≤ dh ∧ dh ≤ 64 ∧ DD.length = 3 * Kn by
    cases HDEC.out with
    | ok h1 h2 => exact ⟨h1.1, h1.2.1, h1.2.2.1, h1.2.2.2.1, h1.2.2.2.2, by rw [HKK.out]; exact h2⟩)
  have HOKD := Lib.hid (show Fm.okSh (dw : Int) (dh : Int) Kn from ⟨⟨by have := HHEAD.out.2.1; omega, by have := HHEAD.out.2.2.1; omega, by have := HHEAD.out.2.2.2.1; omega, by have := HHEAD.out.2.2.2.2.1; omega⟩, by rw [HKK.out]; simp⟩)
  have HLNE := Lib.hid (show lb ≠ [] from fun e => by
    have h1 := congrArg List.length HHEAD.out.1
    have h2 := head_len dw dh
    rw [e, List.length_append] at h1
    simp at h1
    omega)
  go_enter Tryd.func5, Tryd.ntmps5
  go_upto_region 1 with fail
  have hr0 := heap_alloc_last w (.cells #[.int .i64 x, .int .i64 y, .slice a n c] 52)
  have hb0 := Ve.below_n1 w (.cells #[.int .i64 x, .int .i64 y, .slice a n c] 52)
  obtain ⟨y0, hy0⟩ : ∃ y0, w.alloc (.cells #[.int .i64 x, .int .i64 y, .slice a n c] 52) = y0 := ⟨_, rfl⟩
  obtain ⟨p0, hp0⟩ : ∃ p, p = w.heap.size := ⟨_, rfl⟩
  rw [hy0] at hr0 hb0 ⊢
  rw [← hp0] at hr0 ⊢
  clear hy0 hp0
  have HR := Lib.hid hr0
  have HB := Lib.hid hb0
  replace HD := Lib.hid (show Dn y0 a n c D from ⟨HD.out.1.on hb0, HD.out.2⟩)
  replace HBA := Lib.hid (HBA.out.on hb0)
  clear hb0 hr0
  have c0 := cell_of_row _ _ 0 _ _ _ HR.out
  have c1 := cell_of_row _ _ 1 _ _ _ HR.out
  have c2 := cell_of_row _ _ 2 _ _ _ HR.out
  simp at c0 c1 c2
  go_upto_region 3 with fail
  go_wp2_with fail
  refine (to_any x y a n c D y0 HD.out hn).mono ?_
  rintro e y1 ⟨⟨v1, rfl, ho1⟩, hb1⟩
  obtain ⟨a1, c1_, hv1⟩ := own_slice ho1
  subst hv1
  clear c0 c1 c2
  have HT1 := Lib.hid (dt_own HD.out.1.1 ho1)
  replace HR := Lib.hid ((hb1.block _ (lt_heap HR.out)).trans HR.out)
  replace HB := Lib.hid (HB.out.trans (hb1.mono HB.out.size))
  replace HBA := Lib.hid (HBA.out.on hb1)
  replace HD := Lib.hid (show Dn _ a n c D from ⟨HD.out.1.on hb1, HD.out.2⟩)
  clear ho1 hb1
  have c0 := cell_of_row _ _ 0 _ _ _ HR.out
  have c1 := cell_of_row _ _ 1 _ _ _ HR.out
  have c2 := cell_of_row _ _ 2 _ _ _ HR.out
  simp at c0 c1 c2
  go_upto_region 5 with (go_at_call 20; refine (encode_yes x y wn hm a1 n c1_ D _ HWN.out HHM.out HOKS.out HT1.out).mono ?_; rintro e y2 ⟨v2, rfl, ho2, hb2⟩; obtain ⟨a2, c2_, hv2⟩ := ho2.form; subst hv2; rw [← HF.out, ← HQ.out] at ho2 ⊢)
  clear c0 c1 c2
  replace HR := Lib.hid ((hb2.block _ (lt_heap HR.out)).trans HR.out)
  replace HB := Lib.hid (HB.out.trans (hb2.mono HB.out.size))
  replace HBA := Lib.hid (HBA.out.on hb2)
  replace HD := Lib.hid (show Dn _ a n c D from ⟨HD.out.1.on hb2, HD.out.2⟩)
  have HX := Lib.hid ho2.ba
  have hQ3n : 3 ≤ Q := by have := of_decide_eq_false hQ3; omega
  have hc3 : (3 : Int) ≤ (c2_ : Int) := by have := ho2.ba.2.1; omega
  clear ho2 hb2 HT1
  go_upto_region 6 with (go_at_call 23; refine (decode_any a2 Q c2_ F _ HX.out (by omega)).mono ?_; rintro e y3 ⟨g, dw1, dh1, K1, D1, v3, hdec1, rfl, hK1, ho3, hb3⟩; obtain ⟨a3, c3_, hv3⟩ := own_slice ho3; subst hv3; replace hK1 := Lib.hid hK1; obtain ⟨rfl, rfl, rfl, rfl⟩ := HDF.out.one hdec1; obtain rfl : n = K1 := by rw [HNW.out, hK1.out])
  replace HR := Lib.hid ((hb3.block _ (lt_heap HR.out)).trans HR.out)
  replace HB := Lib.hid (HB.out.trans (hb3.mono HB.out.size))
  replace HBA := Lib.hid (HBA.out.on hb3)
  replace HX := Lib.hid (HX.out.on hb3)
  replace HD := Lib.hid (show Dn _ a n c D from ⟨HD.out.1.on hb3, HD.out.2⟩)
  have HZD := Lib.hid (dt_own HD.out.1.1 ho3)
  clear ho3 hb3 hdec1 hK1
  have hr4 := heap_alloc_last y3 (.cells #[.int .i64 wn, .int .i64 hm, .slice a3 n c3_] 44)
  have hb4 := Ve.below_n1 y3 (.cells #[.int .i64 wn, .int .i64 hm, .slice a3 n c3_] 44)
  obtain ⟨y4, hy4⟩ : ∃ y4, y3.alloc (.cells #[.int .i64 wn, .int .i64 hm, .slice a3 n c3_] 44) = y4 := ⟨_, rfl⟩
  obtain ⟨p4, hp4⟩ : ∃ p, p = y3.heap.size := ⟨_, rfl⟩
  rw [hy4] at hr4 hb4 ⊢
  rw [← hp4] at hr4 ⊢
  clear hy4 hp4
  replace HR := Lib.hid ((hb4.block _ (lt_heap HR.out)).trans HR.out)
  replace HB := Lib.hid (HB.out.trans (hb4.mono HB.out.size))
  replace HBA := Lib.hid (HBA.out.on hb4)
  replace HX := Lib.hid (HX.out.on hb4)
  replace HZD := Lib.hid (HZD.out.on hb4)
  replace HD := Lib.hid (show Dn _ a n c D from ⟨HD.out.1.on hb4, HD.out.2⟩)
  have HZ := Lib.hid hr4
  clear hr4 hb4
  have hS00 : Below y4.heap.size y4 y4.drew := (Below.refl _ y4).drew
  refine wp_region_held_drew (S := Below y4.heap.size y4) (by kernel_rfl) (hS00) (fun hS0 => ?_)
  refine wpAnyH_take (i := 0) (v := ?_) rfl (by kernel_rfl) (by kernel_rfl) (by kernel_rfl) (fun _ _ _ h => h) (Or.inl ⟨by kernel_rfl, by (intro wz hSz; go_simp; try with_reducible rfl)⟩) hS0 ?_
  go_simp
  refine wpAnyH_take (i := 1) (v := ?_) rfl (by kernel_rfl) (by kernel_rfl) (by kernel_rfl) (fun _ _ _ h => h) (Or.inl ⟨by kernel_rfl, by (intro wz hSz; go_simp; try with_reducible rfl)⟩) hS0 ?_
  go_simp
  refine wpAnyH_take (i := 2) (v := ?_) rfl (by kernel_rfl) (by kernel_rfl) (by kernel_rfl) (fun _ _ _ h => h) (Or.inl ⟨by kernel_rfl, by (intro wz hSz; go_simp; try with_reducible rfl)⟩) hS0 ?_
  go_simp
  refine wpAnyH_take (i := 3) (v := ?_) rfl (by kernel_rfl) (by kernel_rfl) (by kernel_rfl) (fun _ _ _ h => h) (Or.inl ⟨by kernel_rfl, by (intro wz hSz; go_simp; try with_reducible rfl)⟩) hS0 ?_
  go_simp
  refine wpAnyH_take (i := 4) (v := ?_) rfl (by kernel_rfl) (by kernel_rfl) (by kernel_rfl) (fun _ _ _ h => h) (Or.inl ⟨by kernel_rfl, by (intro wz hSz; go_simp; try with_reducible rfl)⟩) hS0 ?_
  go_simp
  refine wpAnyH_take (i := 5) (v := ?_) rfl (by kernel_rfl) (by kernel_rfl) (by kernel_rfl) (fun _ _ _ h => h) (Or.inl ⟨by kernel_rfl, by (intro wz hSz; go_simp; try with_reducible rfl)⟩) hS0 ?_
  go_simp
  refine wpAnyH_take (i := 6) (v := ?_) rfl (by kernel_rfl) (by kernel_rfl) (by kernel_rfl) (fun _ _ _ h => h) (Or.inl ⟨by kernel_rfl, by (intro wz hSz; go_simp; try with_reducible rfl)⟩) hS0 ?_
  go_simp
  refine wpAnyH_take (i := 7) (v := ?_) rfl (by kernel_rfl) (by kernel_rfl) (by kernel_rfl) (fun _ _ _ h => h) (Or.inl ⟨by kernel_rfl, by (intro wz hSz; go_simp; try with_reducible rfl)⟩) hS0 ?_
  go_simp
  refine wpAnyH_take (i := 8) (v := ?_) rfl (by kernel_rfl) (by kernel_rfl) (by kernel_rfl) (fun _ _ _ h => h) (Or.inl ⟨by kernel_rfl, by (intro wz hSz; have hc_ := (hSz.block _ (lt_heap HZ.out)).trans HZ.out; have cq0 := cell_of_row _ _ 0 _ _ _ hc_; have cq1 := cell_of_row _ _ 1 _ _ _ hc_; have cq2 := cell_of_row _ _ 2 _ _ _ hc_; simp at cq0 cq1 cq2; go_simp; try with_reducible rfl)⟩) hS0 ?_
  go_simp
  refine wpAnyH_take (i := 10) (v := ?_) rfl (by kernel_rfl) (by kernel_rfl) (by kernel_rfl) (fun _ _ _ h => h) (Or.inl ⟨by kernel_rfl, by (intro wz hSz; have hc_ := (hSz.block _ (lt_heap HR.out)).trans HR.out; have cq0 := cell_of_row _ _ 0 _ _ _ hc_; have cq1 := cell_of_row _ _ 1 _ _ _ hc_; have cq2 := cell_of_row _ _ 2 _ _ _ hc_; simp at cq0 cq1 cq2; go_simp; try with_reducible rfl)⟩) hS0 ?_
  go_simp
  refine wpAnyH_ready (rs := [9]) (by kernel_rfl) (by simp) ?_
  refine AllReadyH.cons rfl (fun K hK => ?_) AllReadyH.nil
  go_simp
  go_wp2_with (go_at_call 15; refine (from_any (wn : Int) (hm : Int) a3 n c3_ _).mono ?_; rintro e z1 ⟨rfl, hb1⟩)
  have hS1_ := hS0.trans (hb1.mono hS0.size)
  clear hb1
  refine hK.out _ _ (hS1_) (fun hS1 => ?_)
  clear hK K
  refine wpAnyH_ready (rs := [11]) (by kernel_rfl) (by simp) ?_
  refine AllReadyH.cons rfl (fun K hK => ?_) AllReadyH.nil
  go_simp
  go_wp2_with (go_at_call 14; refine (same_eq (wn : Int) (hm : Int) x y HWN.out.symm HHM.out.symm n a3 a c3_ c D _ (HZD.out.on hS1) (HD.out.1.on hS1) (by omega)).mono ?_; rintro e z2 ⟨rfl, hb2⟩)
  have hS2_ := hS1.trans (hb2.mono hS1.size)
  clear hb2
  refine hK.out _ _ (hS2_) (fun hS2 => ?_)
  clear hK K
  refine wpAnyH_take (i := 12) (v := ?_) rfl (by kernel_rfl) (by kernel_rfl) (by kernel_rfl) (fun _ _ _ h => h) (Or.inl ⟨by kernel_rfl, by (intro wz hSz; go_simp; try with_reducible rfl)⟩) hS2 ?_
  go_simp
  refine wpAnyH_take (i := 13) (v := ?_) rfl (by kernel_rfl) (by kernel_rfl) (by kernel_rfl) (fun _ _ _ h => h) (Or.inl ⟨by kernel_rfl, by (intro wz hSz; go_simp; try with_reducible rfl)⟩) hS2 ?_
  go_simp
  refine wpAnyH_take (i := 14) (v := ?_) rfl (by kernel_rfl) (by kernel_rfl) (by kernel_rfl) (fun _ _ _ h => h) (Or.inl ⟨by kernel_rfl, by (intro wz hSz; go_simp; try with_reducible rfl)⟩) hS2 ?_
  go_simp
  refine wpAnyH_take (i := 15) (v := ?_) rfl (by kernel_rfl) (by kernel_rfl) (by kernel_rfl) (fun _ _ _ h => h) (Or.inl ⟨by kernel_rfl, by (intro wz hSz; go_simp; try with_reducible rfl)⟩) hS2 ?_
  go_simp
  refine wpAnyH_take (i := 16) (v := ?_) rfl (by kernel_rfl) (by kernel_rfl) (by kernel_rfl) (fun _ _ _ h => h) (Or.inl ⟨by kernel_rfl, by (intro wz hSz; go_simp; try with_reducible rfl)⟩) hS2 ?_
  go_simp
  refine wpAnyH_take (i := 17) (v := ?_) rfl (by kernel_rfl) (by kernel_rfl) (by kernel_rfl) (fun _ _ _ h => h) (Or.inl ⟨by kernel_rfl, by (intro wz hSz; have cv_ := ((HX.out.on hSz).take (hQ3n)).conv (by rw [HT3.out]; simp); rw [HT3.out] at cv_; go_simp; try with_reducible rfl)⟩) hS2 ?_
  go_simp
  refine wpAnyH_take (i := 18) (v := ?_) rfl (by kernel_rfl) (by kernel_rfl) (by kernel_rfl) (fun _ _ _ h => h) (Or.inl ⟨by kernel_rfl, by (intro wz hSz; go_simp; try with_reducible rfl)⟩) hS2 ?_
  go_simp
  refine wpAnyH_take (i := 19) (v := ?_) rfl (by kernel_rfl) (by kernel_rfl) (by kernel_rfl) (fun _ _ _ h => h) (Or.inl ⟨by kernel_rfl, by (intro wz hSz; go_simp; try with_reducible rfl)⟩) hS2 ?_
  go_simp
  refine wpAnyH_take (i := 20) (v := ?_) rfl (by kernel_rfl) (by kernel_rfl) (by kernel_rfl) (fun _ _ _ h => h) (Or.inl ⟨by kernel_rfl, by (intro wz hSz; go_simp; try with_reducible rfl)⟩) hS2 ?_
  go_simp
  refine wpAnyH_take (i := 21) (v := ?_) rfl (by kernel_rfl) (by kernel_rfl) (by kernel_rfl) (fun _ _ _ h => h) (Or.inl ⟨by kernel_rfl, by (intro wz hSz; go_simp; try with_reducible rfl)⟩) hS2 ?_
  go_simp
  refine wpAnyH_take (i := 22) (v := ?_) rfl (by kernel_rfl) (by kernel_rfl) (by kernel_rfl) (fun _ _ _ h => h) (Or.inl ⟨by kernel_rfl, by (intro wz hSz; go_simp; try with_reducible rfl)⟩) hS2 ?_
  go_simp
  refine wpAnyH_take (i := 23) (v := ?_) rfl (by kernel_rfl) (by kernel_rfl) (by kernel_rfl) (fun _ _ _ h => h) (Or.inl ⟨by kernel_rfl, by (intro wz hSz; go_simp; try with_reducible rfl)⟩) hS2 ?_
  go_simp
  refine wpAnyH_take (i := 24) (v := ?_) rfl (by kernel_rfl) (by kernel_rfl) (by kernel_rfl) (fun _ _ _ h => h) (Or.inl ⟨by kernel_rfl, by (intro wz hSz; have hc_ := (hSz.block _ (lt_heap HR.out)).trans HR.out; have cq0 := cell_of_row _ _ 0 _ _ _ hc_; have cq1 := cell_of_row _ _ 1 _ _ _ hc_; have cq2 := cell_of_row _ _ 2 _ _ _ hc_; simp at cq0 cq1 cq2; go_simp; try with_reducible rfl)⟩) hS2 ?_
  go_simp
  refine wpAnyH_take (i := 25) (v := ?_) rfl (by kernel_rfl) (by kernel_rfl) (by kernel_rfl) (fun _ _ _ h => h) (Or.inl ⟨by kernel_rfl, by (intro wz hSz; go_simp; try with_reducible rfl)⟩) hS2 ?_
  go_simp
  refine wpAnyH_take (i := 26) (v := ?_) rfl (by kernel_rfl) (by kernel_rfl) (by kernel_rfl) (fun _ _ _ h => h) (Or.inl ⟨by kernel_rfl, by (intro wz hSz; go_simp; try with_reducible rfl)⟩) hS2 ?_
  go_simp
  refine wpAnyH_take (i := 27) (v := ?_) rfl (by kernel_rfl) (by kernel_rfl) (by kernel_rfl) (fun _ _ _ h => h) (Or.inl ⟨by kernel_rfl, by (intro wz hSz; have hc_ := (hSz.block _ (lt_heap HR.out)).trans HR.out; have cq0 := cell_of_row _ _ 0 _ _ _ hc_; have cq1 := cell_of_row _ _ 1 _ _ _ hc_; have cq2 := cell_of_row _ _ 2 _ _ _ hc_; simp at cq0 cq1 cq2; go_simp; try with_reducible rfl)⟩) hS2 ?_
  go_simp
  refine wpAnyH_take (i := 28) (v := ?_) rfl (by kernel_rfl) (by kernel_rfl) (by kernel_rfl) (fun _ _ _ h => h) (Or.inl ⟨by kernel_rfl, by (intro wz hSz; go_simp; try with_reducible rfl)⟩) hS2 ?_
  go_simp
  refine wpAnyH_take (i := 29) (v := ?_) rfl (by kernel_rfl) (by kernel_rfl) (by kernel_rfl) (fun _ _ _ h => h) (Or.inl ⟨by kernel_rfl, by (intro wz hSz; go_simp; try with_reducible rfl)⟩) hS2 ?_
  go_simp
  refine wpAnyH_take (i := 30) (v := ?_) rfl (by kernel_rfl) (by kernel_rfl) (by kernel_rfl) (fun _ _ _ h => h) (Or.inl ⟨by kernel_rfl, by (intro wz hSz; go_simp; try with_reducible rfl)⟩) hS2 ?_
  go_simp
  refine wpAnyH_take (i := 31) (v := ?_) rfl (by kernel_rfl) (by kernel_rfl) (by kernel_rfl) (fun _ _ _ h => h) (Or.inl ⟨by kernel_rfl, by (intro wz hSz; go_simp; try with_reducible rfl)⟩) hS2 ?_
  go_simp
  refine wpAnyH_take (i := 32) (v := ?_) rfl (by kernel_rfl) (by kernel_rfl) (by kernel_rfl) (fun _ _ _ h => h) (Or.inl ⟨by kernel_rfl, by (intro wz hSz; go_simp; try with_reducible rfl)⟩) hS2 ?_
  go_simp
  refine wpAnyH_take (i := 33) (v := ?_) rfl (by kernel_rfl) (by kernel_rfl) (by kernel_rfl) (fun _ _ _ h => h) (Or.inl ⟨by kernel_rfl, by (intro wz hSz; go_simp; try with_reducible rfl)⟩) hS2 ?_
  go_simp
  refine wpAnyH_take (i := 34) (v := ?_) rfl (by kernel_rfl) (by kernel_rfl) (by kernel_rfl) (fun _ _ _ h => h) (Or.inl ⟨by kernel_rfl, by (intro wz hSz; go_simp; try with_reducible rfl)⟩) hS2 ?_
  go_simp
  refine wpAnyH_take (i := 35) (v := ?_) rfl (by kernel_rfl) (by kernel_rfl) (by kernel_rfl) (fun _ _ _ h => h) (Or.inl ⟨by kernel_rfl, by (intro wz hSz; go_simp; try with_reducible rfl)⟩) hS2 ?_
  go_simp
  refine wpAnyH_take (i := 36) (v := ?_) rfl (by kernel_rfl) (by kernel_rfl) (by kernel_rfl) (fun _ _ _ h => h) (Or.inl ⟨by kernel_rfl, by (intro wz hSz; have hc_ := (hSz.block _ (lt_heap HR.out)).trans HR.out; have cq0 := cell_of_row _ _ 0 _ _ _ hc_; have cq1 := cell_of_row _ _ 1 _ _ _ hc_; have cq2 := cell_of_row _ _ 2 _ _ _ hc_; simp at cq0 cq1 cq2; go_simp; try with_reducible rfl)⟩) hS2 ?_
  go_simp
  refine wpAnyH_take (i := 37) (v := ?_) rfl (by kernel_rfl) (by kernel_rfl) (by kernel_rfl) (fun _ _ _ h => h) (Or.inl ⟨by kernel_rfl, by (intro wz hSz; go_simp; try with_reducible rfl)⟩) hS2 ?_
  go_simp
  refine wpAnyH_take (i := 38) (v := ?_) rfl (by kernel_rfl) (by kernel_rfl) (by kernel_rfl) (fun _ _ _ h => h) (Or.inl ⟨by kernel_rfl, by (intro wz hSz; go_simp; try with_reducible rfl)⟩) hS2 ?_
  go_simp
  refine wpAnyH_take (i := 39) (v := ?_) rfl (by kernel_rfl) (by kernel_rfl) (by kernel_rfl) (fun _ _ _ h => h) (Or.inl ⟨by kernel_rfl, by (intro wz hSz; have hc_ := (hSz.block _ (lt_heap HR.out)).trans HR.out; have cq0 := cell_of_row _ _ 0 _ _ _ hc_; have cq1 := cell_of_row _ _ 1 _ _ _ hc_; have cq2 := cell_of_row _ _ 2 _ _ _ hc_; simp at cq0 cq1 cq2; go_simp; try with_reducible rfl)⟩) hS2 ?_
  go_simp
  refine wpAnyH_take (i := 40) (v := ?_) rfl (by kernel_rfl) (by kernel_rfl) (by kernel_rfl) (fun _ _ _ h => h) (Or.inl ⟨by kernel_rfl, by (intro wz hSz; go_simp; try with_reducible rfl)⟩) hS2 ?_
  go_simp
  refine wpAnyH_take (i := 41) (v := ?_) rfl (by kernel_rfl) (by kernel_rfl) (by kernel_rfl) (fun _ _ _ h => h) (Or.inl ⟨by kernel_rfl, by (intro wz hSz; go_simp; try with_reducible rfl)⟩) hS2 ?_
  go_simp
  refine wpAnyH_take (i := 42) (v := ?_) rfl (by kernel_rfl) (by kernel_rfl) (by kernel_rfl) (fun _ _ _ h => h) (Or.inl ⟨by kernel_rfl, by (intro wz hSz; go_simp; try with_reducible rfl)⟩) hS2 ?_
  go_simp
  refine wpAnyH_take (i := 43) (v := ?_) rfl (by kernel_rfl) (by kernel_rfl) (by kernel_rfl) (fun _ _ _ h => h) (Or.inl ⟨by kernel_rfl, by (intro wz hSz; go_simp; try with_reducible rfl)⟩) hS2 ?_
  go_simp
  refine wpAnyH_done (by kernel_rfl) ?_ _
  obtain ⟨y5, hy5⟩ : ∃ y5, z2 = y5 := ⟨_, rfl⟩
  rw [hy5] at hS2 ⊢
  replace HR := Lib.hid ((hS2.block _ (lt_heap HR.out)).trans HR.out)
  replace HB := Lib.hid (HB.out.trans (hS2.mono HB.out.size))
  replace HBA := Lib.hid (HBA.out.on hS2)
  replace HX := Lib.hid (HX.out.on hS2)
  replace HZD := Lib.hid (HZD.out.on hS2)
  replace HD := Lib.hid (show Dn _ a n c D from ⟨HD.out.1.on hS2, HD.out.2⟩)
  clear hy5
  go_upto_region 9 with (go_at_call 23; refine (decode_any ab nb cb lb _ HBA.out hnb).mono ?_; rintro e y6 ⟨g, dw2, dh2, K2, D2, v6, hdec2, rfl, hK2, ho6, hb6⟩; obtain ⟨a6, c6_, hv6⟩ := own_slice ho6; subst hv6; replace hK2 := Lib.hid hK2; obtain ⟨rfl, rfl, rfl, rfl⟩ := HDEC.out.one hdec2; obtain rfl : Kn = K2 := by rw [HKK.out, hK2.out])
  replace HB := Lib.hid (HB.out.trans (hb6.mono HB.out.size))
  replace HBA := Lib.hid (HBA.out.on hb6)
  have HWD := Lib.hid (dt_own HHEAD.out.2.2.2.2.2 ho6)
  clear ho6 hb6 hdec2 hK2
  have hr7 := heap_alloc_last y6 (.cells #[.int .i64 dw, .int .i64 dh, .slice a6 Kn c6_] 44)
  have hb7 := Ve.below_n1 y6 (.cells #[.int .i64 dw, .int .i64 dh, .slice a6 Kn c6_] 44)
  obtain ⟨y7, hy7⟩ : ∃ y7, y6.alloc (.cells #[.int .i64 dw, .int .i64 dh, .slice a6 Kn c6_] 44) = y7 := ⟨_, rfl⟩
  obtain ⟨p7, hp7⟩ : ∃ p, p = y6.heap.size := ⟨_, rfl⟩
  rw [hy7] at hr7 hb7 ⊢
  rw [← hp7] at hr7 ⊢
  clear hy7 hp7
  replace HB := Lib.hid (HB.out.trans (hb7.mono HB.out.size))
  replace HBA := Lib.hid (HBA.out.on hb7)
  replace HWD := Lib.hid (HWD.out.on hb7)
  have HV := Lib.hid hr7
  clear hr7 hb7
  have d0 := cell_of_row _ _ 0 _ _ _ HV.out
  have d1 := cell_of_row _ _ 1 _ _ _ HV.out
  have d2 := cell_of_row _ _ 2 _ _ _ HV.out
  simp at d0 d1 d2
  go_upto_region 10 with fail
  go_upto_region 11 with (go_at_call 20; refine (encode_yes (dw : Int) (dh : Int) dw dh a6 Kn c6_ DD _ rfl rfl HOKD.out HWD.out).mono ?_; rintro e y8 ⟨v8, rfl, ho8, hb8⟩; obtain ⟨a8, c8_, hv8⟩ := ho8.form; subst hv8; rw [← HHEAD.out.1] at ho8 ⊢)
  have HXX := Lib.hid ho8.ba
  replace HB := Lib.hid (HB.out.trans (hb8.mono HB.out.size))
  replace HBA := Lib.hid (HBA.out.on hb8)
  clear ho8 hb8
  obtain ⟨T, hT⟩ : ∃ T : ByteArray, T = ⟨lb.toArray⟩ := ⟨_, rfl⟩
  have cv1 := HXX.out.conv HLNE.out
  have cv2 := HBA.out.conv HLNE.out
  rw [← hT] at cv1 cv2
  clear hT d0 d1 d2
  go_wp2_with (go_at_call 7; refine (awake_any _).mono ?_; rintro e y9 ⟨rfl, hb9⟩)
  go_ret
  exact ⟨rfl, HB.out.trans (hb9.mono HB.out.size)⟩

set_option maxHeartbeats 8000000 in
set_option maxRecDepth 100000 in
theorem back_yn (x y : Int) (a : Option Addr) (n c : Nat) (D : List UInt8) (ab : Option Addr) (nb cb : Nat) (lb : List UInt8) (w : World) (hD : Dn w a n c D) (hb : BA w ab nb cb lb) (hnb : nb ≤ 140737488351232) (hn : n ≤ 5000) (hok : Fm.okSh x y n) (E dw dh Kn : Nat) (DD : List UInt8) (hdec : Dec lb E dw dh DD) (hE : ¬ E = 0) (hKn : Kn = dw * dh) : Calls Tryd.prog 5 #[.agg #[.int .i64 x, .int .i64 y, .slice a n c], .slice ab nb cb] w fun e' w' => e' = .returned (.bool true) ∧ Below w.heap.size w w' := by
  obtain ⟨wn, hwn⟩ : ∃ k : Nat, x = k := ⟨x.toNat, by have := hok.1.1; omega⟩
  obtain ⟨hm, hhm⟩ : ∃ k : Nat, y = k := ⟨y.toNat, by have := hok.1.2.2.1; omega⟩
  have HWN := Lib.hid hwn
  have HHM := Lib.hid hhm
  have hDl := hD.1.1
  obtain ⟨F, hF⟩ : ∃ F, F = headL wn hm ++ D := ⟨_, rfl⟩
  have HF := Lib.hid hF
  obtain ⟨Q, hQ⟩ : ∃ Q, Q = F.length := ⟨_, rfl⟩
  have HQ := Lib.hid hQ
  have hQ2 : Q = (headL wn hm).length + 3 * n := by rw [hQ, hF, List.length_append, hDl]
  have hlen := head_len wn hm
  have hnw : n = wn * hm := by
    have h := hok.2
    rw [hwn, hhm] at h
    have : ((wn * hm : Nat) : Int) = (wn : Int) * (hm : Int) := by simp
    omega
  have HNW := Lib.hid hnw
  have HDF := Lib.hid (show Dec F 0 wn hm D by
    rw [hF]
    exact dec_laid (by have := hok.1.1; omega) (by have := hok.1.2.1; omega) (by have := hok.1.2.2.1; omega) (by have := hok.1.2.2.2; omega) (by rw [hDl, hnw]))
  have hQb : Q ≤ 20000 := by omega
  have hQ3 : decide ((Q : Int) < 3) = false := decide_eq_false (by omega)
  have hQ3' : ¬ (Q : Int) < 3 := by omega
  have hn5 : (n : Int) ≤ 4096 ∧ 1 ≤ (n : Int) := by have := Fm.okSz_mul hok.1; have := hok.2; omega
  have hxy : 3 * x * y = 3 * (n : Int) := by rw [hok.2, Int.mul_assoc]
  have hwr : IntKind.i64.wrap (3 * x * y) = 3 * (n : Int) := by rw [hxy, IntKind.wrap_i64]; omega
  have hq11 : decide ((Q : Int) < 3 * (n : Int) + 11) = false := decide_eq_false (by omega)
  have hq13 : decide (3 * (n : Int) + 13 < (Q : Int)) = false := decide_eq_false (by omega)
  have hwx : IntKind.i64.wrap (3 * x) = 3 * x := by have := hok.1.1; have := hok.1.2.1; rw [IntKind.wrap_i64]; omega
  have hw11 : IntKind.i64.wrap (3 * (n : Int) + 11) = 3 * (n : Int) + 11 := by rw [IntKind.wrap_i64]; omega
  have hw13 : IntKind.i64.wrap (3 * (n : Int) + 13) = 3 * (n : Int) + 13 := by rw [IntKind.wrap_i64]; omega
  have hx64 : 1 ≤ x ∧ x ≤ 64 := ⟨hok.1.1, hok.1.2.1⟩
  have hy64 : 1 ≤ y ∧ y ≤ 64 := ⟨hok.1.2.2.1, hok.1.2.2.2⟩
  have HT3 := Lib.hid (show F.take 3 = [80, 54, 10] by rw [hF]; rfl)
  have HOKS := Lib.hid hok
  clear hQ2 hQ hF hDl hok hlen hnw hxy hn5 hwn hhm
  have HD := Lib.hid hD
  have HBA := Lib.hid hb
  have HDEC := Lib.hid hdec
  have HKK := Lib.hid hKn
  clear hD hb hdec hKn
  have hEb : ((E : Int) == 0) = false := by simp [hE]
  have hEi : ¬ (E : Int) = 0 := by omega
  go_enter Tryd.func5, Tryd.ntmps5
  go_upto_region 1 with fail
  have hr0 := heap_alloc_last w (.cells #[.int .i64 x, .int .i64 y, .slice a n c] 52)
  have hb0 := Ve.below_n1 w (.cells #[.int .i64 x, .int .i64 y, .slice a n c] 52)
  obtain ⟨y0, hy0⟩ : ∃ y0, w.alloc (.cells #[.int .i64 x, .int .i64 y, .slice a n c] 52) = y0 := ⟨_, rfl⟩
  obtain ⟨p0, hp0⟩ : ∃ p, p = w.heap.size := ⟨_, rfl⟩
  rw [hy0] at hr0 hb0 ⊢
  rw [← hp0] at hr0 ⊢
  clear hy0 hp0
  have HR := Lib.hid hr0
  have HB := Lib.hid hb0
  replace HD := Lib.hid (show Dn y0 a n c D from ⟨HD.out.1.on hb0, HD.out.2⟩)
  replace HBA := Lib.hid (HBA.out.on hb0)
  clear hb0 hr0
  have c0 := cell_of_row _ _ 0 _ _ _ HR.out
  have c1 := cell_of_row _ _ 1 _ _ _ HR.out
  have c2 := cell_of_row _ _ 2 _ _ _ HR.out
  simp at c0 c1 c2
  go_upto_region 3 with fail
  go_wp2_with fail
  refine (to_any x y a n c D y0 HD.out hn).mono ?_
  rintro e y1 ⟨⟨v1, rfl, ho1⟩, hb1⟩
  obtain ⟨a1, c1_, hv1⟩ := own_slice ho1
  subst hv1
  clear c0 c1 c2
  have HT1 := Lib.hid (dt_own HD.out.1.1 ho1)
  replace HR := Lib.hid ((hb1.block _ (lt_heap HR.out)).trans HR.out)
  replace HB := Lib.hid (HB.out.trans (hb1.mono HB.out.size))
  replace HBA := Lib.hid (HBA.out.on hb1)
  replace HD := Lib.hid (show Dn _ a n c D from ⟨HD.out.1.on hb1, HD.out.2⟩)
  clear ho1 hb1
  have c0 := cell_of_row _ _ 0 _ _ _ HR.out
  have c1 := cell_of_row _ _ 1 _ _ _ HR.out
  have c2 := cell_of_row _ _ 2 _ _ _ HR.out
  simp at c0 c1 c2
  go_upto_region 5 with (go_at_call 20; refine (encode_yes x y wn hm a1 n c1_ D _ HWN.out HHM.out HOKS.out HT1.out).mono ?_; rintro e y2 ⟨v2, rfl, ho2, hb2⟩; obtain ⟨a2, c2_, hv2⟩ := ho2.form; subst hv2; rw [← HF.out, ← HQ.out] at ho2 ⊢)
  clear c0 c1 c2
  replace HR := Lib.hid ((hb2.block _ (lt_heap HR.out)).trans HR.out)
  replace HB := Lib.hid (HB.out.trans (hb2.mono HB.out.size))
  replace HBA := Lib.hid (HBA.out.on hb2)
  replace HD := Lib.hid (show Dn _ a n c D from ⟨HD.out.1.on hb2, HD.out.2⟩)
  have HX := Lib.hid ho2.ba
  have hQ3n : 3 ≤ Q := by have := of_decide_eq_false hQ3; omega
  have hc3 : (3 : Int) ≤ (c2_ : Int) := by have := ho2.ba.2.1; omega
  clear ho2 hb2 HT1
  go_upto_region 6 with (go_at_call 23; refine (decode_any a2 Q c2_ F _ HX.out (by omega)).mono ?_; rintro e y3 ⟨g, dw1, dh1, K1, D1, v3, hdec1, rfl, hK1, ho3, hb3⟩; obtain ⟨a3, c3_, hv3⟩ := own_slice ho3; subst hv3; replace hK1 := Lib.hid hK1; obtain ⟨rfl, rfl, rfl, rfl⟩ := HDF.out.one hdec1; obtain rfl : n = K1 := by rw [HNW.out, hK1.out])
  replace HR := Lib.hid ((hb3.block _ (lt_heap HR.out)).trans HR.out)
  replace HB := Lib.hid (HB.out.trans (hb3.mono HB.out.size))
  replace HBA := Lib.hid (HBA.out.on hb3)
  replace HX := Lib.hid (HX.out.on hb3)
  replace HD := Lib.hid (show Dn _ a n c D from ⟨HD.out.1.on hb3, HD.out.2⟩)
  have HZD := Lib.hid (dt_own HD.out.1.1 ho3)
  clear ho3 hb3 hdec1 hK1
  have hr4 := heap_alloc_last y3 (.cells #[.int .i64 wn, .int .i64 hm, .slice a3 n c3_] 44)
  have hb4 := Ve.below_n1 y3 (.cells #[.int .i64 wn, .int .i64 hm, .slice a3 n c3_] 44)
  obtain ⟨y4, hy4⟩ : ∃ y4, y3.alloc (.cells #[.int .i64 wn, .int .i64 hm, .slice a3 n c3_] 44) = y4 := ⟨_, rfl⟩
  obtain ⟨p4, hp4⟩ : ∃ p, p = y3.heap.size := ⟨_, rfl⟩
  rw [hy4] at hr4 hb4 ⊢
  rw [← hp4] at hr4 ⊢
  clear hy4 hp4
  replace HR := Lib.hid ((hb4.block _ (lt_heap HR.out)).trans HR.out)
  replace HB := Lib.hid (HB.out.trans (hb4.mono HB.out.size))
  replace HBA := Lib.hid (HBA.out.on hb4)
  replace HX := Lib.hid (HX.out.on hb4)
  replace HZD := Lib.hid (HZD.out.on hb4)
  replace HD := Lib.hid (show Dn _ a n c D from ⟨HD.out.1.on hb4, HD.out.2⟩)
  have HZ := Lib.hid hr4
  clear hr4 hb4
  have hS00 : Below y4.heap.size y4 y4.drew := (Below.refl _ y4).drew
  refine wp_region_held_drew (S := Below y4.heap.size y4) (by kernel_rfl) (hS00) (fun hS0 => ?_)
  refine wpAnyH_take (i := 0) (v := ?_) rfl (by kernel_rfl) (by kernel_rfl) (by kernel_rfl) (fun _ _ _ h => h) (Or.inl ⟨by kernel_rfl, by (intro wz hSz; go_simp; try with_reducible rfl)⟩) hS0 ?_
  go_simp
  refine wpAnyH_take (i := 1) (v := ?_) rfl (by kernel_rfl) (by kernel_rfl) (by kernel_rfl) (fun _ _ _ h => h) (Or.inl ⟨by kernel_rfl, by (intro wz hSz; go_simp; try with_reducible rfl)⟩) hS0 ?_
  go_simp
  refine wpAnyH_take (i := 2) (v := ?_) rfl (by kernel_rfl) (by kernel_rfl) (by kernel_rfl) (fun _ _ _ h => h) (Or.inl ⟨by kernel_rfl, by (intro wz hSz; go_simp; try with_reducible rfl)⟩) hS0 ?_
  go_simp
  refine wpAnyH_take (i := 3) (v := ?_) rfl (by kernel_rfl) (by kernel_rfl) (by kernel_rfl) (fun _ _ _ h => h) (Or.inl ⟨by kernel_rfl, by (intro wz hSz; go_simp; try with_reducible rfl)⟩) hS0 ?_
  go_simp
  refine wpAnyH_take (i := 4) (v := ?_) rfl (by kernel_rfl) (by kernel_rfl) (by kernel_rfl) (fun _ _ _ h => h) (Or.inl ⟨by kernel_rfl, by (intro wz hSz; go_simp; try with_reducible rfl)⟩) hS0 ?_
  go_simp
  refine wpAnyH_take (i := 5) (v := ?_) rfl (by kernel_rfl) (by kernel_rfl) (by kernel_rfl) (fun _ _ _ h => h) (Or.inl ⟨by kernel_rfl, by (intro wz hSz; go_simp; try with_reducible rfl)⟩) hS0 ?_
  go_simp
  refine wpAnyH_take (i := 6) (v := ?_) rfl (by kernel_rfl) (by kernel_rfl) (by kernel_rfl) (fun _ _ _ h => h) (Or.inl ⟨by kernel_rfl, by (intro wz hSz; go_simp; try with_reducible rfl)⟩) hS0 ?_
  go_simp
  refine wpAnyH_take (i := 7) (v := ?_) rfl (by kernel_rfl) (by kernel_rfl) (by kernel_rfl) (fun _ _ _ h => h) (Or.inl ⟨by kernel_rfl, by (intro wz hSz; go_simp; try with_reducible rfl)⟩) hS0 ?_
  go_simp
  refine wpAnyH_take (i := 8) (v := ?_) rfl (by kernel_rfl) (by kernel_rfl) (by kernel_rfl) (fun _ _ _ h => h) (Or.inl ⟨by kernel_rfl, by (intro wz hSz; have hc_ := (hSz.block _ (lt_heap HZ.out)).trans HZ.out; have cq0 := cell_of_row _ _ 0 _ _ _ hc_; have cq1 := cell_of_row _ _ 1 _ _ _ hc_; have cq2 := cell_of_row _ _ 2 _ _ _ hc_; simp at cq0 cq1 cq2; go_simp; try with_reducible rfl)⟩) hS0 ?_
  go_simp
  refine wpAnyH_take (i := 10) (v := ?_) rfl (by kernel_rfl) (by kernel_rfl) (by kernel_rfl) (fun _ _ _ h => h) (Or.inl ⟨by kernel_rfl, by (intro wz hSz; have hc_ := (hSz.block _ (lt_heap HR.out)).trans HR.out; have cq0 := cell_of_row _ _ 0 _ _ _ hc_; have cq1 := cell_of_row _ _ 1 _ _ _ hc_; have cq2 := cell_of_row _ _ 2 _ _ _ hc_; simp at cq0 cq1 cq2; go_simp; try with_reducible rfl)⟩) hS0 ?_
  go_simp
  refine wpAnyH_ready (rs := [9]) (by kernel_rfl) (by simp) ?_
  refine AllReadyH.cons rfl (fun K hK => ?_) AllReadyH.nil
  go_simp
  go_wp2_with (go_at_call 15; refine (from_any (wn : Int) (hm : Int) a3 n c3_ _).mono ?_; rintro e z1 ⟨rfl, hb1⟩)
  have hS1_ := hS0.trans (hb1.mono hS0.size)
  clear hb1
  refine hK.out _ _ (hS1_) (fun hS1 => ?_)
  clear hK K
  refine wpAnyH_ready (rs := [11]) (by kernel_rfl) (by simp) ?_
  refine AllReadyH.cons rfl (fun K hK => ?_) AllReadyH.nil
  go_simp
  go_wp2_with (go_at_call 14; refine (same_eq (wn : Int) (hm : Int) x y HWN.out.symm HHM.out.symm n a3 a c3_ c D _ (HZD.out.on hS1) (HD.out.1.on hS1) (by omega)).mono ?_; rintro e z2 ⟨rfl, hb2⟩)
  have hS2_ := hS1.trans (hb2.mono hS1.size)
  clear hb2
  refine hK.out _ _ (hS2_) (fun hS2 => ?_)
  clear hK K
  refine wpAnyH_take (i := 12) (v := ?_) rfl (by kernel_rfl) (by kernel_rfl) (by kernel_rfl) (fun _ _ _ h => h) (Or.inl ⟨by kernel_rfl, by (intro wz hSz; go_simp; try with_reducible rfl)⟩) hS2 ?_
  go_simp
  refine wpAnyH_take (i := 13) (v := ?_) rfl (by kernel_rfl) (by kernel_rfl) (by kernel_rfl) (fun _ _ _ h => h) (Or.inl ⟨by kernel_rfl, by (intro wz hSz; go_simp; try with_reducible rfl)⟩) hS2 ?_
  go_simp
  refine wpAnyH_take (i := 14) (v := ?_) rfl (by kernel_rfl) (by kernel_rfl) (by kernel_rfl) (fun _ _ _ h => h) (Or.inl ⟨by kernel_rfl, by (intro wz hSz; go_simp; try with_reducible rfl)⟩) hS2 ?_
  go_simp
  refine wpAnyH_take (i := 15) (v := ?_) rfl (by kernel_rfl) (by kernel_rfl) (by kernel_rfl) (fun _ _ _ h => h) (Or.inl ⟨by kernel_rfl, by (intro wz hSz; go_simp; try with_reducible rfl)⟩) hS2 ?_
  go_simp
  refine wpAnyH_take (i := 16) (v := ?_) rfl (by kernel_rfl) (by kernel_rfl) (by kernel_rfl) (fun _ _ _ h => h) (Or.inl ⟨by kernel_rfl, by (intro wz hSz; go_simp; try with_reducible rfl)⟩) hS2 ?_
  go_simp
  refine wpAnyH_take (i := 17) (v := ?_) rfl (by kernel_rfl) (by kernel_rfl) (by kernel_rfl) (fun _ _ _ h => h) (Or.inl ⟨by kernel_rfl, by (intro wz hSz; have cv_ := ((HX.out.on hSz).take (hQ3n)).conv (by rw [HT3.out]; simp); rw [HT3.out] at cv_; go_simp; try with_reducible rfl)⟩) hS2 ?_
  go_simp
  refine wpAnyH_take (i := 18) (v := ?_) rfl (by kernel_rfl) (by kernel_rfl) (by kernel_rfl) (fun _ _ _ h => h) (Or.inl ⟨by kernel_rfl, by (intro wz hSz; go_simp; try with_reducible rfl)⟩) hS2 ?_
  go_simp
  refine wpAnyH_take (i := 19) (v := ?_) rfl (by kernel_rfl) (by kernel_rfl) (by kernel_rfl) (fun _ _ _ h => h) (Or.inl ⟨by kernel_rfl, by (intro wz hSz; go_simp; try with_reducible rfl)⟩) hS2 ?_
  go_simp
  refine wpAnyH_take (i := 20) (v := ?_) rfl (by kernel_rfl) (by kernel_rfl) (by kernel_rfl) (fun _ _ _ h => h) (Or.inl ⟨by kernel_rfl, by (intro wz hSz; go_simp; try with_reducible rfl)⟩) hS2 ?_
  go_simp
  refine wpAnyH_take (i := 21) (v := ?_) rfl (by kernel_rfl) (by kernel_rfl) (by kernel_rfl) (fun _ _ _ h => h) (Or.inl ⟨by kernel_rfl, by (intro wz hSz; go_simp; try with_reducible rfl)⟩) hS2 ?_
  go_simp
  refine wpAnyH_take (i := 22) (v := ?_) rfl (by kernel_rfl) (by kernel_rfl) (by kernel_rfl) (fun _ _ _ h => h) (Or.inl ⟨by kernel_rfl, by (intro wz hSz; go_simp; try with_reducible rfl)⟩) hS2 ?_
  go_simp
  refine wpAnyH_take (i := 23) (v := ?_) rfl (by kernel_rfl) (by kernel_rfl) (by kernel_rfl) (fun _ _ _ h => h) (Or.inl ⟨by kernel_rfl, by (intro wz hSz; go_simp; try with_reducible rfl)⟩) hS2 ?_
  go_simp
  refine wpAnyH_take (i := 24) (v := ?_) rfl (by kernel_rfl) (by kernel_rfl) (by kernel_rfl) (fun _ _ _ h => h) (Or.inl ⟨by kernel_rfl, by (intro wz hSz; have hc_ := (hSz.block _ (lt_heap HR.out)).trans HR.out; have cq0 := cell_of_row _ _ 0 _ _ _ hc_; have cq1 := cell_of_row _ _ 1 _ _ _ hc_; have cq2 := cell_of_row _ _ 2 _ _ _ hc_; simp at cq0 cq1 cq2; go_simp; try with_reducible rfl)⟩) hS2 ?_
  go_simp
  refine wpAnyH_take (i := 25) (v := ?_) rfl (by kernel_rfl) (by kernel_rfl) (by kernel_rfl) (fun _ _ _ h => h) (Or.inl ⟨by kernel_rfl, by (intro wz hSz; go_simp; try with_reducible rfl)⟩) hS2 ?_
  go_simp
  refine wpAnyH_take (i := 26) (v := ?_) rfl (by kernel_rfl) (by kernel_rfl) (by kernel_rfl) (fun _ _ _ h => h) (Or.inl ⟨by kernel_rfl, by (intro wz hSz; go_simp; try with_reducible rfl)⟩) hS2 ?_
  go_simp
  refine wpAnyH_take (i := 27) (v := ?_) rfl (by kernel_rfl) (by kernel_rfl) (by kernel_rfl) (fun _ _ _ h => h) (Or.inl ⟨by kernel_rfl, by (intro wz hSz; have hc_ := (hSz.block _ (lt_heap HR.out)).trans HR.out; have cq0 := cell_of_row _ _ 0 _ _ _ hc_; have cq1 := cell_of_row _ _ 1 _ _ _ hc_; have cq2 := cell_of_row _ _ 2 _ _ _ hc_; simp at cq0 cq1 cq2; go_simp; try with_reducible rfl)⟩) hS2 ?_
  go_simp
  refine wpAnyH_take (i := 28) (v := ?_) rfl (by kernel_rfl) (by kernel_rfl) (by kernel_rfl) (fun _ _ _ h => h) (Or.inl ⟨by kernel_rfl, by (intro wz hSz; go_simp; try with_reducible rfl)⟩) hS2 ?_
  go_simp
  refine wpAnyH_take (i := 29) (v := ?_) rfl (by kernel_rfl) (by kernel_rfl) (by kernel_rfl) (fun _ _ _ h => h) (Or.inl ⟨by kernel_rfl, by (intro wz hSz; go_simp; try with_reducible rfl)⟩) hS2 ?_
  go_simp
  refine wpAnyH_take (i := 30) (v := ?_) rfl (by kernel_rfl) (by kernel_rfl) (by kernel_rfl) (fun _ _ _ h => h) (Or.inl ⟨by kernel_rfl, by (intro wz hSz; go_simp; try with_reducible rfl)⟩) hS2 ?_
  go_simp
  refine wpAnyH_take (i := 31) (v := ?_) rfl (by kernel_rfl) (by kernel_rfl) (by kernel_rfl) (fun _ _ _ h => h) (Or.inl ⟨by kernel_rfl, by (intro wz hSz; go_simp; try with_reducible rfl)⟩) hS2 ?_
  go_simp
  refine wpAnyH_take (i := 32) (v := ?_) rfl (by kernel_rfl) (by kernel_rfl) (by kernel_rfl) (fun _ _ _ h => h) (Or.inl ⟨by kernel_rfl, by (intro wz hSz; go_simp; try with_reducible rfl)⟩) hS2 ?_
  go_simp
  refine wpAnyH_take (i := 33) (v := ?_) rfl (by kernel_rfl) (by kernel_rfl) (by kernel_rfl) (fun _ _ _ h => h) (Or.inl ⟨by kernel_rfl, by (intro wz hSz; go_simp; try with_reducible rfl)⟩) hS2 ?_
  go_simp
  refine wpAnyH_take (i := 34) (v := ?_) rfl (by kernel_rfl) (by kernel_rfl) (by kernel_rfl) (fun _ _ _ h => h) (Or.inl ⟨by kernel_rfl, by (intro wz hSz; go_simp; try with_reducible rfl)⟩) hS2 ?_
  go_simp
  refine wpAnyH_take (i := 35) (v := ?_) rfl (by kernel_rfl) (by kernel_rfl) (by kernel_rfl) (fun _ _ _ h => h) (Or.inl ⟨by kernel_rfl, by (intro wz hSz; go_simp; try with_reducible rfl)⟩) hS2 ?_
  go_simp
  refine wpAnyH_take (i := 36) (v := ?_) rfl (by kernel_rfl) (by kernel_rfl) (by kernel_rfl) (fun _ _ _ h => h) (Or.inl ⟨by kernel_rfl, by (intro wz hSz; have hc_ := (hSz.block _ (lt_heap HR.out)).trans HR.out; have cq0 := cell_of_row _ _ 0 _ _ _ hc_; have cq1 := cell_of_row _ _ 1 _ _ _ hc_; have cq2 := cell_of_row _ _ 2 _ _ _ hc_; simp at cq0 cq1 cq2; go_simp; try with_reducible rfl)⟩) hS2 ?_
  go_simp
  refine wpAnyH_take (i := 37) (v := ?_) rfl (by kernel_rfl) (by kernel_rfl) (by kernel_rfl) (fun _ _ _ h => h) (Or.inl ⟨by kernel_rfl, by (intro wz hSz; go_simp; try with_reducible rfl)⟩) hS2 ?_
  go_simp
  refine wpAnyH_take (i := 38) (v := ?_) rfl (by kernel_rfl) (by kernel_rfl) (by kernel_rfl) (fun _ _ _ h => h) (Or.inl ⟨by kernel_rfl, by (intro wz hSz; go_simp; try with_reducible rfl)⟩) hS2 ?_
  go_simp
  refine wpAnyH_take (i := 39) (v := ?_) rfl (by kernel_rfl) (by kernel_rfl) (by kernel_rfl) (fun _ _ _ h => h) (Or.inl ⟨by kernel_rfl, by (intro wz hSz; have hc_ := (hSz.block _ (lt_heap HR.out)).trans HR.out; have cq0 := cell_of_row _ _ 0 _ _ _ hc_; have cq1 := cell_of_row _ _ 1 _ _ _ hc_; have cq2 := cell_of_row _ _ 2 _ _ _ hc_; simp at cq0 cq1 cq2; go_simp; try with_reducible rfl)⟩) hS2 ?_
  go_simp
  refine wpAnyH_take (i := 40) (v := ?_) rfl (by kernel_rfl) (by kernel_rfl) (by kernel_rfl) (fun _ _ _ h => h) (Or.inl ⟨by kernel_rfl, by (intro wz hSz; go_simp; try with_reducible rfl)⟩) hS2 ?_
  go_simp
  refine wpAnyH_take (i := 41) (v := ?_) rfl (by kernel_rfl) (by kernel_rfl) (by kernel_rfl) (fun _ _ _ h => h) (Or.inl ⟨by kernel_rfl, by (intro wz hSz; go_simp; try with_reducible rfl)⟩) hS2 ?_
  go_simp
  refine wpAnyH_take (i := 42) (v := ?_) rfl (by kernel_rfl) (by kernel_rfl) (by kernel_rfl) (fun _ _ _ h => h) (Or.inl ⟨by kernel_rfl, by (intro wz hSz; go_simp; try with_reducible rfl)⟩) hS2 ?_
  go_simp
  refine wpAnyH_take (i := 43) (v := ?_) rfl (by kernel_rfl) (by kernel_rfl) (by kernel_rfl) (fun _ _ _ h => h) (Or.inl ⟨by kernel_rfl, by (intro wz hSz; go_simp; try with_reducible rfl)⟩) hS2 ?_
  go_simp
  refine wpAnyH_done (by kernel_rfl) ?_ _
  obtain ⟨y5, hy5⟩ : ∃ y5, z2 = y5 := ⟨_, rfl⟩
  rw [hy5] at hS2 ⊢
  replace HR := Lib.hid ((hS2.block _ (lt_heap HR.out)).trans HR.out)
  replace HB := Lib.hid (HB.out.trans (hS2.mono HB.out.size))
  replace HBA := Lib.hid (HBA.out.on hS2)
  replace HX := Lib.hid (HX.out.on hS2)
  replace HZD := Lib.hid (HZD.out.on hS2)
  replace HD := Lib.hid (show Dn _ a n c D from ⟨HD.out.1.on hS2, HD.out.2⟩)
  clear hy5
  go_upto_region 9 with (go_at_call 23; refine (decode_any ab nb cb lb _ HBA.out hnb).mono ?_; rintro e y6 ⟨g, dw2, dh2, K2, D2, v6, hdec2, rfl, hK2, ho6, hb6⟩; obtain ⟨a6, c6_, hv6⟩ := own_slice ho6; subst hv6; replace hK2 := Lib.hid hK2; obtain ⟨rfl, rfl, rfl, rfl⟩ := HDEC.out.one hdec2; obtain rfl : Kn = K2 := by rw [HKK.out, hK2.out])
  replace HB := Lib.hid (HB.out.trans (hb6.mono HB.out.size))
  replace HBA := Lib.hid (HBA.out.on hb6)
  clear ho6 hb6 hdec2 hK2
  have hb7 := Ve.below_n1 y6 (.cells #[.int .i64 dw, .int .i64 dh, .slice a6 Kn c6_] 44)
  obtain ⟨y7, hy7⟩ : ∃ y7, y6.alloc (.cells #[.int .i64 dw, .int .i64 dh, .slice a6 Kn c6_] 44) = y7 := ⟨_, rfl⟩
  rw [hy7] at hb7 ⊢
  clear hy7
  replace HB := Lib.hid (HB.out.trans (hb7.mono HB.out.size))
  clear hb7
  go_wp2_with (go_at_call 7; refine (awake_any _).mono ?_; rintro e y9 ⟨rfl, hb9⟩)
  go_ret
  exact ⟨rfl, HB.out.trans (hb9.mono HB.out.size)⟩

set_option maxHeartbeats 8000000 in
set_option maxRecDepth 100000 in
theorem back_ny (x y : Int) (a : Option Addr) (n c : Nat) (D : List UInt8) (ab : Option Addr) (nb cb : Nat) (lb : List UInt8) (w : World) (hD : Dn w a n c D) (hb : BA w ab nb cb lb) (hnb : nb ≤ 140737488351232) (hn : n ≤ 5000) (hok : ¬ Fm.okSh x y n) (E dw dh Kn : Nat) (DD : List UInt8) (hdec : Dec lb E dw dh DD) (hE : E = 0) (hKn : Kn = dw * dh) : Calls Tryd.prog 5 #[.agg #[.int .i64 x, .int .i64 y, .slice a n c], .slice ab nb cb] w fun e' w' => e' = .returned (.bool true) ∧ Below w.heap.size w w' := by
  have HOKS := Lib.hid hok
  clear hok
  have HD := Lib.hid hD
  have HBA := Lib.hid hb
  have HDEC := Lib.hid hdec
  have HKK := Lib.hid hKn
  clear hD hb hdec hKn
  subst hE
  have HHEAD := Lib.hid (show lb = headL dw dh ++ DD ∧ 1 ≤ dw ∧ dw ≤ 64 ∧ 1 ≤ dh ∧ dh ≤ 64 ∧ DD.length = 3 * Kn by
    cases HDEC.out with
    | ok h1 h2 => exact ⟨h1.1, h1.2.1, h1.2.2.1, h1.2.2.2.1, h1.2.2.2.2, by rw [HKK.out]; exact h2⟩)
  have HOKD := Lib.hid (show Fm.okSh (dw : Int) (dh : Int) Kn from ⟨⟨by have := HHEAD.out.2.1; omega, by have := HHEAD.out.2.2.1; omega, by have := HHEAD.out.2.2.2.1; omega, by have := HHEAD.out.2.2.2.2.1; omega⟩, by rw [HKK.out]; simp⟩)
  have HLNE := Lib.hid (show lb ≠ [] from fun e => by
    have h1 := congrArg List.length HHEAD.out.1
    have h2 := head_len dw dh
    rw [e, List.length_append] at h1
    simp at h1
    omega)
  go_enter Tryd.func5, Tryd.ntmps5
  go_upto_region 1 with fail
  have hr0 := heap_alloc_last w (.cells #[.int .i64 x, .int .i64 y, .slice a n c] 52)
  have hb0 := Ve.below_n1 w (.cells #[.int .i64 x, .int .i64 y, .slice a n c] 52)
  obtain ⟨y0, hy0⟩ : ∃ y0, w.alloc (.cells #[.int .i64 x, .int .i64 y, .slice a n c] 52) = y0 := ⟨_, rfl⟩
  obtain ⟨p0, hp0⟩ : ∃ p, p = w.heap.size := ⟨_, rfl⟩
  rw [hy0] at hr0 hb0 ⊢
  rw [← hp0] at hr0 ⊢
  clear hy0 hp0
  have HR := Lib.hid hr0
  have HB := Lib.hid hb0
  replace HD := Lib.hid (show Dn y0 a n c D from ⟨HD.out.1.on hb0, HD.out.2⟩)
  replace HBA := Lib.hid (HBA.out.on hb0)
  clear hb0 hr0
  have c0 := cell_of_row _ _ 0 _ _ _ HR.out
  have c1 := cell_of_row _ _ 1 _ _ _ HR.out
  have c2 := cell_of_row _ _ 2 _ _ _ HR.out
  simp at c0 c1 c2
  go_upto_region 3 with fail
  go_wp2_with fail
  refine (to_any x y a n c D y0 HD.out hn).mono ?_
  rintro e y1 ⟨⟨v1, rfl, ho1⟩, hb1⟩
  obtain ⟨a1, c1_, hv1⟩ := own_slice ho1
  subst hv1
  clear c0 c1 c2
  have HT1 := Lib.hid (dt_own HD.out.1.1 ho1)
  replace HR := Lib.hid ((hb1.block _ (lt_heap HR.out)).trans HR.out)
  replace HB := Lib.hid (HB.out.trans (hb1.mono HB.out.size))
  replace HBA := Lib.hid (HBA.out.on hb1)
  replace HD := Lib.hid (show Dn _ a n c D from ⟨HD.out.1.on hb1, HD.out.2⟩)
  clear ho1 hb1
  have c0 := cell_of_row _ _ 0 _ _ _ HR.out
  have c1 := cell_of_row _ _ 1 _ _ _ HR.out
  have c2 := cell_of_row _ _ 2 _ _ _ HR.out
  simp at c0 c1 c2
  go_upto_region 8 with (go_at_call 20; refine (encode_no x y a1 n c1_ _ HOKS.out).mono ?_; rintro e y5 ⟨rfl, hb2⟩)
  clear c0 c1 c2
  replace HR := Lib.hid ((hb2.block _ (lt_heap HR.out)).trans HR.out)
  replace HB := Lib.hid (HB.out.trans (hb2.mono HB.out.size))
  replace HBA := Lib.hid (HBA.out.on hb2)
  replace HD := Lib.hid (show Dn _ a n c D from ⟨HD.out.1.on hb2, HD.out.2⟩)
  clear hb2 HT1
  go_upto_region 9 with (go_at_call 23; refine (decode_any ab nb cb lb _ HBA.out hnb).mono ?_; rintro e y6 ⟨g, dw2, dh2, K2, D2, v6, hdec2, rfl, hK2, ho6, hb6⟩; obtain ⟨a6, c6_, hv6⟩ := own_slice ho6; subst hv6; replace hK2 := Lib.hid hK2; obtain ⟨rfl, rfl, rfl, rfl⟩ := HDEC.out.one hdec2; obtain rfl : Kn = K2 := by rw [HKK.out, hK2.out])
  replace HB := Lib.hid (HB.out.trans (hb6.mono HB.out.size))
  replace HBA := Lib.hid (HBA.out.on hb6)
  have HWD := Lib.hid (dt_own HHEAD.out.2.2.2.2.2 ho6)
  clear ho6 hb6 hdec2 hK2
  have hr7 := heap_alloc_last y6 (.cells #[.int .i64 dw, .int .i64 dh, .slice a6 Kn c6_] 44)
  have hb7 := Ve.below_n1 y6 (.cells #[.int .i64 dw, .int .i64 dh, .slice a6 Kn c6_] 44)
  obtain ⟨y7, hy7⟩ : ∃ y7, y6.alloc (.cells #[.int .i64 dw, .int .i64 dh, .slice a6 Kn c6_] 44) = y7 := ⟨_, rfl⟩
  obtain ⟨p7, hp7⟩ : ∃ p, p = y6.heap.size := ⟨_, rfl⟩
  rw [hy7] at hr7 hb7 ⊢
  rw [← hp7] at hr7 ⊢
  clear hy7 hp7
  replace HB := Lib.hid (HB.out.trans (hb7.mono HB.out.size))
  replace HBA := Lib.hid (HBA.out.on hb7)
  replace HWD := Lib.hid (HWD.out.on hb7)
  have HV := Lib.hid hr7
  clear hr7 hb7
  have d0 := cell_of_row _ _ 0 _ _ _ HV.out
  have d1 := cell_of_row _ _ 1 _ _ _ HV.out
  have d2 := cell_of_row _ _ 2 _ _ _ HV.out
  simp at d0 d1 d2
  go_upto_region 10 with fail
  go_upto_region 11 with (go_at_call 20; refine (encode_yes (dw : Int) (dh : Int) dw dh a6 Kn c6_ DD _ rfl rfl HOKD.out HWD.out).mono ?_; rintro e y8 ⟨v8, rfl, ho8, hb8⟩; obtain ⟨a8, c8_, hv8⟩ := ho8.form; subst hv8; rw [← HHEAD.out.1] at ho8 ⊢)
  have HXX := Lib.hid ho8.ba
  replace HB := Lib.hid (HB.out.trans (hb8.mono HB.out.size))
  replace HBA := Lib.hid (HBA.out.on hb8)
  clear ho8 hb8
  obtain ⟨T, hT⟩ : ∃ T : ByteArray, T = ⟨lb.toArray⟩ := ⟨_, rfl⟩
  have cv1 := HXX.out.conv HLNE.out
  have cv2 := HBA.out.conv HLNE.out
  rw [← hT] at cv1 cv2
  clear hT d0 d1 d2
  go_wp2_with (go_at_call 7; refine (awake_any _).mono ?_; rintro e y9 ⟨rfl, hb9⟩)
  go_ret
  exact ⟨rfl, HB.out.trans (hb9.mono HB.out.size)⟩

set_option maxHeartbeats 8000000 in
set_option maxRecDepth 100000 in
theorem back_nn (x y : Int) (a : Option Addr) (n c : Nat) (D : List UInt8) (ab : Option Addr) (nb cb : Nat) (lb : List UInt8) (w : World) (hD : Dn w a n c D) (hb : BA w ab nb cb lb) (hnb : nb ≤ 140737488351232) (hn : n ≤ 5000) (hok : ¬ Fm.okSh x y n) (E dw dh Kn : Nat) (DD : List UInt8) (hdec : Dec lb E dw dh DD) (hE : ¬ E = 0) (hKn : Kn = dw * dh) : Calls Tryd.prog 5 #[.agg #[.int .i64 x, .int .i64 y, .slice a n c], .slice ab nb cb] w fun e' w' => e' = .returned (.bool true) ∧ Below w.heap.size w w' := by
  have HOKS := Lib.hid hok
  clear hok
  have HD := Lib.hid hD
  have HBA := Lib.hid hb
  have HDEC := Lib.hid hdec
  have HKK := Lib.hid hKn
  clear hD hb hdec hKn
  have hEb : ((E : Int) == 0) = false := by simp [hE]
  have hEi : ¬ (E : Int) = 0 := by omega
  go_enter Tryd.func5, Tryd.ntmps5
  go_upto_region 1 with fail
  have hr0 := heap_alloc_last w (.cells #[.int .i64 x, .int .i64 y, .slice a n c] 52)
  have hb0 := Ve.below_n1 w (.cells #[.int .i64 x, .int .i64 y, .slice a n c] 52)
  obtain ⟨y0, hy0⟩ : ∃ y0, w.alloc (.cells #[.int .i64 x, .int .i64 y, .slice a n c] 52) = y0 := ⟨_, rfl⟩
  obtain ⟨p0, hp0⟩ : ∃ p, p = w.heap.size := ⟨_, rfl⟩
  rw [hy0] at hr0 hb0 ⊢
  rw [← hp0] at hr0 ⊢
  clear hy0 hp0
  have HR := Lib.hid hr0
  have HB := Lib.hid hb0
  replace HD := Lib.hid (show Dn y0 a n c D from ⟨HD.out.1.on hb0, HD.out.2⟩)
  replace HBA := Lib.hid (HBA.out.on hb0)
  clear hb0 hr0
  have c0 := cell_of_row _ _ 0 _ _ _ HR.out
  have c1 := cell_of_row _ _ 1 _ _ _ HR.out
  have c2 := cell_of_row _ _ 2 _ _ _ HR.out
  simp at c0 c1 c2
  go_upto_region 3 with fail
  go_wp2_with fail
  refine (to_any x y a n c D y0 HD.out hn).mono ?_
  rintro e y1 ⟨⟨v1, rfl, ho1⟩, hb1⟩
  obtain ⟨a1, c1_, hv1⟩ := own_slice ho1
  subst hv1
  clear c0 c1 c2
  have HT1 := Lib.hid (dt_own HD.out.1.1 ho1)
  replace HR := Lib.hid ((hb1.block _ (lt_heap HR.out)).trans HR.out)
  replace HB := Lib.hid (HB.out.trans (hb1.mono HB.out.size))
  replace HBA := Lib.hid (HBA.out.on hb1)
  replace HD := Lib.hid (show Dn _ a n c D from ⟨HD.out.1.on hb1, HD.out.2⟩)
  clear ho1 hb1
  have c0 := cell_of_row _ _ 0 _ _ _ HR.out
  have c1 := cell_of_row _ _ 1 _ _ _ HR.out
  have c2 := cell_of_row _ _ 2 _ _ _ HR.out
  simp at c0 c1 c2
  go_upto_region 8 with (go_at_call 20; refine (encode_no x y a1 n c1_ _ HOKS.out).mono ?_; rintro e y5 ⟨rfl, hb2⟩)
  clear c0 c1 c2
  replace HR := Lib.hid ((hb2.block _ (lt_heap HR.out)).trans HR.out)
  replace HB := Lib.hid (HB.out.trans (hb2.mono HB.out.size))
  replace HBA := Lib.hid (HBA.out.on hb2)
  replace HD := Lib.hid (show Dn _ a n c D from ⟨HD.out.1.on hb2, HD.out.2⟩)
  clear hb2 HT1
  go_upto_region 9 with (go_at_call 23; refine (decode_any ab nb cb lb _ HBA.out hnb).mono ?_; rintro e y6 ⟨g, dw2, dh2, K2, D2, v6, hdec2, rfl, hK2, ho6, hb6⟩; obtain ⟨a6, c6_, hv6⟩ := own_slice ho6; subst hv6; replace hK2 := Lib.hid hK2; obtain ⟨rfl, rfl, rfl, rfl⟩ := HDEC.out.one hdec2; obtain rfl : Kn = K2 := by rw [HKK.out, hK2.out])
  replace HB := Lib.hid (HB.out.trans (hb6.mono HB.out.size))
  replace HBA := Lib.hid (HBA.out.on hb6)
  clear ho6 hb6 hdec2 hK2
  have hb7 := Ve.below_n1 y6 (.cells #[.int .i64 dw, .int .i64 dh, .slice a6 Kn c6_] 44)
  obtain ⟨y7, hy7⟩ : ∃ y7, y6.alloc (.cells #[.int .i64 dw, .int .i64 dh, .slice a6 Kn c6_] 44) = y7 := ⟨_, rfl⟩
  rw [hy7] at hb7 ⊢
  clear hy7
  replace HB := Lib.hid (HB.out.trans (hb7.mono HB.out.size))
  clear hb7
  go_wp2_with (go_at_call 7; refine (awake_any _).mono ?_; rintro e y9 ⟨rfl, hb9⟩)
  go_ret
  exact ⟨rfl, HB.out.trans (hb9.mono HB.out.size)⟩

end Go.Proofs.YtcohehekkeeeoaaDoor.Pg
