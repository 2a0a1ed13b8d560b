/- Layer 21 (plate): PlateFiles' walk. -/
import Derived.Test.YtcohehekkeeeoaaDoorPgu
import Derived.Test.YtcohehekkeeeoaaDoorPgv
namespace Go.Proofs.YtcohehekkeeeoaaDoor.Pg
open Go Go.RowKit Go.Proofs.YtcohehekkeeeoaaDoor Go.Proofs.YtcohehekkeeeoaaDoor.Re Go.Proofs.YtcohehekkeeeoaaDoor.Au
set_option linter.unusedVariables false
set_option linter.unusedSimpArgs false

theorem conv_nil (w : World) : (convert 56 9 (.slice none 0 0)).run Tryd.prog w = .ok (.string { data := #[] }) w :=
  run_convert_bytes_nil (P := Tryd.prog) w _ _ Tryd.underlying56 Tryd.underlying5 0 0 _ Tryd.underlying9

theorem Dec.bound {l : List UInt8} {e w h : Nat} {D : List UInt8} (hd : Dec l e w h D) : w * h ≤ 5000 := by
  cases hd with
  | magic _ => simp
  | form _ _ => simp
  | short _ _ => simp
  | long _ _ => simp
  | ok h1 _ => exact Nat.le_trans (Nat.mul_le_mul h1.2.2.1 h1.2.2.2.2) (by decide)

set_option maxHeartbeats 8000000 in
set_option maxRecDepth 100000 in
theorem files_A (x y : Int) (a : Option Addr) (n c : Nat) (D : List UInt8) (ab : Option Addr) (nb cb : Nat) (lb : List UInt8) (w : World) (hD : Dn w a n c D) (hb : BA w ab nb cb lb) (hnb : nb ≤ 140737488351232) (hn : n ≤ 5000) (hsz : Fm.okSz x y) (hok : Fm.okSh x y n) (awk : True) : Calls Tryd.prog 4 #[.agg #[.int .i64 x, .int .i64 y, .slice a n c], .slice ab nb cb] w fun e' w' => e' = .returned (.bool true) ∧ Below w.heap.size w w' := by
  obtain ⟨wn, hwn⟩ : ∃ k : Nat, x = k := ⟨x.toNat, by have := hsz.1; omega⟩
  obtain ⟨hm, hhm⟩ : ∃ k : Nat, y = k := ⟨y.toNat, by have := hsz.2.2.1; omega⟩
  have HWN := Lib.hid hwn
  have HHM := Lib.hid hhm
  have hDl := hD.1.1
  obtain ⟨F, hF⟩ : ∃ F, F = headL wn hm ++ D := ⟨_, rfl⟩
  have HF := Lib.hid hF
  obtain ⟨Q, hQ⟩ : ∃ Q, Q = F.length := ⟨_, rfl⟩
  have HQ := Lib.hid hQ
  have hQ2 : Q = (headL wn hm).length + 3 * n := by rw [hQ, hF, List.length_append, hDl]
  have HQN := Lib.hid (show (Q : Int) = ((headL wn hm).length : Int) + 3 * (x * y) by rw [← hok.2, hQ2]; simp)
  have hlen := head_len wn hm
  have hQ0 : (0 : Int) < Q := by omega
  have hQb : Q ≤ 20000 := by omega
  have HFN := Lib.hid (show F ≠ [] from fun e => by rw [hQ, e] at hQ0; simp at hQ0)
  have HOKS := Lib.hid hok
  clear hQ2 hQ hF hDl hok hlen
  have HSZ := Lib.hid hsz
  have HD := Lib.hid hD
  have HBA := Lib.hid hb
  clear hD hb hsz hwn hhm
  have hcn := fun W => conv_nil W
  go_enter Tryd.func4, Tryd.ntmps4
  go_upto_region 1 with fail
  have hr0 := heap_alloc_last w (.cells #[.int .i64 x, .int .i64 y, .slice a n c] 52)
  have hb0 := Ve.below_n1 w (.cells #[.int .i64 x, .int .i64 y, .slice a n c] 52)
  obtain ⟨y0, hy0⟩ : ∃ y0, w.alloc (.cells #[.int .i64 x, .int .i64 y, .slice a n c] 52) = y0 := ⟨_, rfl⟩
  obtain ⟨p0, hp0⟩ : ∃ p, p = w.heap.size := ⟨_, rfl⟩
  rw [hy0] at hr0 hb0 ⊢
  rw [← hp0] at hr0 ⊢
  clear hy0 hp0
  have HR := Lib.hid hr0
  have HB := Lib.hid hb0
  replace HD := Lib.hid (show Dn y0 a n c D from ⟨HD.out.1.on hb0, HD.out.2⟩)
  replace HBA := Lib.hid (HBA.out.on hb0)
  clear hb0 hr0
  have c0 := cell_of_row _ _ 0 _ _ _ HR.out
  have c1 := cell_of_row _ _ 1 _ _ _ HR.out
  have c2 := cell_of_row _ _ 2 _ _ _ HR.out
  simp at c0 c1 c2
  go_upto_region 3 with fail
  go_wp2_with fail
  refine (to_any x y a n c D y0 HD.out hn).mono ?_
  rintro e y1 ⟨⟨v1, rfl, ho1⟩, hb1⟩
  obtain ⟨a1, c1_, hv1⟩ := own_slice ho1
  subst hv1
  clear c0 c1 c2
  have HT1 := Lib.hid (dt_own HD.out.1.1 ho1)
  replace HR := Lib.hid ((hb1.block _ (lt_heap HR.out)).trans HR.out)
  replace HB := Lib.hid (HB.out.trans (hb1.mono HB.out.size))
  replace HBA := Lib.hid (HBA.out.on hb1)
  replace HD := Lib.hid (show Dn _ a n c D from ⟨HD.out.1.on hb1, HD.out.2⟩)
  clear ho1 hb1
  have c0 := cell_of_row _ _ 0 _ _ _ HR.out
  have c1 := cell_of_row _ _ 1 _ _ _ HR.out
  have c2 := cell_of_row _ _ 2 _ _ _ HR.out
  simp at c0 c1 c2
  go_upto_region 4 with (go_at_call 20; refine (encode_yes x y wn hm a1 n c1_ D _ HWN.out HHM.out HOKS.out HT1.out).mono ?_; rintro e y2 ⟨v2, rfl, ho2, hb2⟩)
  clear c0 c1 c2
  replace HR := Lib.hid ((hb2.block _ (lt_heap HR.out)).trans HR.out)
  replace HB := Lib.hid (HB.out.trans (hb2.mono HB.out.size))
  replace HBA := Lib.hid (HBA.out.on hb2)
  replace HD := Lib.hid (show Dn _ a n c D from ⟨HD.out.1.on hb2, HD.out.2⟩)
  obtain ⟨a2, c2_, hv2⟩ := ho2.form
  subst hv2
  rw [← HF.out, ← HQ.out] at ho2
  rw [← HF.out, ← HQ.out]
  have HX := Lib.hid ho2.ba
  clear ho2
  clear hb2 HT1
  have c0 := cell_of_row _ _ 0 _ _ _ HR.out
  have c1 := cell_of_row _ _ 1 _ _ _ HR.out
  have c2 := cell_of_row _ _ 2 _ _ _ HR.out
  simp at c0 c1 c2
  go_upto_region 5 with (go_at_call 22; refine (dencode_yes x y wn hm a n c D _ HWN.out HHM.out HOKS.out HD.out.1).mono ?_; rintro e y3 ⟨v3, rfl, ho3, hb3⟩)
  clear c0 c1 c2
  replace HR := Lib.hid ((hb3.block _ (lt_heap HR.out)).trans HR.out)
  replace HB := Lib.hid (HB.out.trans (hb3.mono HB.out.size))
  replace HBA := Lib.hid (HBA.out.on hb3)
  replace HX := Lib.hid (HX.out.on hb3)
  replace HD := Lib.hid (show Dn _ a n c D from ⟨HD.out.1.on hb3, HD.out.2⟩)
  obtain ⟨a3, c3_, hv3⟩ := ho3.form
  subst hv3
  rw [← HF.out, ← HQ.out] at ho3
  rw [← HF.out, ← HQ.out]
  have HY := Lib.hid ho3.ba
  clear ho3
  clear hb3
  go_upto_region 6 with (go_at_call 23; refine (decode_any ab nb cb lb _ HBA.out hnb).mono ?_; rintro e y4 ⟨g, dw, dh, Kn, DD, v4, hdec, rfl, hK, ho4, hb4⟩; obtain ⟨a4, c4_, hv4⟩ := own_slice ho4; subst hv4; replace hK := Lib.hid hK)
  replace HR := Lib.hid ((hb4.block _ (lt_heap HR.out)).trans HR.out)
  replace HB := Lib.hid (HB.out.trans (hb4.mono HB.out.size))
  replace HBA := Lib.hid (HBA.out.on hb4)
  replace HX := Lib.hid (HX.out.on hb4)
  replace HY := Lib.hid (HY.out.on hb4)
  replace HD := Lib.hid (show Dn _ a n c D from ⟨HD.out.1.on hb4, HD.out.2⟩)
  have hDl4 : DD.length = 3 * Kn := by have := ho4.1; rw [vals_length] at this; omega
  have HZD := Lib.hid (dt_own hDl4 ho4)
  have HDEC := Lib.hid hdec
  have HKB := Lib.hid (show Kn ≤ 5000 by rw [hK.out]; exact hdec.bound)
  have HKK := hK
  clear ho4 hb4 hdec hK hDl4
  have hr5 := heap_alloc_last y4 (.cells #[.int .i64 dw, .int .i64 dh, .slice a4 Kn c4_] 44)
  have hb5 := Ve.below_n1 y4 (.cells #[.int .i64 dw, .int .i64 dh, .slice a4 Kn c4_] 44)
  obtain ⟨y5, hy5⟩ : ∃ y5, y4.alloc (.cells #[.int .i64 dw, .int .i64 dh, .slice a4 Kn c4_] 44) = y5 := ⟨_, rfl⟩
  obtain ⟨p5, hp5⟩ : ∃ p, p = y4.heap.size := ⟨_, rfl⟩
  rw [hy5] at hr5 hb5 ⊢
  rw [← hp5] at hr5 ⊢
  clear hy5 hp5
  replace HR := Lib.hid ((hb5.block _ (lt_heap HR.out)).trans HR.out)
  replace HB := Lib.hid (HB.out.trans (hb5.mono HB.out.size))
  replace HBA := Lib.hid (HBA.out.on hb5)
  replace HX := Lib.hid (HX.out.on hb5)
  replace HY := Lib.hid (HY.out.on hb5)
  replace HZD := Lib.hid (HZD.out.on hb5)
  replace HD := Lib.hid (show Dn _ a n c D from ⟨HD.out.1.on hb5, HD.out.2⟩)
  have HZ := Lib.hid hr5
  clear hr5 hb5
  go_upto_region 7 with (go_at_call 24; refine (rdecode_any ab nb cb lb _ HBA.out hnb).mono ?_; rintro e y6 ⟨g', dw', dh', Kn', DD', v6, hdec', rfl, hK', ho6, hb6⟩; obtain ⟨a6, c6_, hv6⟩ := own_slice ho6; subst hv6; replace hK' := Lib.hid hK')
  obtain ⟨rfl, rfl, rfl, rfl⟩ := HDEC.out.one hdec'
  obtain rfl : Kn = Kn' := by rw [HKK.out, hK'.out]
  replace HR := Lib.hid ((hb6.block _ (lt_heap HR.out)).trans HR.out)
  replace HB := Lib.hid (HB.out.trans (hb6.mono HB.out.size))
  replace HBA := Lib.hid (HBA.out.on hb6)
  replace HX := Lib.hid (HX.out.on hb6)
  replace HY := Lib.hid (HY.out.on hb6)
  replace HZD := Lib.hid (HZD.out.on hb6)
  replace HZ := Lib.hid ((hb6.block _ (lt_heap HZ.out)).trans HZ.out)
  replace HD := Lib.hid (show Dn _ a n c D from ⟨HD.out.1.on hb6, HD.out.2⟩)
  have hDl6 : DD.length = 3 * Kn := by have := ho6.1; rw [vals_length] at this; omega
  have HWD := Lib.hid (dt_own hDl6 ho6)
  clear ho6 hb6 hdec' hK' hDl6
  have hr7 := heap_alloc_last y6 (.cells #[.int .i64 dw, .int .i64 dh, .slice a6 Kn c6_] 52)
  have hb7 := Ve.below_n1 y6 (.cells #[.int .i64 dw, .int .i64 dh, .slice a6 Kn c6_] 52)
  obtain ⟨y7, hy7⟩ : ∃ y7, y6.alloc (.cells #[.int .i64 dw, .int .i64 dh, .slice a6 Kn c6_] 52) = y7 := ⟨_, rfl⟩
  obtain ⟨p7, hp7⟩ : ∃ p, p = y6.heap.size := ⟨_, rfl⟩
  rw [hy7] at hr7 hb7 ⊢
  rw [← hp7] at hr7 ⊢
  clear hy7 hp7
  replace HR := Lib.hid ((hb7.block _ (lt_heap HR.out)).trans HR.out)
  replace HB := Lib.hid (HB.out.trans (hb7.mono HB.out.size))
  replace HBA := Lib.hid (HBA.out.on hb7)
  replace HX := Lib.hid (HX.out.on hb7)
  replace HY := Lib.hid (HY.out.on hb7)
  replace HZD := Lib.hid (HZD.out.on hb7)
  replace HZ := Lib.hid ((hb7.block _ (lt_heap HZ.out)).trans HZ.out)
  replace HWD := Lib.hid (HWD.out.on hb7)
  replace HD := Lib.hid (show Dn _ a n c D from ⟨HD.out.1.on hb7, HD.out.2⟩)
  have HV := Lib.hid hr7
  clear hr7 hb7
  have c0 := cell_of_row _ _ 0 _ _ _ HR.out
  have c1 := cell_of_row _ _ 1 _ _ _ HR.out
  have c2 := cell_of_row _ _ 2 _ _ _ HR.out
  simp at c0 c1 c2
  go_upto_region 8 with (go_at_call 25; refine (bytes_in x y wn hm HWN.out HHM.out HSZ.out (x * y) Q rfl HQN.out _).mono ?_; rintro e y8 ⟨rfl, hb8⟩)
  clear c0 c1 c2
  replace HR := Lib.hid ((hb8.block _ (lt_heap HR.out)).trans HR.out)
  replace HB := Lib.hid (HB.out.trans (hb8.mono HB.out.size))
  replace HBA := Lib.hid (HBA.out.on hb8)
  replace HX := Lib.hid (HX.out.on hb8)
  replace HY := Lib.hid (HY.out.on hb8)
  replace HZD := Lib.hid (HZD.out.on hb8)
  replace HZ := Lib.hid ((hb8.block _ (lt_heap HZ.out)).trans HZ.out)
  replace HWD := Lib.hid (HWD.out.on hb8)
  replace HV := Lib.hid ((hb8.block _ (lt_heap HV.out)).trans HV.out)
  replace HD := Lib.hid (show Dn _ a n c D from ⟨HD.out.1.on hb8, HD.out.2⟩)
  clear hb8
  have hdr := fun w => drsize_any x y w
  rw [decide_eq_true HSZ.out] at hdr
  have c0 := cell_of_row _ _ 0 _ _ _ HR.out
  have c1 := cell_of_row _ _ 1 _ _ _ HR.out
  have c2 := cell_of_row _ _ 2 _ _ _ HR.out
  simp at c0 c1 c2
  go_upto_region 10 with (go_at_call 26; refine (hdr _).mono ?_; rintro e y9 ⟨rfl, rfl⟩)
  clear c0 c1 c2
  have hpr := fun a' c' w => pright_any x y a' n c' w
  have hdp := fun w => dpright_any x y a n c w
  rw [decide_eq_true HOKS.out] at hdp
  simp only [decide_eq_true HOKS.out] at hpr
  obtain ⟨T, hT⟩ : ∃ T : ByteArray, T = ⟨F.toArray⟩ := ⟨_, rfl⟩
  have HT := Lib.hid hT
  clear hT
  have hS00 : Below y9.heap.size y9 y9.drew := (Below.refl _ y9).drew
  refine wp_region_held_drew (S := Below y9.heap.size y9) (by kernel_rfl) (hS00) (fun hS0 => ?_)
  refine wpAnyH_ready (rs := [0]) (by kernel_rfl) (by simp) ?_
  refine AllReadyH.cons rfl (fun K hK => ?_) AllReadyH.nil
  go_simp
  go_wp2_with (go_at_call 7; refine (awake_any _).mono ?_; rintro e z1 ⟨rfl, hb1⟩)
  have hS1_ := hS0.trans (hb1.mono hS0.size)
  clear hb1
  refine hK.out _ _ (hS1_) (fun hS1 => ?_)
  clear hK K
  refine wpAnyH_take (i := 1) (v := ?_) rfl (by kernel_rfl) (by kernel_rfl) (by kernel_rfl) (fun _ _ _ h => h) (Or.inl ⟨by kernel_rfl, by (intro wz hSz; go_simp; try with_reducible rfl)⟩) hS1 ?_
  go_simp
  refine wpAnyH_take (i := 2) (v := ?_) rfl (by kernel_rfl) (by kernel_rfl) (by kernel_rfl) (fun _ _ _ h => h) (Or.inl ⟨by kernel_rfl, by (intro wz hSz; go_simp; try with_reducible rfl)⟩) hS1 ?_
  go_simp
  refine wpAnyH_take (i := 3) (v := ?_) rfl (by kernel_rfl) (by kernel_rfl) (by kernel_rfl) (fun _ _ _ h => h) (Or.inl ⟨by kernel_rfl, by (intro wz hSz; go_simp; try with_reducible rfl)⟩) hS1 ?_
  go_simp
  refine wpAnyH_take (i := 4) (v := ?_) rfl (by kernel_rfl) (by kernel_rfl) (by kernel_rfl) (fun _ _ _ h => h) (Or.inl ⟨by kernel_rfl, by (intro wz hSz; go_simp; try with_reducible rfl)⟩) hS1 ?_
  go_simp
  refine wpAnyH_take (i := 5) (v := ?_) rfl (by kernel_rfl) (by kernel_rfl) (by kernel_rfl) (fun _ _ _ h => h) (Or.inl ⟨by kernel_rfl, by (intro wz hSz; go_simp; try with_reducible rfl)⟩) hS1 ?_
  go_simp
  refine wpAnyH_take (i := 6) (v := ?_) rfl (by kernel_rfl) (by kernel_rfl) (by kernel_rfl) (fun _ _ _ h => h) (Or.inl ⟨by kernel_rfl, by (intro wz hSz; go_simp; try with_reducible rfl)⟩) hS1 ?_
  go_simp
  refine wpAnyH_take (i := 7) (v := ?_) rfl (by kernel_rfl) (by kernel_rfl) (by kernel_rfl) (fun _ _ _ h => h) (Or.inl ⟨by kernel_rfl, by (intro wz hSz; go_simp; try with_reducible rfl)⟩) hS1 ?_
  go_simp
  refine wpAnyH_take (i := 8) (v := ?_) rfl (by kernel_rfl) (by kernel_rfl) (by kernel_rfl) (fun _ _ _ h => h) (Or.inl ⟨by kernel_rfl, by (intro wz hSz; have cv_ := (HX.out.on hSz).conv HFN.out; rw [← HT.out] at cv_; go_simp; try with_reducible rfl)⟩) hS1 ?_
  go_simp
  refine wpAnyH_take (i := 9) (v := ?_) rfl (by kernel_rfl) (by kernel_rfl) (by kernel_rfl) (fun _ _ _ h => h) (Or.inl ⟨by kernel_rfl, by (intro wz hSz; go_simp; try with_reducible rfl)⟩) hS1 ?_
  go_simp
  refine wpAnyH_take (i := 10) (v := ?_) rfl (by kernel_rfl) (by kernel_rfl) (by kernel_rfl) (fun _ _ _ h => h) (Or.inl ⟨by kernel_rfl, by (intro wz hSz; have cv_ := (HY.out.on hSz).conv HFN.out; rw [← HT.out] at cv_; go_simp; try with_reducible rfl)⟩) hS1 ?_
  go_simp
  refine wpAnyH_take (i := 11) (v := ?_) rfl (by kernel_rfl) (by kernel_rfl) (by kernel_rfl) (fun _ _ _ h => h) (Or.inl ⟨by kernel_rfl, by (intro wz hSz; go_simp; try with_reducible rfl)⟩) hS1 ?_
  go_simp
  refine wpAnyH_take (i := 12) (v := ?_) rfl (by kernel_rfl) (by kernel_rfl) (by kernel_rfl) (fun _ _ _ h => h) (Or.inl ⟨by kernel_rfl, by (intro wz hSz; go_simp; try with_reducible rfl)⟩) hS1 ?_
  go_simp
  refine wpAnyH_take (i := 13) (v := ?_) rfl (by kernel_rfl) (by kernel_rfl) (by kernel_rfl) (fun _ _ _ h => h) (Or.inl ⟨by kernel_rfl, by (intro wz hSz; go_simp; try with_reducible rfl)⟩) hS1 ?_
  go_simp
  refine wpAnyH_take (i := 14) (v := ?_) rfl (by kernel_rfl) (by kernel_rfl) (by kernel_rfl) (fun _ _ _ h => h) (Or.inl ⟨by kernel_rfl, by (intro wz hSz; go_simp; try with_reducible rfl)⟩) hS1 ?_
  go_simp
  refine wpAnyH_take (i := 15) (v := ?_) rfl (by kernel_rfl) (by kernel_rfl) (by kernel_rfl) (fun _ _ _ h => h) (Or.inl ⟨by kernel_rfl, by (intro wz hSz; go_simp; try with_reducible rfl)⟩) hS1 ?_
  go_simp
  refine wpAnyH_take (i := 16) (v := ?_) rfl (by kernel_rfl) (by kernel_rfl) (by kernel_rfl) (fun _ _ _ h => h) (Or.inl ⟨by kernel_rfl, by (intro wz hSz; go_simp; try with_reducible rfl)⟩) hS1 ?_
  go_simp
  refine wpAnyH_take (i := 17) (v := ?_) rfl (by kernel_rfl) (by kernel_rfl) (by kernel_rfl) (fun _ _ _ h => h) (Or.inl ⟨by kernel_rfl, by (intro wz hSz; go_simp; try with_reducible rfl)⟩) hS1 ?_
  go_simp
  refine wpAnyH_take (i := 18) (v := ?_) rfl (by kernel_rfl) (by kernel_rfl) (by kernel_rfl) (fun _ _ _ h => h) (Or.inl ⟨by kernel_rfl, by (intro wz hSz; go_simp; try with_reducible rfl)⟩) hS1 ?_
  go_simp
  refine wpAnyH_take (i := 19) (v := ?_) rfl (by kernel_rfl) (by kernel_rfl) (by kernel_rfl) (fun _ _ _ h => h) (Or.inl ⟨by kernel_rfl, by (intro wz hSz; have hc_ := (hSz.block _ (lt_heap HZ.out)).trans HZ.out; have cq0 := cell_of_row _ _ 0 _ _ _ hc_; have cq1 := cell_of_row _ _ 1 _ _ _ hc_; have cq2 := cell_of_row _ _ 2 _ _ _ hc_; simp at cq0 cq1 cq2; go_simp; try with_reducible rfl)⟩) hS1 ?_
  go_simp
  refine wpAnyH_take (i := 21) (v := ?_) rfl (by kernel_rfl) (by kernel_rfl) (by kernel_rfl) (fun _ _ _ h => h) (Or.inl ⟨by kernel_rfl, by (intro wz hSz; have hc_ := (hSz.block _ (lt_heap HV.out)).trans HV.out; have cq0 := cell_of_row _ _ 0 _ _ _ hc_; have cq1 := cell_of_row _ _ 1 _ _ _ hc_; have cq2 := cell_of_row _ _ 2 _ _ _ hc_; simp at cq0 cq1 cq2; go_simp; try with_reducible rfl)⟩) hS1 ?_
  go_simp
  refine wpAnyH_ready (rs := [20]) (by kernel_rfl) (by simp) ?_
  refine AllReadyH.cons rfl (fun K hK => ?_) AllReadyH.nil
  go_simp
  go_wp2_with (go_at_call 15; refine (from_any (dw : Int) (dh : Int) a4 Kn c4_ _).mono ?_; rintro e z2 ⟨rfl, hb2⟩)
  have hS2_ := hS1.trans (hb2.mono hS1.size)
  clear hb2
  refine hK.out _ _ (hS2_) (fun hS2 => ?_)
  clear hK K
  refine wpAnyH_ready (rs := [22]) (by kernel_rfl) (by simp) ?_
  refine AllReadyH.cons rfl (fun K hK => ?_) AllReadyH.nil
  go_simp
  go_wp2_with (go_at_call 14; refine (same_any (dw : Int) (dh : Int) Kn a4 a6 c4_ c6_ DD _ (HZD.out.on hS2) (HWD.out.on hS2) (by have := HKB.out; omega)).mono ?_; rintro e z3 ⟨rfl, hb3⟩)
  have hS3_ := hS2.trans (hb3.mono hS2.size)
  clear hb3
  refine hK.out _ _ (hS3_) (fun hS3 => ?_)
  clear hK K
  refine wpAnyH_take (i := 23) (v := ?_) rfl (by kernel_rfl) (by kernel_rfl) (by kernel_rfl) (fun _ _ _ h => h) (Or.inl ⟨by kernel_rfl, by (intro wz hSz; go_simp; try with_reducible rfl)⟩) hS3 ?_
  go_simp
  refine wpAnyH_take (i := 24) (v := ?_) rfl (by kernel_rfl) (by kernel_rfl) (by kernel_rfl) (fun _ _ _ h => h) (Or.inl ⟨by kernel_rfl, by (intro wz hSz; go_simp; try with_reducible rfl)⟩) hS3 ?_
  go_simp
  refine wpAnyH_take (i := 25) (v := ?_) rfl (by kernel_rfl) (by kernel_rfl) (by kernel_rfl) (fun _ _ _ h => h) (Or.inl ⟨by kernel_rfl, by (intro wz hSz; have hc_ := (hSz.block _ (lt_heap HR.out)).trans HR.out; have cq0 := cell_of_row _ _ 0 _ _ _ hc_; have cq1 := cell_of_row _ _ 1 _ _ _ hc_; have cq2 := cell_of_row _ _ 2 _ _ _ hc_; simp at cq0 cq1 cq2; go_simp; try with_reducible rfl)⟩) hS3 ?_
  go_simp
  refine wpAnyH_take (i := 28) (v := ?_) rfl (by kernel_rfl) (by kernel_rfl) (by kernel_rfl) (fun _ _ _ h => h) (Or.inl ⟨by kernel_rfl, by (intro wz hSz; have hc_ := (hSz.block _ (lt_heap HR.out)).trans HR.out; have cq0 := cell_of_row _ _ 0 _ _ _ hc_; have cq1 := cell_of_row _ _ 1 _ _ _ hc_; have cq2 := cell_of_row _ _ 2 _ _ _ hc_; simp at cq0 cq1 cq2; go_simp; try with_reducible rfl)⟩) hS3 ?_
  go_simp
  refine wpAnyH_ready (rs := [26]) (by kernel_rfl) (by simp) ?_
  refine AllReadyH.cons rfl (fun K hK => ?_) AllReadyH.nil
  go_simp
  go_wp2_with (go_at_call 21; refine (to_any x y a n c D _ ⟨HD.out.1.on hS3, HD.out.2⟩ hn).mono ?_; rintro e z4 ⟨⟨v4, rfl, ho4⟩, hb4⟩; obtain ⟨at_, ct_, hv4⟩ := own_slice ho4; subst hv4; clear ho4)
  have hS4_ := hS3.trans (hb4.mono hS3.size)
  clear hb4
  refine hK.out _ _ (hS4_) (fun hS4 => ?_)
  clear hK K
  refine wpAnyH_ready (rs := [27]) (by kernel_rfl) (by simp) ?_
  refine AllReadyH.cons rfl (fun K hK => ?_) AllReadyH.nil
  go_simp
  go_wp2_with (go_at_call 17; refine (hpr at_ ct_ _).mono ?_; rintro e z5 ⟨rfl, hb5⟩)
  have hS5_ := hS4.trans (hb5.mono hS4.size)
  clear hb5
  refine hK.out _ _ (hS5_) (fun hS5 => ?_)
  clear hK K
  refine wpAnyH_ready (rs := [29]) (by kernel_rfl) (by simp) ?_
  refine AllReadyH.cons rfl (fun K hK => ?_) AllReadyH.nil
  go_simp
  go_wp2_with (go_at_call 27; refine (hdp _).mono ?_; rintro e z6 ⟨rfl, hb6⟩)
  have hS6_ := hS5.trans (hb6.mono hS5.size)
  clear hb6
  refine hK.out _ _ (hS6_) (fun hS6 => ?_)
  clear hK K
  refine wpAnyH_take (i := 30) (v := ?_) rfl (by kernel_rfl) (by kernel_rfl) (by kernel_rfl) (fun _ _ _ h => h) (Or.inl ⟨by kernel_rfl, by (intro wz hSz; go_simp; try with_reducible rfl)⟩) hS6 ?_
  go_simp
  refine wpAnyH_take (i := 31) (v := ?_) rfl (by kernel_rfl) (by kernel_rfl) (by kernel_rfl) (fun _ _ _ h => h) (Or.inl ⟨by kernel_rfl, by (intro wz hSz; go_simp; try with_reducible rfl)⟩) hS6 ?_
  go_simp
  refine wpAnyH_take (i := 32) (v := ?_) rfl (by kernel_rfl) (by kernel_rfl) (by kernel_rfl) (fun _ _ _ h => h) (Or.inl ⟨by kernel_rfl, by (intro wz hSz; go_simp; try with_reducible rfl)⟩) hS6 ?_
  go_simp
  refine wpAnyH_done (by kernel_rfl) ?_ _
  have HFB := Lib.hid (HB.out.trans (hS6.mono HB.out.size))
  go_wp2
  go_ret
  exact ⟨rfl, HFB.out⟩

set_option maxHeartbeats 8000000 in
set_option maxRecDepth 100000 in
theorem files_B (x y : Int) (a : Option Addr) (n c : Nat) (D : List UInt8) (ab : Option Addr) (nb cb : Nat) (lb : List UInt8) (w : World) (hD : Dn w a n c D) (hb : BA w ab nb cb lb) (hnb : nb ≤ 140737488351232) (hn : n ≤ 5000) (hsz : Fm.okSz x y) (hok : ¬ Fm.okSh x y n) (awk : True) : Calls Tryd.prog 4 #[.agg #[.int .i64 x, .int .i64 y, .slice a n c], .slice ab nb cb] w fun e' w' => e' = .returned (.bool true) ∧ Below w.heap.size w w' := by
  obtain ⟨wn, hwn⟩ : ∃ k : Nat, x = k := ⟨x.toNat, by have := hsz.1; omega⟩
  obtain ⟨hm, hhm⟩ : ∃ k : Nat, y = k := ⟨y.toNat, by have := hsz.2.2.1; omega⟩
  have HWN := Lib.hid hwn
  have HHM := Lib.hid hhm
  obtain ⟨N, hN⟩ : ∃ N : Int, N = ((headL wn hm).length : Int) + 3 * (x * y) := ⟨_, rfl⟩
  have HNN := Lib.hid hN
  have hN0 : (0 : Int) < N := by have := head_len wn hm; have := (Fm.okSz_mul hsz).1; omega
  have HOKS := Lib.hid hok
  clear hN hok
  have HSZ := Lib.hid hsz
  have HD := Lib.hid hD
  have HBA := Lib.hid hb
  clear hD hb hsz hwn hhm
  have hcn := fun W => conv_nil W
  go_enter Tryd.func4, Tryd.ntmps4
  go_upto_region 1 with fail
  have hr0 := heap_alloc_last w (.cells #[.int .i64 x, .int .i64 y, .slice a n c] 52)
  have hb0 := Ve.below_n1 w (.cells #[.int .i64 x, .int .i64 y, .slice a n c] 52)
  obtain ⟨y0, hy0⟩ : ∃ y0, w.alloc (.cells #[.int .i64 x, .int .i64 y, .slice a n c] 52) = y0 := ⟨_, rfl⟩
  obtain ⟨p0, hp0⟩ : ∃ p, p = w.heap.size := ⟨_, rfl⟩
  rw [hy0] at hr0 hb0 ⊢
  rw [← hp0] at hr0 ⊢
  clear hy0 hp0
  have HR := Lib.hid hr0
  have HB := Lib.hid hb0
  replace HD := Lib.hid (show Dn y0 a n c D from ⟨HD.out.1.on hb0, HD.out.2⟩)
  replace HBA := Lib.hid (HBA.out.on hb0)
  clear hb0 hr0
  have c0 := cell_of_row _ _ 0 _ _ _ HR.out
  have c1 := cell_of_row _ _ 1 _ _ _ HR.out
  have c2 := cell_of_row _ _ 2 _ _ _ HR.out
  simp at c0 c1 c2
  go_upto_region 3 with fail
  go_wp2_with fail
  refine (to_any x y a n c D y0 HD.out hn).mono ?_
  rintro e y1 ⟨⟨v1, rfl, ho1⟩, hb1⟩
  obtain ⟨a1, c1_, hv1⟩ := own_slice ho1
  subst hv1
  clear c0 c1 c2
  have HT1 := Lib.hid (dt_own HD.out.1.1 ho1)
  replace HR := Lib.hid ((hb1.block _ (lt_heap HR.out)).trans HR.out)
  replace HB := Lib.hid (HB.out.trans (hb1.mono HB.out.size))
  replace HBA := Lib.hid (HBA.out.on hb1)
  replace HD := Lib.hid (show Dn _ a n c D from ⟨HD.out.1.on hb1, HD.out.2⟩)
  clear ho1 hb1
  have c0 := cell_of_row _ _ 0 _ _ _ HR.out
  have c1 := cell_of_row _ _ 1 _ _ _ HR.out
  have c2 := cell_of_row _ _ 2 _ _ _ HR.out
  simp at c0 c1 c2
  go_upto_region 4 with (go_at_call 20; refine (encode_no x y a1 n c1_ _ HOKS.out).mono ?_; rintro e y2 ⟨rfl, hb2⟩)
  clear c0 c1 c2
  replace HR := Lib.hid ((hb2.block _ (lt_heap HR.out)).trans HR.out)
  replace HB := Lib.hid (HB.out.trans (hb2.mono HB.out.size))
  replace HBA := Lib.hid (HBA.out.on hb2)
  replace HD := Lib.hid (show Dn _ a n c D from ⟨HD.out.1.on hb2, HD.out.2⟩)
  clear hb2 HT1
  have c0 := cell_of_row _ _ 0 _ _ _ HR.out
  have c1 := cell_of_row _ _ 1 _ _ _ HR.out
  have c2 := cell_of_row _ _ 2 _ _ _ HR.out
  simp at c0 c1 c2
  go_upto_region 5 with (go_at_call 22; refine (dencode_no x y a n c _ HOKS.out).mono ?_; rintro e y3 ⟨rfl, hb3⟩)
  clear c0 c1 c2
  replace HR := Lib.hid ((hb3.block _ (lt_heap HR.out)).trans HR.out)
  replace HB := Lib.hid (HB.out.trans (hb3.mono HB.out.size))
  replace HBA := Lib.hid (HBA.out.on hb3)
  replace HD := Lib.hid (show Dn _ a n c D from ⟨HD.out.1.on hb3, HD.out.2⟩)
  clear hb3
  go_upto_region 6 with (go_at_call 23; refine (decode_any ab nb cb lb _ HBA.out hnb).mono ?_; rintro e y4 ⟨g, dw, dh, Kn, DD, v4, hdec, rfl, hK, ho4, hb4⟩; obtain ⟨a4, c4_, hv4⟩ := own_slice ho4; subst hv4; replace hK := Lib.hid hK)
  replace HR := Lib.hid ((hb4.block _ (lt_heap HR.out)).trans HR.out)
  replace HB := Lib.hid (HB.out.trans (hb4.mono HB.out.size))
  replace HBA := Lib.hid (HBA.out.on hb4)
  replace HD := Lib.hid (show Dn _ a n c D from ⟨HD.out.1.on hb4, HD.out.2⟩)
  have hDl4 : DD.length = 3 * Kn := by have := ho4.1; rw [vals_length] at this; omega
  have HZD := Lib.hid (dt_own hDl4 ho4)
  have HDEC := Lib.hid hdec
  have HKB := Lib.hid (show Kn ≤ 5000 by rw [hK.out]; exact hdec.bound)
  have HKK := hK
  clear ho4 hb4 hdec hK hDl4
  have hr5 := heap_alloc_last y4 (.cells #[.int .i64 dw, .int .i64 dh, .slice a4 Kn c4_] 44)
  have hb5 := Ve.below_n1 y4 (.cells #[.int .i64 dw, .int .i64 dh, .slice a4 Kn c4_] 44)
  obtain ⟨y5, hy5⟩ : ∃ y5, y4.alloc (.cells #[.int .i64 dw, .int .i64 dh, .slice a4 Kn c4_] 44) = y5 := ⟨_, rfl⟩
  obtain ⟨p5, hp5⟩ : ∃ p, p = y4.heap.size := ⟨_, rfl⟩
  rw [hy5] at hr5 hb5 ⊢
  rw [← hp5] at hr5 ⊢
  clear hy5 hp5
  replace HR := Lib.hid ((hb5.block _ (lt_heap HR.out)).trans HR.out)
  replace HB := Lib.hid (HB.out.trans (hb5.mono HB.out.size))
  replace HBA := Lib.hid (HBA.out.on hb5)
  replace HZD := Lib.hid (HZD.out.on hb5)
  replace HD := Lib.hid (show Dn _ a n c D from ⟨HD.out.1.on hb5, HD.out.2⟩)
  have HZ := Lib.hid hr5
  clear hr5 hb5
  go_upto_region 7 with (go_at_call 24; refine (rdecode_any ab nb cb lb _ HBA.out hnb).mono ?_; rintro e y6 ⟨g', dw', dh', Kn', DD', v6, hdec', rfl, hK', ho6, hb6⟩; obtain ⟨a6, c6_, hv6⟩ := own_slice ho6; subst hv6; replace hK' := Lib.hid hK')
  obtain ⟨rfl, rfl, rfl, rfl⟩ := HDEC.out.one hdec'
  obtain rfl : Kn = Kn' := by rw [HKK.out, hK'.out]
  replace HR := Lib.hid ((hb6.block _ (lt_heap HR.out)).trans HR.out)
  replace HB := Lib.hid (HB.out.trans (hb6.mono HB.out.size))
  replace HBA := Lib.hid (HBA.out.on hb6)
  replace HZD := Lib.hid (HZD.out.on hb6)
  replace HZ := Lib.hid ((hb6.block _ (lt_heap HZ.out)).trans HZ.out)
  replace HD := Lib.hid (show Dn _ a n c D from ⟨HD.out.1.on hb6, HD.out.2⟩)
  have hDl6 : DD.length = 3 * Kn := by have := ho6.1; rw [vals_length] at this; omega
  have HWD := Lib.hid (dt_own hDl6 ho6)
  clear ho6 hb6 hdec' hK' hDl6
  have hr7 := heap_alloc_last y6 (.cells #[.int .i64 dw, .int .i64 dh, .slice a6 Kn c6_] 52)
  have hb7 := Ve.below_n1 y6 (.cells #[.int .i64 dw, .int .i64 dh, .slice a6 Kn c6_] 52)
  obtain ⟨y7, hy7⟩ : ∃ y7, y6.alloc (.cells #[.int .i64 dw, .int .i64 dh, .slice a6 Kn c6_] 52) = y7 := ⟨_, rfl⟩
  obtain ⟨p7, hp7⟩ : ∃ p, p = y6.heap.size := ⟨_, rfl⟩
  rw [hy7] at hr7 hb7 ⊢
  rw [← hp7] at hr7 ⊢
  clear hy7 hp7
  replace HR := Lib.hid ((hb7.block _ (lt_heap HR.out)).trans HR.out)
  replace HB := Lib.hid (HB.out.trans (hb7.mono HB.out.size))
  replace HBA := Lib.hid (HBA.out.on hb7)
  replace HZD := Lib.hid (HZD.out.on hb7)
  replace HZ := Lib.hid ((hb7.block _ (lt_heap HZ.out)).trans HZ.out)
  replace HWD := Lib.hid (HWD.out.on hb7)
  replace HD := Lib.hid (show Dn _ a n c D from ⟨HD.out.1.on hb7, HD.out.2⟩)
  have HV := Lib.hid hr7
  clear hr7 hb7
  have c0 := cell_of_row _ _ 0 _ _ _ HR.out
  have c1 := cell_of_row _ _ 1 _ _ _ HR.out
  have c2 := cell_of_row _ _ 2 _ _ _ HR.out
  simp at c0 c1 c2
  go_upto_region 8 with (go_at_call 25; refine (bytes_in x y wn hm HWN.out HHM.out HSZ.out (x * y) N rfl HNN.out _).mono ?_; rintro e y8 ⟨rfl, hb8⟩)
  clear c0 c1 c2
  replace HR := Lib.hid ((hb8.block _ (lt_heap HR.out)).trans HR.out)
  replace HB := Lib.hid (HB.out.trans (hb8.mono HB.out.size))
  replace HBA := Lib.hid (HBA.out.on hb8)
  replace HZD := Lib.hid (HZD.out.on hb8)
  replace HZ := Lib.hid ((hb8.block _ (lt_heap HZ.out)).trans HZ.out)
  replace HWD := Lib.hid (HWD.out.on hb8)
  replace HV := Lib.hid ((hb8.block _ (lt_heap HV.out)).trans HV.out)
  replace HD := Lib.hid (show Dn _ a n c D from ⟨HD.out.1.on hb8, HD.out.2⟩)
  clear hb8
  have hdr := fun w => drsize_any x y w
  rw [decide_eq_true HSZ.out] at hdr
  have c0 := cell_of_row _ _ 0 _ _ _ HR.out
  have c1 := cell_of_row _ _ 1 _ _ _ HR.out
  have c2 := cell_of_row _ _ 2 _ _ _ HR.out
  simp at c0 c1 c2
  go_upto_region 10 with (go_at_call 26; refine (hdr _).mono ?_; rintro e y9 ⟨rfl, rfl⟩)
  clear c0 c1 c2
  have hpr := fun a' c' w => pright_any x y a' n c' w
  have hdp := fun w => dpright_any x y a n c w
  rw [decide_eq_false HOKS.out] at hdp
  simp only [decide_eq_false HOKS.out] at hpr
  have hS00 : Below y9.heap.size y9 y9.drew := (Below.refl _ y9).drew
  refine wp_region_held_drew (S := Below y9.heap.size y9) (by kernel_rfl) (hS00) (fun hS0 => ?_)
  refine wpAnyH_ready (rs := [0]) (by kernel_rfl) (by simp) ?_
  refine AllReadyH.cons rfl (fun K hK => ?_) AllReadyH.nil
  go_simp
  go_wp2_with (go_at_call 7; refine (awake_any _).mono ?_; rintro e z1 ⟨rfl, hb1⟩)
  have hS1_ := hS0.trans (hb1.mono hS0.size)
  clear hb1
  refine hK.out _ _ (hS1_) (fun hS1 => ?_)
  clear hK K
  refine wpAnyH_take (i := 1) (v := ?_) rfl (by kernel_rfl) (by kernel_rfl) (by kernel_rfl) (fun _ _ _ h => h) (Or.inl ⟨by kernel_rfl, by (intro wz hSz; go_simp; try with_reducible rfl)⟩) hS1 ?_
  go_simp
  refine wpAnyH_take (i := 2) (v := ?_) rfl (by kernel_rfl) (by kernel_rfl) (by kernel_rfl) (fun _ _ _ h => h) (Or.inl ⟨by kernel_rfl, by (intro wz hSz; go_simp; try with_reducible rfl)⟩) hS1 ?_
  go_simp
  refine wpAnyH_take (i := 3) (v := ?_) rfl (by kernel_rfl) (by kernel_rfl) (by kernel_rfl) (fun _ _ _ h => h) (Or.inl ⟨by kernel_rfl, by (intro wz hSz; go_simp; try with_reducible rfl)⟩) hS1 ?_
  go_simp
  refine wpAnyH_take (i := 4) (v := ?_) rfl (by kernel_rfl) (by kernel_rfl) (by kernel_rfl) (fun _ _ _ h => h) (Or.inl ⟨by kernel_rfl, by (intro wz hSz; go_simp; try with_reducible rfl)⟩) hS1 ?_
  go_simp
  refine wpAnyH_take (i := 5) (v := ?_) rfl (by kernel_rfl) (by kernel_rfl) (by kernel_rfl) (fun _ _ _ h => h) (Or.inl ⟨by kernel_rfl, by (intro wz hSz; go_simp; try with_reducible rfl)⟩) hS1 ?_
  go_simp
  refine wpAnyH_take (i := 6) (v := ?_) rfl (by kernel_rfl) (by kernel_rfl) (by kernel_rfl) (fun _ _ _ h => h) (Or.inl ⟨by kernel_rfl, by (intro wz hSz; go_simp; try with_reducible rfl)⟩) hS1 ?_
  go_simp
  refine wpAnyH_take (i := 7) (v := ?_) rfl (by kernel_rfl) (by kernel_rfl) (by kernel_rfl) (fun _ _ _ h => h) (Or.inl ⟨by kernel_rfl, by (intro wz hSz; go_simp; try with_reducible rfl)⟩) hS1 ?_
  go_simp
  refine wpAnyH_take (i := 8) (v := ?_) rfl (by kernel_rfl) (by kernel_rfl) (by kernel_rfl) (fun _ _ _ h => h) (Or.inl ⟨by kernel_rfl, by (intro wz hSz; go_simp; try with_reducible rfl)⟩) hS1 ?_
  go_simp
  refine wpAnyH_take (i := 9) (v := ?_) rfl (by kernel_rfl) (by kernel_rfl) (by kernel_rfl) (fun _ _ _ h => h) (Or.inl ⟨by kernel_rfl, by (intro wz hSz; go_simp; try with_reducible rfl)⟩) hS1 ?_
  go_simp
  refine wpAnyH_take (i := 10) (v := ?_) rfl (by kernel_rfl) (by kernel_rfl) (by kernel_rfl) (fun _ _ _ h => h) (Or.inl ⟨by kernel_rfl, by (intro wz hSz; go_simp; try with_reducible rfl)⟩) hS1 ?_
  go_simp
  refine wpAnyH_take (i := 11) (v := ?_) rfl (by kernel_rfl) (by kernel_rfl) (by kernel_rfl) (fun _ _ _ h => h) (Or.inl ⟨by kernel_rfl, by (intro wz hSz; go_simp; try with_reducible rfl)⟩) hS1 ?_
  go_simp
  refine wpAnyH_take (i := 12) (v := ?_) rfl (by kernel_rfl) (by kernel_rfl) (by kernel_rfl) (fun _ _ _ h => h) (Or.inl ⟨by kernel_rfl, by (intro wz hSz; go_simp; try with_reducible rfl)⟩) hS1 ?_
  go_simp
  refine wpAnyH_take (i := 13) (v := ?_) rfl (by kernel_rfl) (by kernel_rfl) (by kernel_rfl) (fun _ _ _ h => h) (Or.inl ⟨by kernel_rfl, by (intro wz hSz; go_simp; try with_reducible rfl)⟩) hS1 ?_
  go_simp
  refine wpAnyH_take (i := 14) (v := ?_) rfl (by kernel_rfl) (by kernel_rfl) (by kernel_rfl) (fun _ _ _ h => h) (Or.inl ⟨by kernel_rfl, by (intro wz hSz; go_simp; try with_reducible rfl)⟩) hS1 ?_
  go_simp
  refine wpAnyH_take (i := 15) (v := ?_) rfl (by kernel_rfl) (by kernel_rfl) (by kernel_rfl) (fun _ _ _ h => h) (Or.inl ⟨by kernel_rfl, by (intro wz hSz; go_simp; try with_reducible rfl)⟩) hS1 ?_
  go_simp
  refine wpAnyH_take (i := 16) (v := ?_) rfl (by kernel_rfl) (by kernel_rfl) (by kernel_rfl) (fun _ _ _ h => h) (Or.inl ⟨by kernel_rfl, by (intro wz hSz; go_simp; try with_reducible rfl)⟩) hS1 ?_
  go_simp
  refine wpAnyH_take (i := 17) (v := ?_) rfl (by kernel_rfl) (by kernel_rfl) (by kernel_rfl) (fun _ _ _ h => h) (Or.inl ⟨by kernel_rfl, by (intro wz hSz; go_simp; try with_reducible rfl)⟩) hS1 ?_
  go_simp
  refine wpAnyH_take (i := 18) (v := ?_) rfl (by kernel_rfl) (by kernel_rfl) (by kernel_rfl) (fun _ _ _ h => h) (Or.inl ⟨by kernel_rfl, by (intro wz hSz; go_simp; try with_reducible rfl)⟩) hS1 ?_
  go_simp
  refine wpAnyH_take (i := 19) (v := ?_) rfl (by kernel_rfl) (by kernel_rfl) (by kernel_rfl) (fun _ _ _ h => h) (Or.inl ⟨by kernel_rfl, by (intro wz hSz; have hc_ := (hSz.block _ (lt_heap HZ.out)).trans HZ.out; have cq0 := cell_of_row _ _ 0 _ _ _ hc_; have cq1 := cell_of_row _ _ 1 _ _ _ hc_; have cq2 := cell_of_row _ _ 2 _ _ _ hc_; simp at cq0 cq1 cq2; go_simp; try with_reducible rfl)⟩) hS1 ?_
  go_simp
  refine wpAnyH_take (i := 21) (v := ?_) rfl (by kernel_rfl) (by kernel_rfl) (by kernel_rfl) (fun _ _ _ h => h) (Or.inl ⟨by kernel_rfl, by (intro wz hSz; have hc_ := (hSz.block _ (lt_heap HV.out)).trans HV.out; have cq0 := cell_of_row _ _ 0 _ _ _ hc_; have cq1 := cell_of_row _ _ 1 _ _ _ hc_; have cq2 := cell_of_row _ _ 2 _ _ _ hc_; simp at cq0 cq1 cq2; go_simp; try with_reducible rfl)⟩) hS1 ?_
  go_simp
  refine wpAnyH_ready (rs := [20]) (by kernel_rfl) (by simp) ?_
  refine AllReadyH.cons rfl (fun K hK => ?_) AllReadyH.nil
  go_simp
  go_wp2_with (go_at_call 15; refine (from_any (dw : Int) (dh : Int) a4 Kn c4_ _).mono ?_; rintro e z2 ⟨rfl, hb2⟩)
  have hS2_ := hS1.trans (hb2.mono hS1.size)
  clear hb2
  refine hK.out _ _ (hS2_) (fun hS2 => ?_)
  clear hK K
  refine wpAnyH_ready (rs := [22]) (by kernel_rfl) (by simp) ?_
  refine AllReadyH.cons rfl (fun K hK => ?_) AllReadyH.nil
  go_simp
  go_wp2_with (go_at_call 14; refine (same_any (dw : Int) (dh : Int) Kn a4 a6 c4_ c6_ DD _ (HZD.out.on hS2) (HWD.out.on hS2) (by have := HKB.out; omega)).mono ?_; rintro e z3 ⟨rfl, hb3⟩)
  have hS3_ := hS2.trans (hb3.mono hS2.size)
  clear hb3
  refine hK.out _ _ (hS3_) (fun hS3 => ?_)
  clear hK K
  refine wpAnyH_take (i := 23) (v := ?_) rfl (by kernel_rfl) (by kernel_rfl) (by kernel_rfl) (fun _ _ _ h => h) (Or.inl ⟨by kernel_rfl, by (intro wz hSz; go_simp; try with_reducible rfl)⟩) hS3 ?_
  go_simp
  refine wpAnyH_take (i := 24) (v := ?_) rfl (by kernel_rfl) (by kernel_rfl) (by kernel_rfl) (fun _ _ _ h => h) (Or.inl ⟨by kernel_rfl, by (intro wz hSz; go_simp; try with_reducible rfl)⟩) hS3 ?_
  go_simp
  refine wpAnyH_take (i := 25) (v := ?_) rfl (by kernel_rfl) (by kernel_rfl) (by kernel_rfl) (fun _ _ _ h => h) (Or.inl ⟨by kernel_rfl, by (intro wz hSz; have hc_ := (hSz.block _ (lt_heap HR.out)).trans HR.out; have cq0 := cell_of_row _ _ 0 _ _ _ hc_; have cq1 := cell_of_row _ _ 1 _ _ _ hc_; have cq2 := cell_of_row _ _ 2 _ _ _ hc_; simp at cq0 cq1 cq2; go_simp; try with_reducible rfl)⟩) hS3 ?_
  go_simp
  refine wpAnyH_take (i := 28) (v := ?_) rfl (by kernel_rfl) (by kernel_rfl) (by kernel_rfl) (fun _ _ _ h => h) (Or.inl ⟨by kernel_rfl, by (intro wz hSz; have hc_ := (hSz.block _ (lt_heap HR.out)).trans HR.out; have cq0 := cell_of_row _ _ 0 _ _ _ hc_; have cq1 := cell_of_row _ _ 1 _ _ _ hc_; have cq2 := cell_of_row _ _ 2 _ _ _ hc_; simp at cq0 cq1 cq2; go_simp; try with_reducible rfl)⟩) hS3 ?_
  go_simp
  refine wpAnyH_ready (rs := [26]) (by kernel_rfl) (by simp) ?_
  refine AllReadyH.cons rfl (fun K hK => ?_) AllReadyH.nil
  go_simp
  go_wp2_with (go_at_call 21; refine (to_any x y a n c D _ ⟨HD.out.1.on hS3, HD.out.2⟩ hn).mono ?_; rintro e z4 ⟨⟨v4, rfl, ho4⟩, hb4⟩; obtain ⟨at_, ct_, hv4⟩ := own_slice ho4; subst hv4; clear ho4)
  have hS4_ := hS3.trans (hb4.mono hS3.size)
  clear hb4
  refine hK.out _ _ (hS4_) (fun hS4 => ?_)
  clear hK K
  refine wpAnyH_ready (rs := [27]) (by kernel_rfl) (by simp) ?_
  refine AllReadyH.cons rfl (fun K hK => ?_) AllReadyH.nil
  go_simp
  go_wp2_with (go_at_call 17; refine (hpr at_ ct_ _).mono ?_; rintro e z5 ⟨rfl, hb5⟩)
  have hS5_ := hS4.trans (hb5.mono hS4.size)
  clear hb5
  refine hK.out _ _ (hS5_) (fun hS5 => ?_)
  clear hK K
  refine wpAnyH_ready (rs := [29]) (by kernel_rfl) (by simp) ?_
  refine AllReadyH.cons rfl (fun K hK => ?_) AllReadyH.nil
  go_simp
  go_wp2_with (go_at_call 27; refine (hdp _).mono ?_; rintro e z6 ⟨rfl, hb6⟩)
  have hS6_ := hS5.trans (hb6.mono hS5.size)
  clear hb6
  refine hK.out _ _ (hS6_) (fun hS6 => ?_)
  clear hK K
  refine wpAnyH_take (i := 30) (v := ?_) rfl (by kernel_rfl) (by kernel_rfl) (by kernel_rfl) (fun _ _ _ h => h) (Or.inl ⟨by kernel_rfl, by (intro wz hSz; go_simp; try with_reducible rfl)⟩) hS6 ?_
  go_simp
  refine wpAnyH_take (i := 31) (v := ?_) rfl (by kernel_rfl) (by kernel_rfl) (by kernel_rfl) (fun _ _ _ h => h) (Or.inl ⟨by kernel_rfl, by (intro wz hSz; go_simp; try with_reducible rfl)⟩) hS6 ?_
  go_simp
  refine wpAnyH_take (i := 32) (v := ?_) rfl (by kernel_rfl) (by kernel_rfl) (by kernel_rfl) (fun _ _ _ h => h) (Or.inl ⟨by kernel_rfl, by (intro wz hSz; go_simp; try with_reducible rfl)⟩) hS6 ?_
  go_simp
  refine wpAnyH_done (by kernel_rfl) ?_ _
  have HFB := Lib.hid (HB.out.trans (hS6.mono HB.out.size))
  go_wp2
  go_ret
  exact ⟨rfl, HFB.out⟩

set_option maxHeartbeats 8000000 in
set_option maxRecDepth 100000 in
theorem files_C (x y : Int) (a : Option Addr) (n c : Nat) (D : List UInt8) (ab : Option Addr) (nb cb : Nat) (lb : List UInt8) (w : World) (hD : Dn w a n c D) (hb : BA w ab nb cb lb) (hnb : nb ≤ 140737488351232) (hn : n ≤ 5000) (hsz : ¬ Fm.okSz x y) (awk : True) : Calls Tryd.prog 4 #[.agg #[.int .i64 x, .int .i64 y, .slice a n c], .slice ab nb cb] w fun e' w' => e' = .returned (.bool true) ∧ Below w.heap.size w w' := by
  have HOKS := Lib.hid (show ¬ Fm.okSh x y n from fun h => hsz h.1)
  have HSZ := Lib.hid hsz
  have HD := Lib.hid hD
  have HBA := Lib.hid hb
  clear hD hb hsz
  have hcn := fun W => conv_nil W
  go_enter Tryd.func4, Tryd.ntmps4
  go_upto_region 1 with fail
  have hr0 := heap_alloc_last w (.cells #[.int .i64 x, .int .i64 y, .slice a n c] 52)
  have hb0 := Ve.below_n1 w (.cells #[.int .i64 x, .int .i64 y, .slice a n c] 52)
  obtain ⟨y0, hy0⟩ : ∃ y0, w.alloc (.cells #[.int .i64 x, .int .i64 y, .slice a n c] 52) = y0 := ⟨_, rfl⟩
  obtain ⟨p0, hp0⟩ : ∃ p, p = w.heap.size := ⟨_, rfl⟩
  rw [hy0] at hr0 hb0 ⊢
  rw [← hp0] at hr0 ⊢
  clear hy0 hp0
  have HR := Lib.hid hr0
  have HB := Lib.hid hb0
  replace HD := Lib.hid (show Dn y0 a n c D from ⟨HD.out.1.on hb0, HD.out.2⟩)
  replace HBA := Lib.hid (HBA.out.on hb0)
  clear hb0 hr0
  have c0 := cell_of_row _ _ 0 _ _ _ HR.out
  have c1 := cell_of_row _ _ 1 _ _ _ HR.out
  have c2 := cell_of_row _ _ 2 _ _ _ HR.out
  simp at c0 c1 c2
  go_upto_region 3 with fail
  go_wp2_with fail
  refine (to_any x y a n c D y0 HD.out hn).mono ?_
  rintro e y1 ⟨⟨v1, rfl, ho1⟩, hb1⟩
  obtain ⟨a1, c1_, hv1⟩ := own_slice ho1
  subst hv1
  clear c0 c1 c2
  have HT1 := Lib.hid (dt_own HD.out.1.1 ho1)
  replace HR := Lib.hid ((hb1.block _ (lt_heap HR.out)).trans HR.out)
  replace HB := Lib.hid (HB.out.trans (hb1.mono HB.out.size))
  replace HBA := Lib.hid (HBA.out.on hb1)
  replace HD := Lib.hid (show Dn _ a n c D from ⟨HD.out.1.on hb1, HD.out.2⟩)
  clear ho1 hb1
  have c0 := cell_of_row _ _ 0 _ _ _ HR.out
  have c1 := cell_of_row _ _ 1 _ _ _ HR.out
  have c2 := cell_of_row _ _ 2 _ _ _ HR.out
  simp at c0 c1 c2
  go_upto_region 4 with (go_at_call 20; refine (encode_no x y a1 n c1_ _ HOKS.out).mono ?_; rintro e y2 ⟨rfl, hb2⟩)
  clear c0 c1 c2
  replace HR := Lib.hid ((hb2.block _ (lt_heap HR.out)).trans HR.out)
  replace HB := Lib.hid (HB.out.trans (hb2.mono HB.out.size))
  replace HBA := Lib.hid (HBA.out.on hb2)
  replace HD := Lib.hid (show Dn _ a n c D from ⟨HD.out.1.on hb2, HD.out.2⟩)
  clear hb2 HT1
  have c0 := cell_of_row _ _ 0 _ _ _ HR.out
  have c1 := cell_of_row _ _ 1 _ _ _ HR.out
  have c2 := cell_of_row _ _ 2 _ _ _ HR.out
  simp at c0 c1 c2
  go_upto_region 5 with (go_at_call 22; refine (dencode_no x y a n c _ HOKS.out).mono ?_; rintro e y3 ⟨rfl, hb3⟩)
  clear c0 c1 c2
  replace HR := Lib.hid ((hb3.block _ (lt_heap HR.out)).trans HR.out)
  replace HB := Lib.hid (HB.out.trans (hb3.mono HB.out.size))
  replace HBA := Lib.hid (HBA.out.on hb3)
  replace HD := Lib.hid (show Dn _ a n c D from ⟨HD.out.1.on hb3, HD.out.2⟩)
  clear hb3
  go_upto_region 6 with (go_at_call 23; refine (decode_any ab nb cb lb _ HBA.out hnb).mono ?_; rintro e y4 ⟨g, dw, dh, Kn, DD, v4, hdec, rfl, hK, ho4, hb4⟩; obtain ⟨a4, c4_, hv4⟩ := own_slice ho4; subst hv4; replace hK := Lib.hid hK)
  replace HR := Lib.hid ((hb4.block _ (lt_heap HR.out)).trans HR.out)
  replace HB := Lib.hid (HB.out.trans (hb4.mono HB.out.size))
  replace HBA := Lib.hid (HBA.out.on hb4)
  replace HD := Lib.hid (show Dn _ a n c D from ⟨HD.out.1.on hb4, HD.out.2⟩)
  have hDl4 : DD.length = 3 * Kn := by have := ho4.1; rw [vals_length] at this; omega
  have HZD := Lib.hid (dt_own hDl4 ho4)
  have HDEC := Lib.hid hdec
  have HKB := Lib.hid (show Kn ≤ 5000 by rw [hK.out]; exact hdec.bound)
  have HKK := hK
  clear ho4 hb4 hdec hK hDl4
  have hr5 := heap_alloc_last y4 (.cells #[.int .i64 dw, .int .i64 dh, .slice a4 Kn c4_] 44)
  have hb5 := Ve.below_n1 y4 (.cells #[.int .i64 dw, .int .i64 dh, .slice a4 Kn c4_] 44)
  obtain ⟨y5, hy5⟩ : ∃ y5, y4.alloc (.cells #[.int .i64 dw, .int .i64 dh, .slice a4 Kn c4_] 44) = y5 := ⟨_, rfl⟩
  obtain ⟨p5, hp5⟩ : ∃ p, p = y4.heap.size := ⟨_, rfl⟩
  rw [hy5] at hr5 hb5 ⊢
  rw [← hp5] at hr5 ⊢
  clear hy5 hp5
  replace HR := Lib.hid ((hb5.block _ (lt_heap HR.out)).trans HR.out)
  replace HB := Lib.hid (HB.out.trans (hb5.mono HB.out.size))
  replace HBA := Lib.hid (HBA.out.on hb5)
  replace HZD := Lib.hid (HZD.out.on hb5)
  replace HD := Lib.hid (show Dn _ a n c D from ⟨HD.out.1.on hb5, HD.out.2⟩)
  have HZ := Lib.hid hr5
  clear hr5 hb5
  go_upto_region 7 with (go_at_call 24; refine (rdecode_any ab nb cb lb _ HBA.out hnb).mono ?_; rintro e y6 ⟨g', dw', dh', Kn', DD', v6, hdec', rfl, hK', ho6, hb6⟩; obtain ⟨a6, c6_, hv6⟩ := own_slice ho6; subst hv6; replace hK' := Lib.hid hK')
  obtain ⟨rfl, rfl, rfl, rfl⟩ := HDEC.out.one hdec'
  obtain rfl : Kn = Kn' := by rw [HKK.out, hK'.out]
  replace HR := Lib.hid ((hb6.block _ (lt_heap HR.out)).trans HR.out)
  replace HB := Lib.hid (HB.out.trans (hb6.mono HB.out.size))
  replace HBA := Lib.hid (HBA.out.on hb6)
  replace HZD := Lib.hid (HZD.out.on hb6)
  replace HZ := Lib.hid ((hb6.block _ (lt_heap HZ.out)).trans HZ.out)
  replace HD := Lib.hid (show Dn _ a n c D from ⟨HD.out.1.on hb6, HD.out.2⟩)
  have hDl6 : DD.length = 3 * Kn := by have := ho6.1; rw [vals_length] at this; omega
  have HWD := Lib.hid (dt_own hDl6 ho6)
  clear ho6 hb6 hdec' hK' hDl6
  have hr7 := heap_alloc_last y6 (.cells #[.int .i64 dw, .int .i64 dh, .slice a6 Kn c6_] 52)
  have hb7 := Ve.below_n1 y6 (.cells #[.int .i64 dw, .int .i64 dh, .slice a6 Kn c6_] 52)
  obtain ⟨y7, hy7⟩ : ∃ y7, y6.alloc (.cells #[.int .i64 dw, .int .i64 dh, .slice a6 Kn c6_] 52) = y7 := ⟨_, rfl⟩
  obtain ⟨p7, hp7⟩ : ∃ p, p = y6.heap.size := ⟨_, rfl⟩
  rw [hy7] at hr7 hb7 ⊢
  rw [← hp7] at hr7 ⊢
  clear hy7 hp7
  replace HR := Lib.hid ((hb7.block _ (lt_heap HR.out)).trans HR.out)
  replace HB := Lib.hid (HB.out.trans (hb7.mono HB.out.size))
  replace HBA := Lib.hid (HBA.out.on hb7)
  replace HZD := Lib.hid (HZD.out.on hb7)
  replace HZ := Lib.hid ((hb7.block _ (lt_heap HZ.out)).trans HZ.out)
  replace HWD := Lib.hid (HWD.out.on hb7)
  replace HD := Lib.hid (show Dn _ a n c D from ⟨HD.out.1.on hb7, HD.out.2⟩)
  have HV := Lib.hid hr7
  clear hr7 hb7
  have c0 := cell_of_row _ _ 0 _ _ _ HR.out
  have c1 := cell_of_row _ _ 1 _ _ _ HR.out
  have c2 := cell_of_row _ _ 2 _ _ _ HR.out
  simp at c0 c1 c2
  go_upto_region 8 with (go_at_call 25; refine (bytes_no x y HSZ.out _).mono ?_; rintro e y8 ⟨rfl, hb8⟩)
  clear c0 c1 c2
  replace HR := Lib.hid ((hb8.block _ (lt_heap HR.out)).trans HR.out)
  replace HB := Lib.hid (HB.out.trans (hb8.mono HB.out.size))
  replace HBA := Lib.hid (HBA.out.on hb8)
  replace HZD := Lib.hid (HZD.out.on hb8)
  replace HZ := Lib.hid ((hb8.block _ (lt_heap HZ.out)).trans HZ.out)
  replace HWD := Lib.hid (HWD.out.on hb8)
  replace HV := Lib.hid ((hb8.block _ (lt_heap HV.out)).trans HV.out)
  replace HD := Lib.hid (show Dn _ a n c D from ⟨HD.out.1.on hb8, HD.out.2⟩)
  clear hb8
  have hdr := fun w => drsize_any x y w
  rw [decide_eq_false HSZ.out] at hdr
  have c0 := cell_of_row _ _ 0 _ _ _ HR.out
  have c1 := cell_of_row _ _ 1 _ _ _ HR.out
  have c2 := cell_of_row _ _ 2 _ _ _ HR.out
  simp at c0 c1 c2
  go_upto_region 10 with (go_at_call 26; refine (hdr _).mono ?_; rintro e y9 ⟨rfl, rfl⟩)
  clear c0 c1 c2
  have hpr := fun a' c' w => pright_any x y a' n c' w
  have hdp := fun w => dpright_any x y a n c w
  rw [decide_eq_false HOKS.out] at hdp
  simp only [decide_eq_false HOKS.out] at hpr
  have hS00 : Below y9.heap.size y9 y9.drew := (Below.refl _ y9).drew
  refine wp_region_held_drew (S := Below y9.heap.size y9) (by kernel_rfl) (hS00) (fun hS0 => ?_)
  refine wpAnyH_ready (rs := [0]) (by kernel_rfl) (by simp) ?_
  refine AllReadyH.cons rfl (fun K hK => ?_) AllReadyH.nil
  go_simp
  go_wp2_with (go_at_call 7; refine (awake_any _).mono ?_; rintro e z1 ⟨rfl, hb1⟩)
  have hS1_ := hS0.trans (hb1.mono hS0.size)
  clear hb1
  refine hK.out _ _ (hS1_) (fun hS1 => ?_)
  clear hK K
  refine wpAnyH_take (i := 1) (v := ?_) rfl (by kernel_rfl) (by kernel_rfl) (by kernel_rfl) (fun _ _ _ h => h) (Or.inl ⟨by kernel_rfl, by (intro wz hSz; go_simp; try with_reducible rfl)⟩) hS1 ?_
  go_simp
  refine wpAnyH_take (i := 2) (v := ?_) rfl (by kernel_rfl) (by kernel_rfl) (by kernel_rfl) (fun _ _ _ h => h) (Or.inl ⟨by kernel_rfl, by (intro wz hSz; go_simp; try with_reducible rfl)⟩) hS1 ?_
  go_simp
  refine wpAnyH_take (i := 3) (v := ?_) rfl (by kernel_rfl) (by kernel_rfl) (by kernel_rfl) (fun _ _ _ h => h) (Or.inl ⟨by kernel_rfl, by (intro wz hSz; go_simp; try with_reducible rfl)⟩) hS1 ?_
  go_simp
  refine wpAnyH_take (i := 4) (v := ?_) rfl (by kernel_rfl) (by kernel_rfl) (by kernel_rfl) (fun _ _ _ h => h) (Or.inl ⟨by kernel_rfl, by (intro wz hSz; go_simp; try with_reducible rfl)⟩) hS1 ?_
  go_simp
  refine wpAnyH_take (i := 5) (v := ?_) rfl (by kernel_rfl) (by kernel_rfl) (by kernel_rfl) (fun _ _ _ h => h) (Or.inl ⟨by kernel_rfl, by (intro wz hSz; go_simp; try with_reducible rfl)⟩) hS1 ?_
  go_simp
  refine wpAnyH_take (i := 6) (v := ?_) rfl (by kernel_rfl) (by kernel_rfl) (by kernel_rfl) (fun _ _ _ h => h) (Or.inl ⟨by kernel_rfl, by (intro wz hSz; go_simp; try with_reducible rfl)⟩) hS1 ?_
  go_simp
  refine wpAnyH_take (i := 7) (v := ?_) rfl (by kernel_rfl) (by kernel_rfl) (by kernel_rfl) (fun _ _ _ h => h) (Or.inl ⟨by kernel_rfl, by (intro wz hSz; go_simp; try with_reducible rfl)⟩) hS1 ?_
  go_simp
  refine wpAnyH_take (i := 8) (v := ?_) rfl (by kernel_rfl) (by kernel_rfl) (by kernel_rfl) (fun _ _ _ h => h) (Or.inl ⟨by kernel_rfl, by (intro wz hSz; go_simp; try with_reducible rfl)⟩) hS1 ?_
  go_simp
  refine wpAnyH_take (i := 9) (v := ?_) rfl (by kernel_rfl) (by kernel_rfl) (by kernel_rfl) (fun _ _ _ h => h) (Or.inl ⟨by kernel_rfl, by (intro wz hSz; go_simp; try with_reducible rfl)⟩) hS1 ?_
  go_simp
  refine wpAnyH_take (i := 10) (v := ?_) rfl (by kernel_rfl) (by kernel_rfl) (by kernel_rfl) (fun _ _ _ h => h) (Or.inl ⟨by kernel_rfl, by (intro wz hSz; go_simp; try with_reducible rfl)⟩) hS1 ?_
  go_simp
  refine wpAnyH_take (i := 11) (v := ?_) rfl (by kernel_rfl) (by kernel_rfl) (by kernel_rfl) (fun _ _ _ h => h) (Or.inl ⟨by kernel_rfl, by (intro wz hSz; go_simp; try with_reducible rfl)⟩) hS1 ?_
  go_simp
  refine wpAnyH_take (i := 12) (v := ?_) rfl (by kernel_rfl) (by kernel_rfl) (by kernel_rfl) (fun _ _ _ h => h) (Or.inl ⟨by kernel_rfl, by (intro wz hSz; go_simp; try with_reducible rfl)⟩) hS1 ?_
  go_simp
  refine wpAnyH_take (i := 13) (v := ?_) rfl (by kernel_rfl) (by kernel_rfl) (by kernel_rfl) (fun _ _ _ h => h) (Or.inl ⟨by kernel_rfl, by (intro wz hSz; go_simp; try with_reducible rfl)⟩) hS1 ?_
  go_simp
  refine wpAnyH_take (i := 14) (v := ?_) rfl (by kernel_rfl) (by kernel_rfl) (by kernel_rfl) (fun _ _ _ h => h) (Or.inl ⟨by kernel_rfl, by (intro wz hSz; go_simp; try with_reducible rfl)⟩) hS1 ?_
  go_simp
  refine wpAnyH_take (i := 15) (v := ?_) rfl (by kernel_rfl) (by kernel_rfl) (by kernel_rfl) (fun _ _ _ h => h) (Or.inl ⟨by kernel_rfl, by (intro wz hSz; go_simp; try with_reducible rfl)⟩) hS1 ?_
  go_simp
  refine wpAnyH_take (i := 16) (v := ?_) rfl (by kernel_rfl) (by kernel_rfl) (by kernel_rfl) (fun _ _ _ h => h) (Or.inl ⟨by kernel_rfl, by (intro wz hSz; go_simp; try with_reducible rfl)⟩) hS1 ?_
  go_simp
  refine wpAnyH_take (i := 17) (v := ?_) rfl (by kernel_rfl) (by kernel_rfl) (by kernel_rfl) (fun _ _ _ h => h) (Or.inl ⟨by kernel_rfl, by (intro wz hSz; go_simp; try with_reducible rfl)⟩) hS1 ?_
  go_simp
  refine wpAnyH_take (i := 18) (v := ?_) rfl (by kernel_rfl) (by kernel_rfl) (by kernel_rfl) (fun _ _ _ h => h) (Or.inl ⟨by kernel_rfl, by (intro wz hSz; go_simp; try with_reducible rfl)⟩) hS1 ?_
  go_simp
  refine wpAnyH_take (i := 19) (v := ?_) rfl (by kernel_rfl) (by kernel_rfl) (by kernel_rfl) (fun _ _ _ h => h) (Or.inl ⟨by kernel_rfl, by (intro wz hSz; have hc_ := (hSz.block _ (lt_heap HZ.out)).trans HZ.out; have cq0 := cell_of_row _ _ 0 _ _ _ hc_; have cq1 := cell_of_row _ _ 1 _ _ _ hc_; have cq2 := cell_of_row _ _ 2 _ _ _ hc_; simp at cq0 cq1 cq2; go_simp; try with_reducible rfl)⟩) hS1 ?_
  go_simp
  refine wpAnyH_take (i := 21) (v := ?_) rfl (by kernel_rfl) (by kernel_rfl) (by kernel_rfl) (fun _ _ _ h => h) (Or.inl ⟨by kernel_rfl, by (intro wz hSz; have hc_ := (hSz.block _ (lt_heap HV.out)).trans HV.out; have cq0 := cell_of_row _ _ 0 _ _ _ hc_; have cq1 := cell_of_row _ _ 1 _ _ _ hc_; have cq2 := cell_of_row _ _ 2 _ _ _ hc_; simp at cq0 cq1 cq2; go_simp; try with_reducible rfl)⟩) hS1 ?_
  go_simp
  refine wpAnyH_ready (rs := [20]) (by kernel_rfl) (by simp) ?_
  refine AllReadyH.cons rfl (fun K hK => ?_) AllReadyH.nil
  go_simp
  go_wp2_with (go_at_call 15; refine (from_any (dw : Int) (dh : Int) a4 Kn c4_ _).mono ?_; rintro e z2 ⟨rfl, hb2⟩)
  have hS2_ := hS1.trans (hb2.mono hS1.size)
  clear hb2
  refine hK.out _ _ (hS2_) (fun hS2 => ?_)
  clear hK K
  refine wpAnyH_ready (rs := [22]) (by kernel_rfl) (by simp) ?_
  refine AllReadyH.cons rfl (fun K hK => ?_) AllReadyH.nil
  go_simp
  go_wp2_with (go_at_call 14; refine (same_any (dw : Int) (dh : Int) Kn a4 a6 c4_ c6_ DD _ (HZD.out.on hS2) (HWD.out.on hS2) (by have := HKB.out; omega)).mono ?_; rintro e z3 ⟨rfl, hb3⟩)
  have hS3_ := hS2.trans (hb3.mono hS2.size)
  clear hb3
  refine hK.out _ _ (hS3_) (fun hS3 => ?_)
  clear hK K
  refine wpAnyH_take (i := 23) (v := ?_) rfl (by kernel_rfl) (by kernel_rfl) (by kernel_rfl) (fun _ _ _ h => h) (Or.inl ⟨by kernel_rfl, by (intro wz hSz; go_simp; try with_reducible rfl)⟩) hS3 ?_
  go_simp
  refine wpAnyH_take (i := 24) (v := ?_) rfl (by kernel_rfl) (by kernel_rfl) (by kernel_rfl) (fun _ _ _ h => h) (Or.inl ⟨by kernel_rfl, by (intro wz hSz; go_simp; try with_reducible rfl)⟩) hS3 ?_
  go_simp
  refine wpAnyH_take (i := 25) (v := ?_) rfl (by kernel_rfl) (by kernel_rfl) (by kernel_rfl) (fun _ _ _ h => h) (Or.inl ⟨by kernel_rfl, by (intro wz hSz; have hc_ := (hSz.block _ (lt_heap HR.out)).trans HR.out; have cq0 := cell_of_row _ _ 0 _ _ _ hc_; have cq1 := cell_of_row _ _ 1 _ _ _ hc_; have cq2 := cell_of_row _ _ 2 _ _ _ hc_; simp at cq0 cq1 cq2; go_simp; try with_reducible rfl)⟩) hS3 ?_
  go_simp
  refine wpAnyH_take (i := 28) (v := ?_) rfl (by kernel_rfl) (by kernel_rfl) (by kernel_rfl) (fun _ _ _ h => h) (Or.inl ⟨by kernel_rfl, by (intro wz hSz; have hc_ := (hSz.block _ (lt_heap HR.out)).trans HR.out; have cq0 := cell_of_row _ _ 0 _ _ _ hc_; have cq1 := cell_of_row _ _ 1 _ _ _ hc_; have cq2 := cell_of_row _ _ 2 _ _ _ hc_; simp at cq0 cq1 cq2; go_simp; try with_reducible rfl)⟩) hS3 ?_
  go_simp
  refine wpAnyH_ready (rs := [26]) (by kernel_rfl) (by simp) ?_
  refine AllReadyH.cons rfl (fun K hK => ?_) AllReadyH.nil
  go_simp
  go_wp2_with (go_at_call 21; refine (to_any x y a n c D _ ⟨HD.out.1.on hS3, HD.out.2⟩ hn).mono ?_; rintro e z4 ⟨⟨v4, rfl, ho4⟩, hb4⟩; obtain ⟨at_, ct_, hv4⟩ := own_slice ho4; subst hv4; clear ho4)
  have hS4_ := hS3.trans (hb4.mono hS3.size)
  clear hb4
  refine hK.out _ _ (hS4_) (fun hS4 => ?_)
  clear hK K
  refine wpAnyH_ready (rs := [27]) (by kernel_rfl) (by simp) ?_
  refine AllReadyH.cons rfl (fun K hK => ?_) AllReadyH.nil
  go_simp
  go_wp2_with (go_at_call 17; refine (hpr at_ ct_ _).mono ?_; rintro e z5 ⟨rfl, hb5⟩)
  have hS5_ := hS4.trans (hb5.mono hS4.size)
  clear hb5
  refine hK.out _ _ (hS5_) (fun hS5 => ?_)
  clear hK K
  refine wpAnyH_ready (rs := [29]) (by kernel_rfl) (by simp) ?_
  refine AllReadyH.cons rfl (fun K hK => ?_) AllReadyH.nil
  go_simp
  go_wp2_with (go_at_call 27; refine (hdp _).mono ?_; rintro e z6 ⟨rfl, hb6⟩)
  have hS6_ := hS5.trans (hb6.mono hS5.size)
  clear hb6
  refine hK.out _ _ (hS6_) (fun hS6 => ?_)
  clear hK K
  refine wpAnyH_take (i := 30) (v := ?_) rfl (by kernel_rfl) (by kernel_rfl) (by kernel_rfl) (fun _ _ _ h => h) (Or.inl ⟨by kernel_rfl, by (intro wz hSz; go_simp; try with_reducible rfl)⟩) hS6 ?_
  go_simp
  refine wpAnyH_take (i := 31) (v := ?_) rfl (by kernel_rfl) (by kernel_rfl) (by kernel_rfl) (fun _ _ _ h => h) (Or.inl ⟨by kernel_rfl, by (intro wz hSz; go_simp; try with_reducible rfl)⟩) hS6 ?_
  go_simp
  refine wpAnyH_take (i := 32) (v := ?_) rfl (by kernel_rfl) (by kernel_rfl) (by kernel_rfl) (fun _ _ _ h => h) (Or.inl ⟨by kernel_rfl, by (intro wz hSz; go_simp; try with_reducible rfl)⟩) hS6 ?_
  go_simp
  refine wpAnyH_done (by kernel_rfl) ?_ _
  have HFB := Lib.hid (HB.out.trans (hS6.mono HB.out.size))
  go_wp2
  go_ret
  exact ⟨rfl, HFB.out⟩

end Go.Proofs.YtcohehekkeeeoaaDoor.Pg
