/- Layer 22, the document's tables: cube roots, bit by bit. -/
import Derived.Test.YtndpidmbfdpiaaaDoorK38
import Derived.Test.YtndpidmbfdpiaaaDoorK19
namespace Go.Proofs.YtndpidmbfdpiaaaDoor.Se
open Go Go.RowKit Go.Proofs.YtndpidmbfdpiaaaDoor Go.Proofs.YtndpidmbfdpiaaaDoor.Au Go.Proofs.YtndpidmbfdpiaaaDoor.Re
set_option linter.unusedVariables false
set_option linter.unusedSimpArgs false

theorem own_all {w : World} {base : Nat} {a : Option Addr} {n c : Nat} {l : List Nat} (h : w.ownsRow base 61 1 (.slice a n c) n (us l)) (hn : 0 < n) : ∃ q, a = some ⟨q, 0, none⟩ ∧ q < w.heap.size ∧ ∀ j, j < n → w.cell? ⟨q, j, none⟩ = some (.int .u64 (l.getD j 0 : Nat)) := by
  obtain ⟨q, rfl, -, hq, -⟩ := own_us h hn
  exact ⟨q, rfl, hq, fun j hj => by
    obtain ⟨q', e, -, -, hc, -⟩ := own_us h hj
    cases e
    exact hc⟩

def cubL (x : Nat) : List Nat := pout (pout (spl x 4) (spl x 4) 4) (spl x 4) 8

def wantL (n : Nat) : List Nat := (List.replicate 12 0).set 6 n

def cmpD (c w : List Nat) : Nat → Bool
  | 0 => true
  | i + 1 => if c.getD i 0 = w.getD i 0 then cmpD c w i else decide (c.getD i 0 < w.getD i 0)

def thirdB (x n : Nat) : Bool := cmpD (cubL x) (wantL n) 12

theorem pin_len (ai : Nat) (b : List Nat) (i : Nat) (o : List Nat) : ∀ k, (pin ai b i o k).1.length = o.length
  | 0 => rfl
  | k + 1 => by simp only [pin, List.length_set]; exact pin_len ai b i o k

theorem pout_len (a b : List Nat) : ∀ i, (pout a b i).length = a.length + b.length
  | 0 => by simp [pout]
  | i + 1 => by simp only [pout, List.length_set, pin_len]; exact pout_len a b i

set_option maxHeartbeats 8000000 in
set_option maxRecDepth 100000 in
theorem third_any (x n : Nat) (w : World) (hx : x < 18446744073709551616) : Calls Tryd.prog 37 #[.int .u64 (x : Int), .int .u64 (n : Int)] w fun e w' => e = .returned (.bool (thirdB x n)) ∧ Below w.heap.size w w' := by
  obtain ⟨i0, hi, hz0, hz1, hz2⟩ := info_parts infoLong
  go_enter Tryd.func37, Tryd.ntmps37
  go_wp2_with fail
  refine (split_any x _ hx).mono ?_
  rintro e y1 ⟨⟨v1, rfl, ho1⟩, hb1⟩
  obtain ⟨a1, c1, rfl⟩ := own_formU ho1
  have HO1 := Lib.hid ho1
  have HU1 := Lib.hid hb1
  clear ho1 hb1
  go_wp2_with fail
  refine (split_any x _ hx).mono ?_
  rintro e y2 ⟨⟨v2, rfl, ho2⟩, hb2⟩
  obtain ⟨a2, c2, rfl⟩ := own_formU ho2
  obtain ⟨q1, ha1, hq1, hc1⟩ := own_all (Ls.own_below HO1.out hb2) (by decide)
  obtain ⟨q2, ha2, hq2, hc2⟩ := own_all ho2 (by decide)
  subst ha1
  subst ha2
  have HC1 := Lib.hid hc1
  have HC2 := Lib.hid hc2
  have HU2 := Lib.hid (HU1.out.trans (hb2.mono HU1.out.size))
  clear ho2 hb2 hc1 hc2 HO1 HU1
  go_wp2_with fail
  refine (product_any q1 q2 c1 c2 4 4 8 (spl x 4) (spl x 4) _ (by rw [spl_len]) (by rw [spl_len]) rfl (by decide) (by decide) (by decide) HC1.out HC2.out).mono ?_
  rintro e y3 ⟨⟨v3, rfl, ho3⟩, hb3⟩
  obtain ⟨a3, c3, rfl⟩ := own_formU ho3
  have HO3 := Lib.hid ho3
  have HU3 := Lib.hid (HU2.out.trans (hb3.mono HU2.out.size))
  clear ho3 hb3 HC1 HC2 HU2 hq1 hq2
  go_wp2_with fail
  refine (split_any x _ hx).mono ?_
  rintro e y4 ⟨⟨v4, rfl, ho4⟩, hb4⟩
  obtain ⟨a4, c4, rfl⟩ := own_formU ho4
  obtain ⟨q3, ha3, hq3, hc3⟩ := own_all (Ls.own_below HO3.out hb4) (by decide)
  obtain ⟨q4, ha4, hq4, hc4⟩ := own_all ho4 (by decide)
  subst ha3
  subst ha4
  have HC3 := Lib.hid hc3
  have HC4 := Lib.hid hc4
  have HU4 := Lib.hid (HU3.out.trans (hb4.mono HU3.out.size))
  clear ho4 hb4 hc3 hc4 HO3 HU3
  go_wp2_with fail
  refine (product_any q3 q4 c3 c4 8 4 12 (pout (spl x 4) (spl x 4) 4) (spl x 4) _ (by rw [pout_len, spl_len]) (by rw [spl_len]) rfl (by decide) (by decide) (by decide) HC3.out HC4.out).mono ?_
  rintro e y5 ⟨⟨v5, rfl, ho5⟩, hb5⟩
  obtain ⟨a5, c5, rfl⟩ := own_formU ho5
  have HO5 := Lib.hid (show y5.ownsRow y4.heap.size 61 1 (.slice a5 12 c5) 12 (us (cubL x)) from ho5)
  have HU5 := Lib.hid (HU4.out.trans (hb5.mono HU4.out.size))
  clear ho5 hb5 HC3 HC4 HU4 hq3 hq4
  go_upto_region 4 with (at_make; refine wpList_make_full y5 rfl _ _ 58 rfl y5.heap.size 61 i0 (.int .u64 0) 1 Tryd.underlying58 hi hz0 hz1 .i64 .i64 _ _ 12 rfl rfl rfl rfl (by rw [hz2]; omega) (by unfold maxLen; omega) (Nat.le_refl _) ?_)
  intro y6 hown hgrow
  have hb6 : Below y5.heap.size y5 y6 := (Below.refl _ _).grown hgrow (Nat.le_refl _) (fun q hq => by cases hq)
  have ho6 : y6.ownsRow y5.heap.size 61 1 (.slice (some ⟨y5.heap.size, 0, none⟩) 12 12) 12 (us (List.replicate 12 0)) := by
    have e : us (List.replicate 12 0) = List.replicate 12 (.int .u64 0) := by simp [us]
    rw [e]; simpa [toList_madeCells_one] using hown
  obtain ⟨qc, hac, hqc, hcc⟩ := own_all (Ls.own_below HO5.out hb6) (by decide)
  subst hac
  have hqc5 : qc < y5.heap.size := by
    obtain ⟨q', e, h, -⟩ := own_all HO5.out (by decide)
    cases e
    exact h
  obtain ⟨q, hq, -, hql, h6c, h6f, h6p⟩ := own_us ho6 (j := 6) (by decide)
  cases hq
  obtain ⟨qw, hqw⟩ : ∃ q, q = y5.heap.size := ⟨_, rfl⟩
  rw [← hqw] at h6c h6f h6p hql ⊢
  have hne : qc ≠ qw := by omega
  have hwq : w.heap.size ≤ qw := by have := HU5.out.size; omega
  have HP6 := Lib.hid (h6p n)
  have HCC := Lib.hid hcc
  have HU6 := Lib.hid (HU5.out.trans (hb6.mono HU5.out.size))
  clear hown hgrow ho6 hb6 hcc h6p hqw hqc5 HO5 HU5
  go_upto_region 4 with fail
  go_wp2_with fail
  obtain ⟨y7, hy7⟩ : ∃ y, y6.setCell ⟨qw, 6, none⟩ (.int .u64 (n : Int)) = y := ⟨_, rfl⟩
  have hA7 : Aw (fun z => z ≠ qw) y6 y7 := by rw [← hy7]; exact (Aw.refl _ _).set (fun h => h rfl) _ _
  have HCW := Lib.hid (show ∀ j, j < 12 → y7.cell? ⟨qw, j, none⟩ = some (.int .u64 ((wantL n).getD j 0 : Nat)) from fun j hj => by
    obtain ⟨q', e, -, h⟩ := own_all HP6.out (by decide)
    cases e
    rw [← hy7]
    exact h j hj)
  have HCD := Lib.hid (show ∀ j, j < 12 → y7.cell? ⟨qc, j, none⟩ = some (.int .u64 ((cubL x).getD j 0 : Nat)) from fun j hj => (hA7.cell (p := ⟨qc, j, none⟩) hne hqc).trans (HCC.out j hj))
  have HU7 := Lib.hid (show Below w.heap.size w y7 by rw [← hy7]; exact HU6.out.setCell hwq _)
  rw [hy7]
  have hqc7 : qc < y7.heap.size := Nat.lt_of_lt_of_le hqc hA7.size
  have hqw7 : qw < y7.heap.size := Nat.lt_of_lt_of_le hql hA7.size
  clear hy7 hA7 HP6 HCC HU6 hqc hql h6c h6f
  go_loopw [8] (fun iv wr => ∃ (i : Nat) (z : Int), i ≤ 12 ∧ iv = .int .i64 z ∧ z = (i : Int) - 1 ∧ Hid (thirdB x n = cmpD (cubL x) (wantL n) i) ∧ Hid (Below y7.heap.size y7 wr)) (fun iv _ => (intOf iv + 1).toNat)
  case atStart => exact ⟨12, 11, by omega, by first | rfl | go_num, by omega, Lib.hid (by unfold thirdB; rfl), Lib.hid (Below.refl _ _)⟩
  case round =>
    obtain ⟨i, z, hi12, rfl, hz, HE, HW⟩ := hrel
    rcases Nat.eq_zero_or_pos i with hi0 | hi0
    · subst hi0
      have hz0' : ¬ 0 ≤ z := by omega
      go_wp2_with fail
      go_ret
      exact ⟨by rw [HE.out]; simp [cmpD], HU7.out.trans (HW.out.mono HU7.out.size)⟩
    · obtain ⟨m, rfl⟩ : ∃ m, i = m + 1 := ⟨i - 1, by omega⟩
      have hzm : z = (m : Int) := by omega
      subst hzm
      have hm0 : 0 ≤ (m : Int) := by omega
      have hm12 : (m : Int) < 12 := by omega
      obtain ⟨cm, hcm⟩ : ∃ c, c = (cubL x).getD m 0 := ⟨_, rfl⟩
      obtain ⟨wm, hwm⟩ : ∃ c, c = (wantL n).getD m 0 := ⟨_, rfl⟩
      have hcc : wr.cell? ⟨qc, m, none⟩ = some (.int .u64 (cm : Int)) := by
        rw [HW.out.cell (p := ⟨qc, m, none⟩) hqc7, hcm]; exact HCD.out m (by omega)
      have hcw : wr.cell? ⟨qw, m, none⟩ = some (.int .u64 (wm : Int)) := by
        rw [HW.out.cell (p := ⟨qw, m, none⟩) hqw7, hwm]; exact HCW.out m (by omega)
      have HS := Lib.hid (show thirdB x n = if cm = wm then cmpD (cubL x) (wantL n) m else decide (cm < wm) by rw [HE.out]; simp only [cmpD]; rw [← hcm, ← hwm])
      clear hcm hwm hz HE
      go_wp2_with fail
      refine wp_region_held_drew (S := fun y => y.cell? ⟨qc, m, none⟩ = some (.int .u64 (cm : Int)) ∧ y.cell? ⟨qw, m, none⟩ = some (.int .u64 (wm : Int))) (by kernel_rfl) (⟨hcc, hcw⟩) (fun hS0 => ?_)
      refine wpAnyH_take (i := 0) (v := ?_) rfl (by kernel_rfl) (by kernel_rfl) (by kernel_rfl) (fun _ _ _ h => h) (Or.inl ⟨by kernel_rfl, by (intro wz hSz; go_simp; try with_reducible rfl)⟩) hS0 ?_
      go_simp
      refine wpAnyH_take (i := 1) (v := ?_) rfl (by kernel_rfl) (by kernel_rfl) (by kernel_rfl) (fun _ _ _ h => h) (Or.inl ⟨by kernel_rfl, by (intro wz hSz; go_simp; try with_reducible rfl)⟩) hS0 ?_
      go_simp
      refine wpAnyH_take (i := 2) (v := ?_) rfl (by kernel_rfl) (by kernel_rfl) (by kernel_rfl) (fun _ _ _ h => h) (Or.inl ⟨by kernel_rfl, by (intro wz hSz; go_simp; try with_reducible rfl)⟩) hS0 ?_
      go_simp
      refine wpAnyH_take (i := 3) (v := ?_) rfl (by kernel_rfl) (by kernel_rfl) (by kernel_rfl) (fun _ _ _ h => h) (Or.inl ⟨by kernel_rfl, by (intro wz hSz; have c0 := hSz.1; have c1 := hSz.2; go_simp; try with_reducible rfl)⟩) hS0 ?_
      go_simp
      refine wpAnyH_take (i := 4) (v := ?_) rfl (by kernel_rfl) (by kernel_rfl) (by kernel_rfl) (fun _ _ _ h => h) (Or.inl ⟨by kernel_rfl, by (intro wz hSz; go_simp; try with_reducible rfl)⟩) hS0 ?_
      go_simp
      refine wpAnyH_take (i := 5) (v := ?_) rfl (by kernel_rfl) (by kernel_rfl) (by kernel_rfl) (fun _ _ _ h => h) (Or.inl ⟨by kernel_rfl, by (intro wz hSz; go_simp; try with_reducible rfl)⟩) hS0 ?_
      go_simp
      refine wpAnyH_take (i := 6) (v := ?_) rfl (by kernel_rfl) (by kernel_rfl) (by kernel_rfl) (fun _ _ _ h => h) (Or.inl ⟨by kernel_rfl, by (intro wz hSz; go_simp; try with_reducible rfl)⟩) hS0 ?_
      go_simp
      refine wpAnyH_take (i := 7) (v := ?_) rfl (by kernel_rfl) (by kernel_rfl) (by kernel_rfl) (fun _ _ _ h => h) (Or.inl ⟨by kernel_rfl, by (intro wz hSz; have c0 := hSz.1; have c1 := hSz.2; go_simp; try with_reducible rfl)⟩) hS0 ?_
      go_simp
      refine wpAnyH_take (i := 8) (v := ?_) rfl (by kernel_rfl) (by kernel_rfl) (by kernel_rfl) (fun _ _ _ h => h) (Or.inl ⟨by kernel_rfl, by (intro wz hSz; go_simp; try with_reducible rfl)⟩) hS0 ?_
      go_simp
      refine wpAnyH_done (by kernel_rfl) ?_ _
      obtain ⟨y8, hy8⟩ : ∃ y, wr.drew = y := ⟨_, rfl⟩
      have hc8 : y8.cell? ⟨qc, m, none⟩ = some (.int .u64 (cm : Int)) := by rw [← hy8]; exact hcc
      have hw8 : y8.cell? ⟨qw, m, none⟩ = some (.int .u64 (wm : Int)) := by rw [← hy8]; exact hcw
      have HU8 := Lib.hid (show Below y7.heap.size y7 y8 by rw [← hy8]; exact HW.out.drew)
      rw [hy8]
      clear hy8 hcc hcw HW
      by_cases heq : cm = wm
      · have hbne : ((cm : Int) != (wm : Int)) = false := by rw [heq]; simp
        have HEQ := Lib.hid heq
        rw [hbne]
        clear hbne heq hc8 hw8
        obtain ⟨p1, hp1⟩ : ∃ p : Int, p = (m : Int) - 1 := ⟨_, rfl⟩
        have ep : (m : Int) - 1 = p1 := hp1.symm
        have wp_ : IntKind.i64.wrap p1 = p1 := by rw [IntKind.wrap_i64]; omega
        have HP1 := Lib.hid hp1
        clear hp1
        go_wp2_with fail
        go_roundw
        case rel => exact ⟨m, p1, by omega, rfl, HP1.out, Lib.hid (by rw [HS.out, if_pos HEQ.out]), HU8⟩
        case measure => have := HP1.out; simp [intOf]; omega
      · have hbne : ((cm : Int) != (wm : Int)) = true := by simp; omega
        have HNE := Lib.hid heq
        rw [hbne]
        clear hbne heq
        go_wp2_with fail
        refine wp_region_held_drew (S := fun y => y.cell? ⟨qc, m, none⟩ = some (.int .u64 (cm : Int)) ∧ y.cell? ⟨qw, m, none⟩ = some (.int .u64 (wm : Int))) (by kernel_rfl) (⟨hc8, hw8⟩) (fun hS0 => ?_)
        refine wpAnyH_take (i := 0) (v := ?_) rfl (by kernel_rfl) (by kernel_rfl) (by kernel_rfl) (fun _ _ _ h => h) (Or.inl ⟨by kernel_rfl, by (intro wz hSz; go_simp; try with_reducible rfl)⟩) hS0 ?_
        go_simp
        refine wpAnyH_take (i := 1) (v := ?_) rfl (by kernel_rfl) (by kernel_rfl) (by kernel_rfl) (fun _ _ _ h => h) (Or.inl ⟨by kernel_rfl, by (intro wz hSz; go_simp; try with_reducible rfl)⟩) hS0 ?_
        go_simp
        refine wpAnyH_take (i := 2) (v := ?_) rfl (by kernel_rfl) (by kernel_rfl) (by kernel_rfl) (fun _ _ _ h => h) (Or.inl ⟨by kernel_rfl, by (intro wz hSz; go_simp; try with_reducible rfl)⟩) hS0 ?_
        go_simp
        refine wpAnyH_take (i := 3) (v := ?_) rfl (by kernel_rfl) (by kernel_rfl) (by kernel_rfl) (fun _ _ _ h => h) (Or.inl ⟨by kernel_rfl, by (intro wz hSz; have c0 := hSz.1; have c1 := hSz.2; go_simp; try with_reducible rfl)⟩) hS0 ?_
        go_simp
        refine wpAnyH_take (i := 4) (v := ?_) rfl (by kernel_rfl) (by kernel_rfl) (by kernel_rfl) (fun _ _ _ h => h) (Or.inl ⟨by kernel_rfl, by (intro wz hSz; go_simp; try with_reducible rfl)⟩) hS0 ?_
        go_simp
        refine wpAnyH_take (i := 5) (v := ?_) rfl (by kernel_rfl) (by kernel_rfl) (by kernel_rfl) (fun _ _ _ h => h) (Or.inl ⟨by kernel_rfl, by (intro wz hSz; go_simp; try with_reducible rfl)⟩) hS0 ?_
        go_simp
        refine wpAnyH_take (i := 6) (v := ?_) rfl (by kernel_rfl) (by kernel_rfl) (by kernel_rfl) (fun _ _ _ h => h) (Or.inl ⟨by kernel_rfl, by (intro wz hSz; go_simp; try with_reducible rfl)⟩) hS0 ?_
        go_simp
        refine wpAnyH_take (i := 7) (v := ?_) rfl (by kernel_rfl) (by kernel_rfl) (by kernel_rfl) (fun _ _ _ h => h) (Or.inl ⟨by kernel_rfl, by (intro wz hSz; have c0 := hSz.1; have c1 := hSz.2; go_simp; try with_reducible rfl)⟩) hS0 ?_
        go_simp
        refine wpAnyH_take (i := 8) (v := ?_) rfl (by kernel_rfl) (by kernel_rfl) (by kernel_rfl) (fun _ _ _ h => h) (Or.inl ⟨by kernel_rfl, by (intro wz hSz; go_simp; try with_reducible rfl)⟩) hS0 ?_
        go_simp
        refine wpAnyH_take (i := 9) (v := ?_) rfl (by kernel_rfl) (by kernel_rfl) (by kernel_rfl) (fun _ _ _ h => h) (Or.inl ⟨by kernel_rfl, by (intro wz hSz; go_simp; try with_reducible rfl)⟩) hS0 ?_
        go_simp
        refine wpAnyH_done (by kernel_rfl) ?_ _
        obtain ⟨y9, hy9⟩ : ∃ y, y8.drew = y := ⟨_, rfl⟩
        have HU9 := Lib.hid (show Below y7.heap.size y7 y9 by rw [← hy9]; exact HU8.out.drew)
        rw [hy9]
        by_cases hlt : cm < wm
        · have hlt' : (cm : Int) < (wm : Int) := by omega
          go_wp2_with fail
          go_ret
          exact ⟨by rw [HS.out, if_neg HNE.out]; simp [hlt], HU7.out.trans (HU9.out.mono HU7.out.size)⟩
        · have hlt' : ¬ (cm : Int) < (wm : Int) := by omega
          go_wp2_with fail
          go_ret
          exact ⟨by rw [HS.out, if_neg HNE.out]; simp [hlt], HU7.out.trans (HU9.out.mono HU7.out.size)⟩

end Go.Proofs.YtndpidmbfdpiaaaDoor.Se
