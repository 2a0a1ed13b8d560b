/- DrumPlays: the walk. -/
import Derived.Test.YtjejghfeeonghaaDrx
import Derived.Test.YtjejghfeeonghaaLr
namespace Go.Proofs.Ytjejghfeeonghaa.drumPlaysW
open Go Go.RowKit Go.Maps Go.Proofs.Ytjejghfeeonghaa Go.Proofs.Ytjejghfeeonghaa.Au Go.Proofs.Ytjejghfeeonghaa.Re Go.Proofs.Ytjejghfeeonghaa.Dr
set_option linter.unusedVariables false
set_option linter.unusedSimpArgs false

theorem new_bad (n : Int) (w : World) (h : ¬ (1 ≤ n ∧ n ≤ 8192)) : Calls Try.prog 6 #[.int .i64 n] w fun e w' => e = .returned (.tuple #[.pointer none, .int .i64 1]) ∧ w = w' := by
  by_cases h1 : n < 1
  · have d1 : decide (n < 1) = true := decide_eq_true h1
    clear h
    go_enter Try.func6, Try.ntmps6
    go_wp2_with fail
    go_ret2
    exact ⟨rfl, rfl⟩
  · have d1 : decide (n < 1) = false := decide_eq_false h1
    have d2 : decide ((8192 : Int) < n) = true := decide_eq_true (by omega)
    clear h
    go_enter Try.func6, Try.ntmps6
    go_wp2_with fail
    go_ret2
    exact ⟨rfl, rfl⟩

theorem walk_bad (n : Int) (at_ : Int) (a : Option Addr) (len c : Nat) (w : World) (h : ¬ (1 ≤ n ∧ n ≤ 8192)) : Calls Try.prog 3 #[.int .i64 n, .slice a len c, .int .i64 at_] w fun e w' => e = .returned (.bool true) ∧ Below w.heap.size w w' := by
  have HH := Lib.hid h
  by_cases h1 : n < 1
  · have d1 : decide (n < 1) = true := decide_eq_true h1
    clear h
    go_enter Try.func3, Try.ntmps3
    go_wp2_with fail
    refine (new_bad n w HH.out).mono ?_
    rintro e y1 ⟨rfl, rfl⟩
    go_wp2_with fail
    refine (awake_any w).mono ?_
    rintro e y2 ⟨rfl, hb2⟩
    have HB2 := Lib.hid hb2
    clear hb2
    go_wp2_with fail
    go_ret
    exact ⟨rfl, HB2.out⟩
  · have d1 : decide (n < 1) = false := decide_eq_false h1
    have d2 : decide ((8192 : Int) < n) = true := decide_eq_true (by omega)
    clear h
    go_enter Try.func3, Try.ntmps3
    go_wp2_with fail
    refine (new_bad n w HH.out).mono ?_
    rintro e y1 ⟨rfl, rfl⟩
    go_wp2_with fail
    refine (awake_any w).mono ?_
    rintro e y2 ⟨rfl, hb2⟩
    have HB2 := Lib.hid hb2
    clear hb2
    go_wp2_with fail
    go_ret
    exact ⟨rfl, HB2.out⟩

set_option maxHeartbeats 16000000 in
set_option maxRecDepth 100000 in
theorem walk_good (bn : Nat) (at_ : Int) (a : Option Addr) (n c : Nat) (f : Nat → DOp) (w : World) (h1 : 1 ≤ bn) (h2 : bn ≤ 8192) (ha : OpsAt w a f n) (hb : n ≤ 140737488355328) : Calls Try.prog 3 #[.int .i64 bn, .slice a n c, .int .i64 at_] w fun e w' => e = .returned (.bool true) ∧ Below w.heap.size w w' := by
  have hzv := zeroVR
  have hzb := zeroV
  have hzs := ZB_size
  have hzo := zeroVO
  have hzos := ZO_size
  have HOPS := Lib.hid ha
  have d1 : decide ((bn : Int) < 1) = false := decide_eq_false (by omega)
  have d2 : decide ((8192 : Int) < (bn : Int)) = false := decide_eq_false (by omega)
  have d3 : decide (8192 < bn) = false := decide_eq_false (by omega)
  have d4 : ¬ (8192 : Int) < (bn : Int) := by omega
  have d5 : ¬ (bn : Int) < 1 := by omega
  clear ha
  go_enter Try.func3, Try.ntmps3
  go_wp2_with fail
  refine (new_any bn w h1 h2).mono ?_
  rintro e y1 ⟨⟨g, b, m, rfl, hg, hbb, hm, hd⟩, hb1⟩
  have HD1 := Lib.hid hd
  have HU1 := Lib.hid hb1
  clear hd hb1
  go_wp2_with fail
  refine (awake_any y1).mono ?_
  rintro e y2 ⟨rfl, hb2⟩
  have HD2 := Lib.hid (HD1.out.on hb2)
  have HU2 := Lib.hid (HU1.out.trans (hb2.mono HU1.out.size))
  clear hb2 HD1 HU1
  go_wp2_with fail
  refine (rnew_any bn y2 h1 h2).mono ?_
  rintro e y3 ⟨⟨h, rfl, hh, hr⟩, hb3⟩
  have hz2 := HU2.out.size
  have HB3 := Lib.hid (show Both y3 g b m h ⟨bn, 0, -1, false, List.replicate bn zB, []⟩ from ⟨HD2.out.on hb3, _, _, _, _, _, hr⟩)
  have HW3 := Lib.hid (Aw.of (S := Old w) (HU2.out.trans (hb3.mono hz2)))
  have HOW := Lib.hid (show ∀ j, Old w j → Far g b m h j from fun j hj => by unfold Old at hj; exact ⟨⟨by omega, by omega, by omega⟩, by omega⟩)
  have HNU := Lib.hid (show Nums ⟨bn, 0, -1, false, List.replicate bn zB, []⟩ 0 from ⟨by show (0:Int) ≤ 0; omega, by show (0:Int) ≤ _; omega, by show _ ≤ (-1 : Int); omega, by show (-1 : Int) < _; omega⟩)
  clear hr hb3 hz2 HD2 HU2 d1 d2 d3 d4 d5 hg hbb hm hh
  go_wp2_with fail
  go_loopw [50] (fun iv wr => ∃ (i : Nat) (s : Dst), i ≤ n ∧ i ≤ 60 ∧ iv = .int .i64 i ∧ Hid (Nums s i) ∧ Hid (Both wr g b m h s) ∧ Hid (Aw (Old w) w wr)) (fun iv _ => n - (intOf iv).toNat)
  case atStart => exact ⟨0, _, by omega, by omega, rfl, HNU, HB3, HW3⟩
  case round =>
    clear HNU HB3 HW3
    obtain ⟨i, s, hi, hi60, rfl, HNS, HB, HW⟩ := hrel
    by_cases hlt : i < n
    · have hlt' : (i : Int) < (n : Int) := by omega
      obtain ⟨ob, oo, hoa, hob, hops⟩ := (show ∃ ob oo, a = some ⟨ob, oo, none⟩ ∧ ob < w.heap.size ∧ ∀ k, k < n → OkOp w (f k) ∧ w.rangeAt ob (oo + k * 132) (OC (f k)) from by
        rcases HOPS.out with e | e
        · omega
        · exact e)
      subst hoa
      obtain ⟨hok, hrg⟩ := hops i hlt
      obtain ⟨o, ho⟩ : ∃ o, o = f i := ⟨_, rfl⟩
      rw [← ho] at hok hrg
      obtain ⟨kd, ps, nm, bk, ka, kl, kc, K⟩ := o
      obtain ⟨LO, HLO_⟩ : ∃ L, Hid (L = OC ⟨kd, ps, nm, bk, ka, kl, kc, K⟩) := ⟨_, Lib.hid rfl⟩
      have HRG := Lib.hid (show wr.rangeAt ob (oo + i * 132) LO from fun j v hv => by
        rw [HLO_.out] at hv
        have h1 := hrg j v hv
        exact (HW.out.cell (p := ⟨ob, oo + i * 132 + j, none⟩) hob hob).trans h1)
      have HOK := Lib.hid hok
      have hLl : LO.length = 132 := by rw [HLO_.out]; exact OC_len _ hok.b128
      have HIL := Lib.hid (show (Try.prog.info? 33).map (·.size) = some LO.length by rw [hLl]; kernel_rfl)
      have HIO := Lib.hid (show (Try.prog.info? 33).map (·.size) = some LO.toArray.size by simp only [List.size_toArray]; rw [hLl]; kernel_rfl)
      have HZO := Lib.hid (show ZO.size = LO.toArray.size by simp only [List.size_toArray]; rw [hLl]; exact ZO_size)
      have HOO_ := Lib.hid (show LO.toArray.all (·.oneCell') = true by
        refine all_oneCell_toArray fun u hu => ?_
        rw [HLO_.out] at hu
        unfold OC at hu
        rcases List.mem_append.1 hu with h | h
        · simp at h; rcases h with rfl | rfl | rfl <;> rfl
        · rcases List.mem_append.1 h with h | h
          · exact vals_one _ u h
          · simp at h; subst h; rfl)
      have HAL := Lib.hid (heap_alloc_last wr (.cells ZO 33))
      have hbn := Ve.below_n1 wr (.cells ZO 33)
      have HUx := below_setRow (g := wr.heap.size) hbn (Nat.le_refl _) LO.toArray
      have hN := setRow_heap _ (wr.heap.size) _ LO.toArray _ _ HAL.out
      obtain ⟨y4, hy4⟩ : ∃ y, (wr.alloc (.cells ZO 33)).setRow wr.heap.size LO.toArray = y := ⟨_, rfl⟩
      have HY4 := Lib.hid hy4
      rw [hy4] at HUx hN
      have HB4 := Lib.hid (HB.out.aw HUx)
      have HW1 := Lib.hid (HW.out.trans (Aw.of HUx))
      have hks : K = [] ∨ ∃ kb ko, ka = some ⟨kb, ko, none⟩ ∧ kb < y4.heap.size ∧ Far g b m h kb ∧ ∀ j, j < K.length → y4.cell? ⟨kb, ko + j, none⟩ = some (.int .i64 (K.getD j 0)) := by
        rcases hok.ks with e | ⟨kb, ko, e1, e2, e3⟩
        · exact .inl e
        · exact .inr ⟨kb, ko, e1, Nat.lt_of_lt_of_le e2 HW1.out.size, HOW.out kb e2, fun j hj => (HW1.out.cell (p := ⟨kb, ko + j, none⟩) e2 e2).trans (e3 j hj)⟩
      have HKS := Lib.hid (show KS y4 (Far g b m h) ka K from ⟨hok.kw, hks⟩)
      have HOK4 := Lib.hid (show OkOp y4 ⟨kd, ps, nm, bk, ka, kl, kc, K⟩ from ⟨hok.b128, hok.wk, hok.wp, hok.wn, hok.kl, hok.kw, by
        rcases hks with e | ⟨kb, ko, e1, e2, e3, e4⟩
        · exact .inl e
        · exact .inr ⟨kb, ko, e1, e2, e4⟩⟩)
      clear hok hrg hLl hy4 HUx hbn ho hops hob hks
      go_upto_region 10 with (first | (with_reducible refine wpList_load_mid rfl 33 (.tmp 53) rfl ob (oo + i * 132) rfl LO _ HRG.out Try.underlying33 rfl HIL.out ?_) | (refine Au.wpList_store_row rfl 33 (.tmp 11) (.tmp 54) rfl (wr.alloc (.cells ZO 33)) ZO LO.toArray wr.heap.size 33 HAL.out rfl rfl HIO.out HZO.out HOO_.out ?_))
      rw [HY4.out]
      obtain ⟨q, hq⟩ : ∃ q, q = wr.heap.size := ⟨_, rfl⟩
      rw [← hq] at hN ⊢
      have HQ := Lib.hid hN
      clear hq hN HAL HY4 HRG HIL HZO HOO_ HB HW
      have HB8 := Lib.hid HOK.out.b128
      have c131 : y4.cell? ⟨q, 131, none⟩ = some (.slice ka kl kc) := by
        have e : LO[131]? = some (.slice ka kl kc) := by
          rw [HLO_.out]
          unfold OC
          rw [List.getElem?_append_right (by simp), show 131 - ([Value.int .i64 kd, .int .i64 ps, .int .i64 nm] : List Value).length = 128 by simp, List.getElem?_append_right (by rw [vals_length, HB8.out]; omega), vals_length, HB8.out]
          rfl
        simp [World.cell?, HQ.out, e]
      by_cases h60 : i < 60
      · have h60' : ¬ (60 : Int) ≤ (i : Int) := by omega
        have d60 : decide ((60 : Int) ≤ (i : Int)) = false := by simp; omega
        by_cases hk60 : kl ≤ 60
        · have hk60' : ¬ (60 : Int) < (kl : Int) := by omega
          have dk60 : decide ((60 : Int) < (kl : Int)) = false := by simp; omega
          have HDO := Lib.hid (show Calls Try.prog 9 #[.pointer (some ⟨g, 0, none⟩), .pointer (some ⟨h, 0, none⟩), .agg LO.toArray] y4 fun e w' => e = .returned (.bool true) ∧ (∃ s', Both w' g b m h s' ∧ Nums s' (i + 1)) ∧ Aw (Far g b m h) y4 w' by
            rw [HLO_.out]
            exact does_any g b m h s i hi60 _ y4 HB4.out HNS.out HOK4.out hk60 HKS.out)
          go_wp2_with (with_reducible refine wpList_load_row rfl 33 (.tmp 11) rfl q rfl 33 LO.toArray (0, 0) _ HQ.out Try.underlying33 rfl HIO.out ?_)
          refine HDO.out.mono ?_
          rintro e y5 ⟨rfl, ⟨s5, hB5, hN5⟩, hA5⟩
          have HB5 := Lib.hid hB5
          have HN5 := Lib.hid hN5
          have HW5 := Lib.hid (HW1.out.trans (hA5.weak HOW.out))
          clear hB5 hN5 hA5 HDO HB4 HW1 HNS HOK4 HKS HLO_ HQ HIO c131
          go_wp2_with fail
          refine (is_any g b m h s5 y5 HB5.out).mono ?_
          rintro e y6 ⟨rfl, hb6⟩
          have HB6 := Lib.hid (HB5.out.aw hb6)
          have HW6 := Lib.hid (HW5.out.trans (Aw.of hb6))
          obtain ⟨s, hss⟩ : ∃ z, z = s5 := ⟨_, rfl⟩
          subst hss
          obtain ⟨hd6, aS, cS, aM, cM, S, hr6⟩ := HB6.out
          have HD6 := Lib.hid hd6
          have HR6 := Lib.hid hr6
          have HBR := Lib.hid (Below.refl y6.heap.size y6)
          clear hb6 HB5 HW5 HB6 hd6 hr6
          obtain ⟨x, hx⟩ : ∃ x, x = vRead s at_ := ⟨_, rfl⟩
          have hxl : x.length = 128 := by rw [hx]; exact vread_len HD6.out _
          obtain ⟨X, HX⟩ : ∃ R, Hid (R = (vals x).toArray) := ⟨_, Lib.hid rfl⟩
          have hXs : X.size = 128 := by rw [HX.out]; simp [vals_length]; exact hxl
          obtain ⟨ee, hee⟩ : ∃ e, e = eAt s at_ := ⟨_, rfl⟩
          have HIB := Lib.hid (infoTB hXs)
          have HIT := Lib.hid (infoT128 hXs)
          have HZZ := Lib.hid (show ZB.size = X.size by rw [hXs]; exact ZB_size)
          have HOO := Lib.hid (show X.all (·.oneCell') = true by rw [HX.out]; exact all_oneCell_toArray (vals_one _))
          have eq1 : ∀ W, (Op.equalIn 10000 36 (.agg X) (.agg X)).run Try.prog W = .ok true W := fun W => by rw [HX.out]; exact eq_blk x hxl W
          have HRD := Lib.hid (fun (W : World) (hW : DAt W g b m s) => show Calls Try.prog 11 #[.pointer (some ⟨g, 0, none⟩), .int .i64 at_] W fun e w' => e = .returned (.tuple #[.agg X, .int .i64 ee]) ∧ Below W.heap.size W w' by
            rw [HX.out, hx, hee]; exact read_any g b m s W hW at_)
          have HRR := Lib.hid (fun (W : World) aS cS aM cM S (hW : RAt W h aS cS aM cM S (tie s)) => show Calls Try.prog 12 #[.pointer (some ⟨h, 0, none⟩), .int .i64 at_] W fun e w' => e = .returned (.tuple #[.agg X, .int .i64 ee]) ∧ Below W.heap.size W w' by
            rw [HX.out, hx, hee]; exact rread_any h aS cS aM cM S (tie s) W hW at_)
          clear hx hxl hXs hee
          go_wp2_with fail
          refine (HRD.out y6 HD6.out).mono ?_
          rintro e z1 ⟨rfl, hb1⟩
          have HDa := Lib.hid (HD6.out.on hb1)
          have HRa := Lib.hid (HR6.out.on hb1)
          have hsz := HBR.out.size
          have HBa := Lib.hid (HBR.out.trans (hb1.mono hsz))
          clear hsz
          have HAL := Lib.hid (heap_alloc_last z1 (.cells ZB 36 ))
          have hbn := Ve.below_n1 z1 (.cells ZB 36 )
          have hbs := below_setRow (g := z1.heap.size) hbn (Nat.le_refl _) X
          have hQ := setRow_heap _ (z1.heap.size) _ X _ _ HAL.out
          obtain ⟨z2, hz2⟩ : ∃ y, (z1.alloc (.cells ZB 36 )).setRow z1.heap.size X = y := ⟨_, rfl⟩
          have HZ2 := Lib.hid hz2
          rw [hz2] at hbs hQ
          have HDb := Lib.hid (HDa.out.on hbs)
          have HRb := Lib.hid (HRa.out.on hbs)
          have HBb := Lib.hid (HBa.out.trans (hbs.mono HBa.out.size))
          clear hbn hbs hz2 hb1
          go_upto_region 14 with (refine Au.wpList_store_row rfl 36 (.tmp 12) (.tmp 78) rfl (z1.alloc (.cells ZB 36 )) ZB X z1.heap.size 36 HAL.out rfl rfl HIB.out HZZ.out HOO.out ?_)
          rw [HZ2.out]
          obtain ⟨q1, hq1⟩ : ∃ q, q = z1.heap.size := ⟨_, rfl⟩
          rw [← hq1] at hQ ⊢
          have HQ1 := Lib.hid hQ
          clear hQ hq1 HZ2 HAL HDa HRa HBa HD6 HR6 HBR
          go_wp2_with fail
          refine (HRR.out z2 _ _ _ _ _ HRb.out).mono ?_
          rintro e z3 ⟨rfl, hb3⟩
          have HDc := Lib.hid (HDb.out.on hb3)
          have HRc := Lib.hid (HRb.out.on hb3)
          have HBc := Lib.hid (HBb.out.trans (hb3.mono HBb.out.size))
          have HQ3 := Lib.hid ((hb3.block q1 (lt_heap HQ1.out)).trans HQ1.out)
          have HAL := Lib.hid (heap_alloc_last z3 (.cells ZB 30 ))
          have hbn := Ve.below_n1 z3 (.cells ZB 30 )
          have hbs := below_setRow (g := z3.heap.size) hbn (Nat.le_refl _) X
          have hQ := setRow_heap _ (z3.heap.size) _ X _ _ HAL.out
          obtain ⟨z4, hz4⟩ : ∃ y, (z3.alloc (.cells ZB 30 )).setRow z3.heap.size X = y := ⟨_, rfl⟩
          have HZ4 := Lib.hid hz4
          rw [hz4] at hbs hQ
          have HDd := Lib.hid (HDc.out.on hbs)
          have HRd := Lib.hid (HRc.out.on hbs)
          have HBd := Lib.hid (HBc.out.trans (hbs.mono HBc.out.size))
          have HQ4 := Lib.hid ((hbs.block q1 (lt_heap HQ3.out)).trans HQ3.out)
          clear hbn hbs hz4 hb3
          go_upto_region 15 with (refine Au.wpList_store_row rfl 30 (.tmp 14) (.tmp 84) rfl (z3.alloc (.cells ZB 30 )) ZB X z3.heap.size 30 HAL.out rfl rfl HIT.out HZZ.out HOO.out ?_)
          rw [HZ4.out]
          obtain ⟨q2, hq2⟩ : ∃ q, q = z3.heap.size := ⟨_, rfl⟩
          rw [← hq2] at hQ ⊢
          have HQ5 := Lib.hid hQ
          clear hQ hq2 HZ4 HAL HDb HRb HBb HDc HRc HBc HQ1 HQ3 HRD HRR
          go_wp2_with (first | (with_reducible refine load_want (by kernel_rfl) 36 (.tmp 12) rfl q1 rfl 36 X (0, 0) _ HQ4.out Try.underlying36 rfl HIB.out ?_) | (with_reducible refine load_want (by kernel_rfl) 30 (.tmp 14) rfl q2 rfl 30 X (0, 0) _ HQ5.out Try.underlying30 rfl HIT.out ?_))
          go_roundw
          case rel => exact ⟨i + 1, s, by omega, by omega, by go_num, HN5, Lib.hid ⟨HDd.out, _, _, _, _, _, HRd.out⟩, Lib.hid (HW6.out.trans (Aw.of HBd.out))⟩
          case measure => simp [intOf]; omega
        · have hk60' : (60 : Int) < (kl : Int) := by omega
          have dk60 : decide ((60 : Int) < (kl : Int)) = true := by simp; omega
          go_wp2_with fail
          go_ret
          exact ⟨rfl, HW1.out.below (fun j hj => hj) (Nat.le_refl _)⟩
      · have h60' : (60 : Int) ≤ (i : Int) := by omega
        have d60 : decide ((60 : Int) ≤ (i : Int)) = true := by simp; omega
        go_wp2_with fail
        go_ret
        exact ⟨rfl, HW1.out.below (fun j hj => hj) (Nat.le_refl _)⟩
    · have hge : ¬ (i : Int) < (n : Int) := by omega
      go_wp2_with fail
      go_ret
      exact ⟨rfl, HW.out.below (fun j hj => hj) (Nat.le_refl _)⟩

theorem walk (bn : Int) (a : Option Addr) (n c : Nat) (f : Nat → DOp) (at_ : Int) (w : World) (ha : OpsAt w a f n) (hb : n ≤ 140737488355328) : Calls Try.prog 3 #[.int .i64 bn, .slice a n c, .int .i64 at_] w fun e w' => e = .returned (.bool true) ∧ Below w.heap.size w w' := by
  by_cases h : 1 ≤ bn ∧ bn ≤ 8192
  · obtain ⟨k, rfl⟩ : ∃ k : Nat, bn = k := ⟨bn.toNat, by omega⟩
    exact walk_good k at_ a n c f w (by omega) (by omega) ha hb
  · exact walk_bad bn at_ a n c w h

end Go.Proofs.Ytjejghfeeonghaa.drumPlaysW
