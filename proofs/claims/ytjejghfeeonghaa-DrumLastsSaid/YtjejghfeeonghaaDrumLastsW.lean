/- DrumLasts: the walk. -/
import Derived.Test.YtjejghfeeonghaaDrj
import Derived.Test.YtjejghfeeonghaaLr
namespace Go.Proofs.Ytjejghfeeonghaa.drumLastsW
open Go Go.RowKit Go.Maps Go.Proofs.Ytjejghfeeonghaa Go.Proofs.Ytjejghfeeonghaa.Au Go.Proofs.Ytjejghfeeonghaa.Re Go.Proofs.Ytjejghfeeonghaa.Dr
set_option linter.unusedVariables false
set_option linter.unusedSimpArgs false

theorem aw_row {S : Nat → Prop} {b : Nat} {w : World} {R : Array Value} (hb : ¬ S b) : Aw S w (w.setRow b R) :=
  ⟨rfl, rfl, rfl, by simp [World.setRow], fun k hk hl => setRow_other _ _ _ _ (fun e => hb (e ▸ hk))⟩

set_option maxHeartbeats 16000000 in
set_option maxRecDepth 100000 in
theorem walk (a : Option Addr) (n c : Nat) (f : Nat → DOp) (w : World) (ha : OpsAt w a f n) (hb : n ≤ 140737488355328) : Calls Try.prog 4 #[.slice a n c] w fun e w' => e = .returned (.bool true) ∧ Below w.heap.size w w' := by
  have hzv := zeroV
  have hzs := ZB_size
  have hz6 := zeroV6
  have hz6s := Z6_size
  have hzo := zeroVO
  have hzos := ZO_size
  have HOPS := Lib.hid ha
  clear ha
  go_enter Try.func4, Try.ntmps4
  go_wp2_with fail
  refine (new_any 6 w (by decide) (by decide)).mono ?_
  rintro e y1 ⟨⟨g, b, m, rfl, hg, hbb, hm, hd⟩, hb1⟩
  have HD1 := Lib.hid (show DAt y1 g b m S6 from hd)
  have HU1 := Lib.hid hb1
  clear hd hb1
  go_wp2_with fail
  refine (awake_any y1).mono ?_
  rintro e y2 ⟨rfl, hb2⟩
  have HD2 := Lib.hid (HD1.out.on hb2)
  have HU2 := Lib.hid (HU1.out.trans (hb2.mono HU1.out.size))
  clear hb2 HD1 HU1
  go_upto_region 5 with fail
  have hR := Au.rows2 y2 (.cells Z6 42) (.cells Z6 42)
  have HUx := Ve.below_n2 y2 (.cells Z6 42) (.cells Z6 42)
  obtain ⟨y3, hy3⟩ : ∃ y, (y2.alloc (.cells Z6 42)).alloc (.cells Z6 42) = y := ⟨_, rfl⟩
  rw [hy3] at hR HUx ⊢
  obtain ⟨su, hsu⟩ : ∃ q, q = y2.heap.size := ⟨_, rfl⟩
  obtain ⟨la, hla⟩ : ∃ q, q = y2.heap.size + 1 := ⟨_, rfl⟩
  have hl2 := HD2.out.lt
  have hz2 := HU2.out.size
  rw [← hla] at hR ⊢
  rw [← hsu] at hR ⊢
  have HD3 := Lib.hid (HD2.out.on HUx)
  have HW3 := Lib.hid (Aw.of (S := Old w) (HU2.out.trans (HUx.mono hz2)))
  have HSU3 := Lib.hid (show y3.heap[su]? = some (.cells (rowL S6.L) 42 (0, 0)) from hR.1)
  have HLA3 := Lib.hid (show y3.heap[la]? = some (.cells (rowL (syncL S6.M S6.L)) 42 (0, 0)) by rw [s6_last]; exact hR.2)
  have hsl : su ≠ la := by omega
  have HSO := Lib.hid (show Off g b m su by exact ⟨by omega, by omega, by omega⟩)
  have HLO := Lib.hid (show Off g b m la by exact ⟨by omega, by omega, by omega⟩)
  have hwsu : w.heap.size ≤ su := by omega
  have hwla : w.heap.size ≤ la := by omega
  have HN3 := Lib.hid (show S6.n = 6 from rfl)
  have HNU := Lib.hid (show Nums S6 0 from ⟨by decide, by decide, by decide, by decide⟩)
  have HOW := Lib.hid (show ∀ j, Old w j → Off g b m j from fun j hj => by unfold Old at hj; exact ⟨by omega, by omega, by omega⟩)
  clear hR HUx hy3 hsu hla hl2 hz2 HD2 HU2
  go_wp2_with fail
  go_loopw [25] (fun iv wr => ∃ (i : Nat) (s : Dst), i ≤ n ∧ i ≤ 60 ∧ iv = .int .i64 i ∧ Hid (s.n = 6) ∧ Hid (Nums s i) ∧ Hid (DAt wr g b m s) ∧ Hid (wr.heap[su]? = some (.cells (rowL s.L) 42 (0, 0))) ∧ Hid (wr.heap[la]? = some (.cells (rowL (syncL s.M s.L)) 42 (0, 0))) ∧ Hid (Aw (Old w) w wr)) (fun iv _ => n - (intOf iv).toNat)
  case atStart => exact ⟨0, S6, by omega, by omega, rfl, HN3, HNU, HD3, HSU3, HLA3, HW3⟩
  case round =>
    obtain ⟨i, s, hi, hi60, rfl, HN, HNS, HD, HSU, HLA, HW⟩ := hrel
    by_cases hlt : i < n
    · have hlt' : (i : Int) < (n : Int) := by omega
      obtain ⟨ob, oo, hoa, hob, hops⟩ := (show ∃ ob oo, a = some ⟨ob, oo, none⟩ ∧ ob < w.heap.size ∧ ∀ k, k < n → OkOp w (f k) ∧ w.rangeAt ob (oo + k * 132) (OC (f k)) from by
        rcases HOPS.out with e | e
        · omega
        · exact e)
      subst hoa
      obtain ⟨hok, hrg⟩ := hops i hlt
      obtain ⟨o, ho⟩ : ∃ o, o = f i := ⟨_, rfl⟩
      rw [← ho] at hok hrg
      obtain ⟨kd, ps, nm, bk, ka, kl, kc, K⟩ := o
      obtain ⟨LO, HLO_⟩ : ∃ L, Hid (L = OC ⟨kd, ps, nm, bk, ka, kl, kc, K⟩) := ⟨_, Lib.hid rfl⟩
      have HRG := Lib.hid (show wr.rangeAt ob (oo + i * 132) LO from fun j v hv => by
        rw [HLO_.out] at hv
        have h1 := hrg j v hv
        exact (HW.out.cell (p := ⟨ob, oo + i * 132 + j, none⟩) hob hob).trans h1)
      have HOK := Lib.hid hok
      have hLl : LO.length = 132 := by rw [HLO_.out]; exact OC_len _ hok.b128
      have HIL := Lib.hid (show (Try.prog.info? 33).map (·.size) = some LO.length by rw [hLl]; kernel_rfl)
      have HIO := Lib.hid (show (Try.prog.info? 33).map (·.size) = some LO.toArray.size by simp only [List.size_toArray]; rw [hLl]; kernel_rfl)
      have HZO := Lib.hid (show ZO.size = LO.toArray.size by simp only [List.size_toArray]; rw [hLl]; exact ZO_size)
      have HOO := Lib.hid (show LO.toArray.all (·.oneCell') = true by
        refine all_oneCell_toArray fun u hu => ?_
        rw [HLO_.out] at hu
        unfold OC at hu
        rcases List.mem_append.1 hu with h | h
        · simp at h; rcases h with rfl | rfl | rfl <;> rfl
        · rcases List.mem_append.1 h with h | h
          · exact vals_one _ u h
          · simp at h; subst h; rfl)
      have HAL := Lib.hid (heap_alloc_last wr (.cells ZO 33))
      have hbn := Ve.below_n1 wr (.cells ZO 33)
      have HUx := below_setRow (g := wr.heap.size) hbn (Nat.le_refl _) LO.toArray
      have hN := setRow_heap _ (wr.heap.size) _ LO.toArray _ _ HAL.out
      obtain ⟨y4, hy4⟩ : ∃ y, (wr.alloc (.cells ZO 33)).setRow wr.heap.size LO.toArray = y := ⟨_, rfl⟩
      have HY4 := Lib.hid hy4
      rw [hy4] at HUx hN
      have HD4 := Lib.hid (HD.out.on HUx)
      have HSU4 := Lib.hid ((HUx.block su (lt_heap HSU.out)).trans HSU.out)
      have HLA4 := Lib.hid ((HUx.block la (lt_heap HLA.out)).trans HLA.out)
      have HW1 := Lib.hid (HW.out.trans (Aw.of HUx))
      have HKS := Lib.hid (show KS y4 (Off g b m) ka K from ⟨hok.kw, by
        rcases hok.ks with e | ⟨kb, ko, e1, e2, e3⟩
        · exact .inl e
        · exact .inr ⟨kb, ko, e1, Nat.lt_of_lt_of_le e2 HW1.out.size, HOW.out kb e2, fun j hj => (HW1.out.cell (p := ⟨kb, ko + j, none⟩) e2 e2).trans (e3 j hj)⟩⟩)
      have HKL := Lib.hid hok.kl
      clear hok hrg hLl hy4 HUx hbn ho hops hob
      go_upto_region 8 with (first | (with_reducible refine wpList_load_mid rfl 33 (.tmp 28) rfl ob (oo + i * 132) rfl LO _ HRG.out Try.underlying33 rfl HIL.out ?_) | (refine Au.wpList_store_row rfl 33 (.tmp 8) (.tmp 29) rfl (wr.alloc (.cells ZO 33)) ZO LO.toArray wr.heap.size 33 HAL.out rfl rfl HIO.out HZO.out HOO.out ?_))
      rw [HY4.out]
      obtain ⟨q, hq⟩ : ∃ q, q = wr.heap.size := ⟨_, rfl⟩
      rw [← hq] at hN ⊢
      rw [HLO_.out] at hN
      have HQ := Lib.hid hN
      have HQO := Lib.hid (show Off g b m q by have h := HD.out.lt; exact ⟨by omega, by omega, by omega⟩)
      clear hq hN HAL HY4 HRG HIL HIO HZO HOO HD HSU HLA HW HLO_
      have HB8 := Lib.hid HOK.out.b128
      have hOC : ∀ j v, (OC ⟨kd, ps, nm, bk, ka, kl, kc, K⟩)[j]? = some v → y4.cell? ⟨q, j, none⟩ = some v := fun j v hv => by simp [World.cell?, HQ.out, hv]
      have c0 := hOC 0 (.int .i64 kd) rfl
      have c1 := hOC 1 (.int .i64 ps) rfl
      have c2 := hOC 2 (.int .i64 nm) rfl
      have c131 := hOC 131 (.slice ka kl kc) (by
        unfold OC
        rw [List.getElem?_append_right (by simp), show 131 - ([Value.int .i64 kd, .int .i64 ps, .int .i64 nm] : List Value).length = 128 by simp, List.getElem?_append_right (by rw [vals_length, HB8.out]; omega), vals_length, HB8.out]
        rfl)
      have HRB := Lib.hid (show y4.rangeAt q 3 (vals bk) from fun j v hv => hOC (3 + j) v (by
        have hj : j < (vals bk).length := (List.getElem?_eq_some_iff.1 hv).1
        unfold OC
        rw [List.getElem?_append_right (by simp), show 3 + j - ([Value.int .i64 kd, .int .i64 ps, .int .i64 nm] : List Value).length = j by simp, List.getElem?_append_left hj]
        exact hv))
      clear hOC
      by_cases h60 : i < 60
      · have h60' : ¬ (60 : Int) ≤ (i : Int) := by omega
        have d60 : decide ((60 : Int) ≤ (i : Int)) = false := by simp; omega
        by_cases hk60 : kl ≤ 60
        · have hk60' : ¬ (60 : Int) < (kl : Int) := by omega
          have dk60 : decide ((60 : Int) < (kl : Int)) = false := by simp; omega
          obtain ⟨ua, hua⟩ : ∃ x : Nat, ps % 18446744073709551616 = (x : Int) := ⟨(ps % 18446744073709551616).toNat, by omega⟩
          have hub : ua < 18446744073709551616 := by omega
          have hua2 : IntKind.u64.wrap ps = (ua : Int) := by rw [IntKind.wrap_u64]; exact hua
          obtain ⟨an, han⟩ : ∃ x : Nat, x = ua % 6 := ⟨_, rfl⟩
          have han1 : (ua : Int) % 6 = (an : Int) := by omega
          have han2 : (ua : Int).tmod 6 = (an : Int) := by rw [Int.tmod_eq_emod_of_nonneg (by omega)]; exact han1
          have han6 : an < 6 := by omega
          have han3 : IntKind.i64.wrap (an : Int) = (an : Int) := by rw [IntKind.wrap_i64]; omega
          have han4 : (an : Int) < 6 := by omega
          clear han
          by_cases k0 : kd = 0
          · have q0 : (kd == 0) = true := by simp [k0]
            have K0 := Lib.hid k0
            clear k0
            obtain ⟨LB, HLB⟩ : ∃ L, Hid (L = vals bk) := ⟨_, Lib.hid rfl⟩
            have hLl : LB.length = 128 := by rw [HLB.out, vals_length]; exact HB8.out
            have HRB2 := Lib.hid (show y4.rangeAt q 3 LB by rw [HLB.out]; exact HRB.out)
            have HI1 := Lib.hid (show (Try.prog.info? 30).map (·.size) = some LB.length by rw [hLl]; kernel_rfl)
            have HWC := Lib.hid (show Calls Try.prog 13 #[.pointer (some ⟨g, 0, none⟩), .int .i64 (an : Int), .agg LB.toArray] y4 fun e w' => e = .returned (.int .i64 (eWrite s an)) ∧ DAt w' g b m (writeS s an bk) ∧ Aw (Off g b m) y4 w' by
              rw [HLB.out]
              exact write_any g b m s y4 HD4.out (HNS.out.fine hi60) an bk HB8.out)
            clear hLl
            go_wp2_with (with_reducible refine wpList_load_mid rfl 30 (.tmp 49) rfl q 3 rfl LB _ HRB2.out Try.underlying30 rfl HI1.out ?_)
            refine HWC.out.mono ?_
            rintro e y5 ⟨rfl, hd5, ha5⟩
            have HD5 := Lib.hid hd5
            have HSU5 := Lib.hid (row_aw HSU4.out ha5 HSO.out)
            have HLA5 := Lib.hid (row_aw HLA4.out ha5 HLO.out)
            have HW5 := Lib.hid (HW1.out.trans (ha5.weak HOW.out))
            have HQ5 := Lib.hid (row_aw HQ.out ha5 HQO.out)
            clear hd5 ha5 HWC HRB2 c0 c1 c2 c131
            by_cases he : eWrite s an = 0
            · have hmm := write_done (x := bk) he
              rw [he]
              have HSIX := Lib.hid (HD4.out.last HN.out)
              have HSX := Lib.hid (HD4.out.six HN.out)
              have HRB5 := Lib.hid (show y5.rangeAt q 3 LB from fun j v hv => by
                have h1 := HRB.out j v (by rw [← HLB.out]; exact hv)
                have h2 : y4.cell? ⟨q, 3 + j, none⟩ = y5.cell? ⟨q, 3 + j, none⟩ := by simp [World.cell?, HQ.out, HQ5.out]
                rw [← h2]; exact h1)
              have HTH := Lib.hid (rowL_there (n := LB.toArray.size) HLA5.out HSIX.out han6 (by simp only [List.size_toArray]; rw [HLB.out, vals_length]; exact HB8.out))
              have HIB := Lib.hid (show (Try.prog.info? 36).map (·.size) = some LB.toArray.size by simp only [List.size_toArray]; rw [HLB.out, vals_length, HB8.out]; kernel_rfl)
              have HOB := Lib.hid (show LB.toArray.all (·.oneCell') = true by rw [HLB.out]; exact all_oneCell_toArray (vals_one _))
              have HLA6 := Lib.hid (show (y5.setCells la (an * 128) LB.toArray.toList).heap[la]? = some (.cells (rowL (syncL (writeS s an bk).M (writeS s an bk).L)) 42 (0, 0)) by
                rw [hmm.1, hmm.2.1, sync_put s.M s.L an bk (by rw [HSX.out.1]; exact han6), show LB.toArray.toList = vals bk from HLB.out]
                exact rowL_set HLA5.out HSIX.out han6 bk HB8.out)
              have HSU6 := Lib.hid (show (y5.setCells la (an * 128) LB.toArray.toList).heap[su]? = some (.cells (rowL (writeS s an bk).L) 42 (0, 0)) by
                rw [hmm.2.1, World.heap_setCells_other y5 la _ _ (lt_heap HSU5.out) hsl]; exact HSU5.out)
              have HD6 := Lib.hid (show DAt (y5.setCells la (an * 128) LB.toArray.toList) g b m (writeS s an bk) by
                have hl := HD5.out.lt
                have ho := HLO.out
                exact HD5.out.keep (World.heap_setCells_other y5 la _ _ hl.1 (Ne.symm ho.1)) (World.heap_setCells_other y5 la _ _ hl.2.1 (Ne.symm ho.2.1)) (World.heap_setCells_other y5 la _ _ hl.2.2 (Ne.symm ho.2.2)))
              have HW6 := Lib.hid (aw_cells (S := Old w) (b := la) (fun e => by unfold Old at e; omega) LB.toArray.toList (an * 128) _ _ HW5.out)
              have HN6 := Lib.hid (show (writeS s an bk).n = 6 by rw [hmm.2.2]; exact HN.out)
              clear hmm HSU5 HLA5
              go_wp2_with (first | (with_reducible refine wpList_load_mid rfl 30 (.tmp 54) rfl q 3 rfl LB _ HRB5.out Try.underlying30 rfl HI1.out ?_) | (refine wpList_store_mid rfl 36 (.tmp 56) (.tmp 55) rfl la (an * 128) LB.toArray rfl rfl HTH.out HIB.out HOB.out ?_))
              go_roundw
              case rel => exact ⟨i + 1, writeS s an bk, by omega, by omega, by go_num, HN6, Lib.hid (HNS.out.write _ _), HD6, HSU6, HLA6, HW6⟩
              case measure => simp [intOf]; omega
            · have hmm := write_same (x := bk) he
              have hen : (eWrite s an == 0) = false := by simp [he]
              have HSU6 := Lib.hid (show y5.heap[su]? = some (.cells (rowL (writeS s an bk).L) 42 (0, 0)) by rw [hmm.2.1]; exact HSU5.out)
              have HLA6 := Lib.hid (show y5.heap[la]? = some (.cells (rowL (syncL (writeS s an bk).M (writeS s an bk).L)) 42 (0, 0)) by rw [hmm.1, hmm.2.1]; exact HLA5.out)
              have HN6 := Lib.hid (show (writeS s an bk).n = 6 by rw [hmm.2.2]; exact HN.out)
              clear hmm
              go_wp2_with fail
              go_roundw
              case rel => exact ⟨i + 1, writeS s an bk, by omega, by omega, by go_num, HN6, Lib.hid (HNS.out.write _ _), HD5, HSU6, HLA6, HW5⟩
              case measure => simp [intOf]; omega
          · have q0 : (kd == 0) = false := by simp [k0]
            by_cases k1 : kd = 1
            · have q1 : (kd == 1) = true := by simp [k1]
              have K1 := Lib.hid k1
              clear k1
              go_wp2_with fail
              refine (sync_any g b m s y4 HD4.out (HNS.out.fine hi60)).mono ?_
              rintro e y5 ⟨rfl, hd5, ha5⟩
              have HD5 := Lib.hid hd5
              have HSU5 := Lib.hid (row_aw HSU4.out ha5 HSO.out)
              have HLA5 := Lib.hid (row_aw HLA4.out ha5 HLO.out)
              have HW5 := Lib.hid (HW1.out.trans (ha5.weak HOW.out))
              clear hd5 ha5 c0 c1 c2 c131
              by_cases he : eSync s = 0
              · have hmm := sync_done he
                rw [he]
                have HSIX := Lib.hid (HD4.out.last HN.out)
                have HSX := Lib.hid (HD4.out.six HN.out)
                obtain ⟨RL, HRL⟩ : ∃ R, Hid (R = rowL (syncL s.M s.L)) := ⟨_, Lib.hid rfl⟩
                have hRs : RL.size = 768 := by rw [HRL.out]; exact rowL_size HSIX.out
                have HI6 := Lib.hid (show (Try.prog.info? 42).map (·.size) = some RL.size by rw [hRs]; kernel_rfl)
                have HZ6 := Lib.hid (show (rowL s.L).size = RL.size by rw [hRs]; exact rowL_size HSX.out)
                have HO6 := Lib.hid (show RL.all (·.oneCell') = true by rw [HRL.out]; unfold rowL; exact all_oneCell_toArray (vals_one _))
                have HLL := Lib.hid (show y5.heap[la]? = some (.cells RL 42 (0, 0)) by rw [HRL.out]; exact HLA5.out)
                have HSU6 := Lib.hid (show (y5.setRow su RL).heap[su]? = some (.cells (rowL (syncS s).L) 42 (0, 0)) by
                  rw [hmm.2.1, ← HRL.out]; exact setRow_heap _ su _ RL _ _ HSU5.out)
                have HLA6 := Lib.hid (show (y5.setRow su RL).heap[la]? = some (.cells (rowL (syncL (syncS s).M (syncS s).L)) 42 (0, 0)) by
                  rw [hmm.1, hmm.2.1, sync_none, setRow_other _ _ _ _ (Ne.symm hsl)]; exact HLA5.out)
                have HD6 := Lib.hid (show DAt (y5.setRow su RL) g b m (syncS s) by
                  have ho := HSO.out
                  exact HD5.out.keep (setRow_other _ _ _ _ (Ne.symm ho.1)) (setRow_other _ _ _ _ (Ne.symm ho.2.1)) (setRow_other _ _ _ _ (Ne.symm ho.2.2)))
                have HW6 := Lib.hid (show Aw (Old w) w (y5.setRow su RL) from HW5.out.trans (aw_row (fun e => by unfold Old at e; omega)))
                have HN6 := Lib.hid (show (syncS s).n = 6 by rw [hmm.2.2]; exact HN.out)
                clear hmm hRs
                go_wp2_with (first | (with_reducible refine wpList_load_row rfl 42 (.tmp 6) rfl la rfl 42 RL (0, 0) _ HLL.out Try.underlying42 rfl HI6.out ?_) | (refine Au.wpList_store_row rfl 42 (.tmp 5) (.tmp 62) rfl y5 (rowL s.L) RL su 42 HSU5.out rfl rfl HI6.out HZ6.out HO6.out ?_))
                go_roundw
                case rel => exact ⟨i + 1, syncS s, by omega, by omega, by go_num, HN6, Lib.hid HNS.out.sync, HD6, HSU6, HLA6, HW6⟩
                case measure => simp [intOf]; omega
              · have hmm := sync_same he
                have hen : (eSync s == 0) = false := by simp [he]
                have HSU6 := Lib.hid (show y5.heap[su]? = some (.cells (rowL (syncS s).L) 42 (0, 0)) by rw [hmm.2.1]; exact HSU5.out)
                have HLA6 := Lib.hid (show y5.heap[la]? = some (.cells (rowL (syncL (syncS s).M (syncS s).L)) 42 (0, 0)) by rw [hmm.1, hmm.2.1]; exact HLA5.out)
                have HN6 := Lib.hid (show (syncS s).n = 6 by rw [hmm.2.2]; exact HN.out)
                clear hmm
                go_wp2_with fail
                go_roundw
                case rel => exact ⟨i + 1, syncS s, by omega, by omega, by go_num, HN6, Lib.hid HNS.out.sync, HD5, HSU6, HLA6, HW5⟩
                case measure => simp [intOf]; omega
            · have q1 : (kd == 1) = false := by simp [k1]
              by_cases k2 : kd = 2
              · have q2 : (kd == 2) = true := by simp [k2]
                have K2 := Lib.hid k2
                clear k2
                go_wp2_with fail
                refine (fuse_any g b m s y4 HD4.out nm).mono ?_
                rintro e y5 ⟨rfl, hd5, ha5'⟩
                have ha5 := ha5'.weak (S := Off g b m) (fun j hj => hj.1)
                obtain ⟨s5, hs5⟩ : ∃ x, x = (if s.down then s else { s with fuse := nm }) := ⟨_, rfl⟩
                rw [← hs5] at hd5
                have HD5 := Lib.hid hd5
                have HSU5 := Lib.hid (row_aw HSU4.out ha5 HSO.out)
                have HLA5 := Lib.hid (row_aw HLA4.out ha5 HLO.out)
                have HW5 := Lib.hid (HW1.out.trans (ha5.weak HOW.out))
                have hM : s5.M = s.M := by rw [hs5]; split <;> rfl
                have hL : s5.L = s.L := by rw [hs5]; split <;> rfl
                have hnn : s5.n = s.n := by rw [hs5]; split <;> rfl
                have HSU6 := Lib.hid (show y5.heap[su]? = some (.cells (rowL s5.L) 42 (0, 0)) by rw [hL]; exact HSU5.out)
                have HLA6 := Lib.hid (show y5.heap[la]? = some (.cells (rowL (syncL s5.M s5.L)) 42 (0, 0)) by rw [hM, hL]; exact HLA5.out)
                have HN6 := Lib.hid (show s5.n = 6 by rw [hnn]; exact HN.out)
                have HNU6 := Lib.hid (show Nums s5 (i + 1) by rw [hs5]; exact HNS.out.fuse nm HOK.out.wn)
                clear hd5 ha5 ha5' hM hL hnn hs5 c0 c1 c2 c131
                go_wp2_with fail
                go_roundw
                case rel => exact ⟨i + 1, s5, by omega, by omega, by go_num, HN6, HNU6, HD5, HSU6, HLA6, HW5⟩
                case measure => simp [intOf]; omega
              · have q2 : (kd == 2) = false := by simp [k2]
                by_cases k3 : kd = 3
                · have q3 : (kd == 3) = true := by simp [k3]
                  have K3 := Lib.hid k3
                  clear k3
                  go_wp2_with fail
                  refine (crash_any g b m s y4 HD4.out ka kl kc K HKL.out (by omega) HKS.out).mono ?_
                  rintro e y5 ⟨rfl, hd5, ha5⟩
                  have HD5 := Lib.hid hd5
                  have HSU5 := Lib.hid (row_aw HSU4.out ha5 HSO.out)
                  have HLA5 := Lib.hid (row_aw HLA4.out ha5 HLO.out)
                  have HW5 := Lib.hid (HW1.out.trans (ha5.weak HOW.out))
                  clear hd5 ha5 c0 c1 c2 c131
                  have HSIX := Lib.hid (HD4.out.last HN.out)
                  have HSX := Lib.hid (HD4.out.six HN.out)
                  obtain ⟨s5, hs5⟩ : ∃ x, x = crashS s K := ⟨_, rfl⟩
                  rw [← hs5] at HD5
                  have hke := keep_either s.M s.L (fun p hp => by have h := HD4.out.m128 p hp; rw [HD4.out.len]; exact h.2) K s.L rfl (fun i _ => .inl rfl)
                  have HLe := Lib.hid (show ∀ j, j < 6 → s5.L.getD j zB = s.L.getD j zB ∨ s5.L.getD j zB = (syncL s.M s.L).getD j zB from fun j hj => by
                    rw [hs5]; exact hke.2 j (by rw [HSX.out.1]; exact hj))
                  have HN6 := Lib.hid (show s5.n = 6 by rw [hs5]; exact HN.out)
                  have HM6 := Lib.hid (show s5.M = [] by rw [hs5]; rfl)
                  have HDN := Lib.hid (show s5.down = false by rw [hs5]; rfl)
                  have HNU6 := Lib.hid (show Nums s5 (i + 1) by rw [hs5]; exact HNS.out.crash K)
                  have HS5 := Lib.hid (show Six s5.L from HD5.out.six HN6.out)
                  have HSU50 := Lib.hid (show y5.heap[su]? = some (.cells (rowL (mixL 0 s5.L s.L)) 42 (0, 0)) by rw [mix_0]; exact HSU5.out)
                  have HLA50 := Lib.hid (show y5.heap[la]? = some (.cells (rowL (mixL 0 s5.L (syncL s.M s.L))) 42 (0, 0)) by rw [mix_0]; exact HLA5.out)
                  clear hke hs5 HD4 HSU4 HLA4 HQ HRB HW1
                  go_wp2_with fail
                  go_loopw [75] (fun jv wr => ∃ j : Nat, j ≤ 6 ∧ jv = .int .i64 j ∧ Hid (DAt wr g b m s5) ∧ Hid (wr.heap[su]? = some (.cells (rowL (mixL j s5.L s.L)) 42 (0, 0))) ∧ Hid (wr.heap[la]? = some (.cells (rowL (mixL j s5.L (syncL s.M s.L))) 42 (0, 0))) ∧ Hid (Aw (Old w) w wr)) (fun jv _ => 6 - (intOf jv).toNat)
                  case atStart => exact ⟨0, by omega, rfl, HD5, HSU50, HLA50, HW5⟩
                  case round =>
                    obtain ⟨j, hj, rfl, HD6, HSU6, HLA6, HW6⟩ := hrel
                    by_cases hj6 : j < 6
                    · have hj6' : (j : Int) < 6 := by omega
                      have hea : eAt s5 j = 0 := by unfold eAt; rw [HDN.out, if_neg (by simp), if_pos ⟨by omega, by rw [HN6.out]; omega⟩]
                      obtain ⟨x, hx⟩ : ∃ x, x = s5.L.getD j zB := ⟨_, rfl⟩
                      have hvr : vRead s5 j = x := by
                        unfold vRead
                        rw [if_neg (by simpa using hea), HM6.out, hx]
                        simp [findM]
                      have hx8 : x.length = 128 := by rw [hx]; exact six_get HS5.out hj6
                      have HX := Lib.hid hx
                      have HX8 := Lib.hid hx8
                      obtain ⟨R, hRe⟩ : ∃ R, R = (vals x).toArray := ⟨_, rfl⟩
                      have hRs : R.size = 128 := by rw [hRe]; simp [vals_length]; exact hx8
                      have HI := Lib.hid (infoTB hRs)
                      have HZ := Lib.hid (show ZB.size = R.size by rw [hRs]; exact ZB_size)
                      have HO := Lib.hid (show R.all (·.oneCell') = true by rw [hRe]; exact all_oneCell_toArray (vals_one _))
                      have HBV := Lib.hid (show bv x = .agg R by rw [hRe]; rfl)
                      have HRL := Lib.hid (show R.toList = vals x by rw [hRe])
                      have HRsz := Lib.hid hRs
                      clear hx hx8 hRe hRs
                      go_wp2_with fail
                      refine (read_any g b m s5 wr HD6.out j).mono ?_
                      rintro e y7 ⟨rfl, hb7⟩
                      rw [hvr, hea, HBV.out]
                      have HAL := Lib.hid (heap_alloc_last y7 (.cells ZB 36))
                      have hbn := Ve.below_n1 y7 (.cells ZB 36)
                      have HUx := below_setRow (g := y7.heap.size) hbn (Nat.le_refl _) R
                      have hN := setRow_heap _ (y7.heap.size) _ R _ _ HAL.out
                      obtain ⟨y8, hy8⟩ : ∃ y, (y7.alloc (.cells ZB 36)).setRow y7.heap.size R = y := ⟨_, rfl⟩
                      have HY8 := Lib.hid hy8
                      rw [hy8] at HUx hN
                      have HBX := Lib.hid (hb7.trans (HUx.mono hb7.size))
                      have HD8 := Lib.hid (HD6.out.on HBX.out)
                      have HSU8 := Lib.hid ((HBX.out.block su (lt_heap HSU6.out)).trans HSU6.out)
                      have HLA8 := Lib.hid ((HBX.out.block la (lt_heap HLA6.out)).trans HLA6.out)
                      have HW8 := Lib.hid (HW6.out.trans (Aw.of HBX.out))
                      have HLS := Lib.hid (show su < y7.heap.size ∧ la < y7.heap.size from ⟨Nat.lt_of_lt_of_le (lt_heap HSU6.out) hb7.size, Nat.lt_of_lt_of_le (lt_heap HLA6.out) hb7.size⟩)
                      clear hy8 HUx hbn hb7 hvr HD6 HSU6 HLA6 HW6
                      go_upto_region 25 with (refine Au.wpList_store_row rfl 36 (.tmp 11) (.tmp 82) rfl (y7.alloc (.cells ZB 36)) ZB R y7.heap.size 36 HAL.out rfl rfl HI.out HZ.out HO.out ?_)
                      rw [HY8.out]
                      obtain ⟨p, hp⟩ : ∃ q, q = y7.heap.size := ⟨_, rfl⟩
                      rw [← hp] at hN ⊢
                      have HP := Lib.hid hN
                      have HPS := Lib.hid (show p ≠ su ∧ p ≠ la by have h := HLS.out; omega)
                      clear hp hN HAL HY8 HLS
                      obtain ⟨xs, HXS⟩ : ∃ x, Hid (x = s.L.getD j zB) := ⟨_, Lib.hid rfl⟩
                      obtain ⟨xl, HXL⟩ : ∃ x, Hid (x = (syncL s.M s.L).getD j zB) := ⟨_, Lib.hid rfl⟩
                      have hxs8 : xs.length = 128 := by rw [HXS.out]; exact six_get HSX.out hj6
                      have hxl8 : xl.length = 128 := by rw [HXL.out]; exact six_get HSIX.out hj6
                      obtain ⟨LS, HLS⟩ : ∃ L, Hid (L = vals xs) := ⟨_, Lib.hid rfl⟩
                      obtain ⟨LL, HLL⟩ : ∃ L, Hid (L = vals xl) := ⟨_, Lib.hid rfl⟩
                      have HGS := Lib.hid (show y8.rangeAt su (j * 128) LS by
                        have e := rowL_range HSU8.out (mix_six HS5.out HSX.out hj) hj6
                        rw [mix_at HS5.out HSX.out hj6, ← HXS.out] at e
                        rw [HLS.out]; exact e)
                      have HGL := Lib.hid (show y8.rangeAt la (j * 128) LL by
                        have e := rowL_range HLA8.out (mix_six HS5.out HSIX.out hj) hj6
                        rw [mix_at HS5.out HSIX.out hj6, ← HXL.out] at e
                        rw [HLL.out]; exact e)
                      have HIS := Lib.hid (show (Try.prog.info? 36).map (·.size) = some LS.length by rw [HLS.out, vals_length, hxs8]; kernel_rfl)
                      have HIL := Lib.hid (show (Try.prog.info? 36).map (·.size) = some LL.length by rw [HLL.out, vals_length, hxl8]; kernel_rfl)
                      have eq1 : ∀ W, (Op.equalIn 10000 36 (.agg R) (.agg LS.toArray)).run Try.prog W = .ok (decide (x = xs)) W := fun W => by
                        rw [← HBV.out, HLS.out]; exact eq_blk2 x xs HX8.out hxs8 W
                      have eq2 : ∀ W, (Op.equalIn 10000 36 (.agg R) (.agg LL.toArray)).run Try.prog W = .ok (decide (x = xl)) W := fun W => by
                        rw [← HBV.out, HLL.out]; exact eq_blk2 x xl HX8.out hxl8 W
                      have HST := Lib.hid (show ∀ y : World, y.heap[su]? = some (.cells (rowL (mixL j s5.L s.L)) 42 (0, 0)) → (y.setCells su (j * 128) R.toList).heap[su]? = some (.cells (rowL (mixL (j + 1) s5.L s.L)) 42 (0, 0)) from fun y hy => by
                        have e := rowL_set hy (mix_six HS5.out HSX.out hj) hj6 x HX8.out
                        rw [HX.out, mix_set HS5.out HSX.out hj6, ← HX.out] at e
                        rw [HRL.out]; exact e)
                      have HLT := Lib.hid (show ∀ y : World, y.heap[la]? = some (.cells (rowL (mixL j s5.L (syncL s.M s.L))) 42 (0, 0)) → (y.setCells la (j * 128) R.toList).heap[la]? = some (.cells (rowL (mixL (j + 1) s5.L (syncL s.M s.L))) 42 (0, 0)) from fun y hy => by
                        have e := rowL_set hy (mix_six HS5.out HSIX.out hj) hj6 x HX8.out
                        rw [HX.out, mix_set HS5.out HSIX.out hj6, ← HX.out] at e
                        rw [HRL.out]; exact e)
                      clear hxs8 hxl8 hea
                      by_cases h1 : x = xs
                      · have b1 : decide (x = xs) = true := by simp [h1]
                        rw [b1] at eq1
                        clear h1 b1
                        refine wp_region_held_drew (S := fun y => y.heap[p]? = some (.cells R 36 (0, 0)) ∧ y.rangeAt su (j * 128) LS ∧ y.rangeAt la (j * 128) LL) (by kernel_rfl) (⟨HP.out, HGS.out, HGL.out⟩) (fun hS0 => ?_)
                        obtain ⟨y9, hq_y9⟩ : ∃ y, y8.drew = y := ⟨_, rfl⟩
                        have HD9 := Lib.hid (show DAt y9 g b m s5 by rw [← hq_y9]; exact HD8.out.drew)
                        have HSU9 := Lib.hid (show y9.heap[su]? = some (.cells (rowL (mixL j s5.L s.L)) 42 (0, 0)) by rw [← hq_y9]; exact HSU8.out)
                        have HLA9 := Lib.hid (show y9.heap[la]? = some (.cells (rowL (mixL j s5.L (syncL s.M s.L))) 42 (0, 0)) by rw [← hq_y9]; exact HLA8.out)
                        have HP9 := Lib.hid (show y9.heap[p]? = some (.cells R 36 (0, 0)) by rw [← hq_y9]; exact HP.out)
                        have HW9 := Lib.hid (show Aw (Old w) w y9 by rw [← hq_y9]; exact HW8.out.trans (Aw.of (Below.refl _ _).drew))
                        rw [hq_y9] at hS0 ⊢
                        clear hq_y9
                        clear HD8 HSU8 HLA8 HW8 HGS HGL
                        refine wpAnyH_take (i := 0) (v := ?_) rfl (by kernel_rfl) (by kernel_rfl) (by kernel_rfl) (fun _ _ _ h => h) (Or.inl ⟨by kernel_rfl, by (intro wz hSz; go_simp; try with_reducible rfl)⟩) hS0 ?_
                        go_simp
                        refine wpAnyH_take (i := 1) (v := ?_) rfl (by kernel_rfl) (by kernel_rfl) (by kernel_rfl) (fun _ _ _ h => h) (Or.inl ⟨by kernel_rfl, by (intro wz hSz; go_simp; try with_reducible rfl)⟩) hS0 ?_
                        go_simp
                        refine wpAnyH_take (i := 2) (v := ?_) rfl (by kernel_rfl) (by kernel_rfl) (by kernel_rfl) (fun _ _ _ h => h) (Or.inl ⟨by kernel_rfl, by (intro wz hSz; go_simp; try with_reducible rfl)⟩) hS0 ?_
                        go_simp
                        refine wpAnyH_take (i := 3) (v := .agg R) rfl (by kernel_rfl) (by kernel_rfl) (by kernel_rfl) (fun _ _ _ h => h) (Lr.yieldsIf_load_row (by kernel_rfl) 36 (.tmp 11) rfl p rfl 36 R _ (fun yy hh => hh.1) Try.underlying36 rfl HI.out) hS0 ?_
                        go_simp
                        refine wpAnyH_take (i := 4) (v := ?_) rfl (by kernel_rfl) (by kernel_rfl) (by kernel_rfl) (fun _ _ _ h => h) (Or.inl ⟨by kernel_rfl, by (intro wz hSz; go_simp; try with_reducible rfl)⟩) hS0 ?_
                        go_simp
                        refine wpAnyH_take (i := 5) (v := ?_) rfl (by kernel_rfl) (by kernel_rfl) (by kernel_rfl) (fun _ _ _ h => h) (Or.inl ⟨by kernel_rfl, by (intro wz hSz; go_simp; try with_reducible rfl)⟩) hS0 ?_
                        go_simp
                        refine wpAnyH_take (i := 6) (v := .agg LS.toArray) rfl (by kernel_rfl) (by kernel_rfl) (by kernel_rfl) (fun _ _ _ h => h) (yieldsIf_load_mid (by kernel_rfl) 36 (.tmp 89) rfl su (j * 128) rfl LS _ (fun yy hh => hh.2.1) Try.underlying36 rfl HIS.out) hS0 ?_
                        go_simp
                        refine wpAnyH_take (i := 7) (v := ?_) rfl (by kernel_rfl) (by kernel_rfl) (by kernel_rfl) (fun _ _ _ h => h) (Or.inl ⟨by kernel_rfl, by (intro wz hSz; go_simp; try with_reducible rfl)⟩) hS0 ?_
                        go_simp
                        refine wpAnyH_take (i := 8) (v := ?_) rfl (by kernel_rfl) (by kernel_rfl) (by kernel_rfl) (fun _ _ _ h => h) (Or.inl ⟨by kernel_rfl, by (intro wz hSz; go_simp; try with_reducible rfl)⟩) hS0 ?_
                        go_simp
                        refine wpAnyH_take (i := 9) (v := undef) rfl (by kernel_rfl) (by kernel_rfl) (by kernel_rfl) (fun _ _ _ h => h) (Or.inr ⟨by kernel_rfl, rfl⟩) hS0 ?_
                        go_simp
                        refine wpAnyH_take (i := 10) (v := undef) rfl (by kernel_rfl) (by kernel_rfl) (by kernel_rfl) (fun _ _ _ h => h) (Or.inr ⟨by kernel_rfl, rfl⟩) hS0 ?_
                        go_simp
                        refine wpAnyH_take (i := 11) (v := undef) rfl (by kernel_rfl) (by kernel_rfl) (by kernel_rfl) (fun _ _ _ h => h) (Or.inr ⟨by kernel_rfl, rfl⟩) hS0 ?_
                        go_simp
                        refine wpAnyH_take (i := 12) (v := undef) rfl (by kernel_rfl) (by kernel_rfl) (by kernel_rfl) (fun _ _ _ h => h) (Or.inr ⟨by kernel_rfl, rfl⟩) hS0 ?_
                        go_simp
                        refine wpAnyH_take (i := 13) (v := undef) rfl (by kernel_rfl) (by kernel_rfl) (by kernel_rfl) (fun _ _ _ h => h) (Or.inr ⟨by kernel_rfl, rfl⟩) hS0 ?_
                        go_simp
                        refine wpAnyH_take (i := 14) (v := ?_) rfl (by kernel_rfl) (by kernel_rfl) (by kernel_rfl) (fun _ _ _ h => h) (Or.inl ⟨by kernel_rfl, by (intro wz hSz; go_simp; try with_reducible rfl)⟩) hS0 ?_
                        go_simp
                        refine wpAnyH_take (i := 15) (v := ?_) rfl (by kernel_rfl) (by kernel_rfl) (by kernel_rfl) (fun _ _ _ h => h) (Or.inl ⟨by kernel_rfl, by (intro wz hSz; go_simp; try with_reducible rfl)⟩) hS0 ?_
                        go_simp
                        refine wpAnyH_done (by kernel_rfl) ?_ _
                        go_wp2_with fail
                        refine wp_region_held_drew (S := fun y => y.heap[p]? = some (.cells R 36 (0, 0))) (by kernel_rfl) (HP9.out) (fun hS0 => ?_)
                        obtain ⟨y10, hq_y10⟩ : ∃ y, y9.drew = y := ⟨_, rfl⟩
                        have HD10 := Lib.hid (show DAt y10 g b m s5 by rw [← hq_y10]; exact HD9.out.drew)
                        have HSU10 := Lib.hid (show y10.heap[su]? = some (.cells (rowL (mixL j s5.L s.L)) 42 (0, 0)) by rw [← hq_y10]; exact HSU9.out)
                        have HLA10 := Lib.hid (show y10.heap[la]? = some (.cells (rowL (mixL j s5.L (syncL s.M s.L))) 42 (0, 0)) by rw [← hq_y10]; exact HLA9.out)
                        have HP10 := Lib.hid (show y10.heap[p]? = some (.cells R 36 (0, 0)) by rw [← hq_y10]; exact HP9.out)
                        have HW10 := Lib.hid (show Aw (Old w) w y10 by rw [← hq_y10]; exact HW9.out.trans (Aw.of (Below.refl _ _).drew))
                        rw [hq_y10] at hS0 ⊢
                        clear hq_y10
                        clear HD9 HSU9 HLA9 HP9 HW9
                        refine wpAnyH_take (i := 0) (v := ?_) rfl (by kernel_rfl) (by kernel_rfl) (by kernel_rfl) (fun _ _ _ h => h) (Or.inl ⟨by kernel_rfl, by (intro wz hSz; go_simp; try with_reducible rfl)⟩) hS0 ?_
                        go_simp
                        refine wpAnyH_take (i := 1) (v := ?_) rfl (by kernel_rfl) (by kernel_rfl) (by kernel_rfl) (fun _ _ _ h => h) (Or.inl ⟨by kernel_rfl, by (intro wz hSz; go_simp; try with_reducible rfl)⟩) hS0 ?_
                        go_simp
                        refine wpAnyH_take (i := 2) (v := .agg R) rfl (by kernel_rfl) (by kernel_rfl) (by kernel_rfl) (fun _ _ _ h => h) (Lr.yieldsIf_load_row (by kernel_rfl) 36 (.tmp 11) rfl p rfl 36 R _ (fun yy hh => hh) Try.underlying36 rfl HI.out) hS0 ?_
                        go_simp
                        refine wpAnyH_take (i := 3) (v := .agg R) rfl (by kernel_rfl) (by kernel_rfl) (by kernel_rfl) (fun _ _ _ h => h) (Lr.yieldsIf_load_row (by kernel_rfl) 36 (.tmp 11) rfl p rfl 36 R _ (fun yy hh => hh) Try.underlying36 rfl HI.out) hS0 ?_
                        go_simp
                        refine wpAnyH_take (i := 4) (v := ?_) rfl (by kernel_rfl) (by kernel_rfl) (by kernel_rfl) (fun _ _ _ h => h) (Or.inl ⟨by kernel_rfl, by (intro wz hSz; go_simp; try with_reducible rfl)⟩) hS0 ?_
                        go_simp
                        refine wpAnyH_ready (rs := [5]) (by kernel_rfl) (by simp) ?_
                        refine AllReadyH.cons rfl (fun K hK => ?_) AllReadyH.nil
                        refine step_store_mid rfl 36 (.tmp 104) (.tmp 102) rfl su (j * 128) R rfl rfl (rowL_there HSU10.out (mix_six HS5.out HSX.out hj) hj6 HRsz.out) HI.out HO.out ?_
                        have HSU11 := Lib.hid (HST.out _ HSU10.out)
                        have HLA11 := Lib.hid ((World.heap_setCells_other y10 su (j * 128) R.toList (lt_heap HLA10.out) (Ne.symm hsl)).trans HLA10.out)
                        have HD11 := Lib.hid (show DAt (y10.setCells su (j * 128) R.toList) g b m s5 from by
                          have hl := HD10.out.lt
                          have ho := HSO.out
                          exact HD10.out.keep (World.heap_setCells_other y10 su _ _ hl.1 (Ne.symm ho.1)) (World.heap_setCells_other y10 su _ _ hl.2.1 (Ne.symm ho.2.1)) (World.heap_setCells_other y10 su _ _ hl.2.2 (Ne.symm ho.2.2)))
                        have HW11 := Lib.hid (aw_cells (S := Old w) (b := su) (fun e => by unfold Old at e; omega) R.toList (j * 128) _ _ HW10.out)
                        have HP11 := Lib.hid ((World.heap_setCells_other y10 su (j * 128) R.toList (lt_heap HP10.out) HPS.out.1).trans HP10.out)
                        obtain ⟨y11, hy11⟩ : ∃ y, y10.setCells su (j * 128) R.toList = y := ⟨_, rfl⟩
                        rw [hy11] at HSU11 HLA11 HD11 HW11 HP11 ⊢
                        clear hy11
                        refine hK.out _ _ (HP11.out) (fun hS1 => ?_)
                        clear hK K
                        refine wpAnyH_take (i := 6) (v := ?_) rfl (by kernel_rfl) (by kernel_rfl) (by kernel_rfl) (fun _ _ _ h => h) (Or.inl ⟨by kernel_rfl, by (intro wz hSz; go_simp; try with_reducible rfl)⟩) hS1 ?_
                        go_simp
                        refine wpAnyH_ready (rs := [7]) (by kernel_rfl) (by simp) ?_
                        refine AllReadyH.cons rfl (fun K hK => ?_) AllReadyH.nil
                        refine step_store_mid rfl 36 (.tmp 105) (.tmp 103) rfl la (j * 128) R rfl rfl (rowL_there HLA11.out (mix_six HS5.out HSIX.out hj) hj6 HRsz.out) HI.out HO.out ?_
                        have HLA12 := Lib.hid (HLT.out _ HLA11.out)
                        have HSU12 := Lib.hid ((World.heap_setCells_other y11 la (j * 128) R.toList (lt_heap HSU11.out) hsl).trans HSU11.out)
                        have HD12 := Lib.hid (show DAt (y11.setCells la (j * 128) R.toList) g b m s5 from by
                          have hl := HD11.out.lt
                          have ho := HLO.out
                          exact HD11.out.keep (World.heap_setCells_other y11 la _ _ hl.1 (Ne.symm ho.1)) (World.heap_setCells_other y11 la _ _ hl.2.1 (Ne.symm ho.2.1)) (World.heap_setCells_other y11 la _ _ hl.2.2 (Ne.symm ho.2.2)))
                        have HW12 := Lib.hid (aw_cells (S := Old w) (b := la) (fun e => by unfold Old at e; omega) R.toList (j * 128) _ _ HW11.out)
                        refine hK.out _ _ ((World.heap_setCells_other y11 la (j * 128) R.toList (lt_heap HP11.out) HPS.out.2).trans HP11.out) (fun hS2 => ?_)
                        clear hK K
                        refine wpAnyH_done (by kernel_rfl) ?_ _
                        go_wp2_with fail
                        go_roundw
                        case rel => exact ⟨j + 1, by omega, by go_num, HD12, HSU12, HLA12, HW12⟩
                        case measure => simp [intOf]; omega
                      · have b1 : decide (x = xs) = false := by simp [h1]
                        have h2 : x = xl := by
                          rcases HLe.out j hj6 with e | e
                          · exact absurd (by rw [HX.out, HXS.out]; exact e) h1
                          · rw [HX.out, HXL.out]; exact e
                        have b2 : decide (x = xl) = true := by simp [h2]
                        rw [b1] at eq1
                        rw [b2] at eq2
                        clear h1 h2 b1 b2
                        refine wp_region_held_drew (S := fun y => y.heap[p]? = some (.cells R 36 (0, 0)) ∧ y.rangeAt su (j * 128) LS ∧ y.rangeAt la (j * 128) LL) (by kernel_rfl) (⟨HP.out, HGS.out, HGL.out⟩) (fun hS0 => ?_)
                        obtain ⟨y9, hq_y9⟩ : ∃ y, y8.drew = y := ⟨_, rfl⟩
                        have HD9 := Lib.hid (show DAt y9 g b m s5 by rw [← hq_y9]; exact HD8.out.drew)
                        have HSU9 := Lib.hid (show y9.heap[su]? = some (.cells (rowL (mixL j s5.L s.L)) 42 (0, 0)) by rw [← hq_y9]; exact HSU8.out)
                        have HLA9 := Lib.hid (show y9.heap[la]? = some (.cells (rowL (mixL j s5.L (syncL s.M s.L))) 42 (0, 0)) by rw [← hq_y9]; exact HLA8.out)
                        have HP9 := Lib.hid (show y9.heap[p]? = some (.cells R 36 (0, 0)) by rw [← hq_y9]; exact HP.out)
                        have HW9 := Lib.hid (show Aw (Old w) w y9 by rw [← hq_y9]; exact HW8.out.trans (Aw.of (Below.refl _ _).drew))
                        rw [hq_y9] at hS0 ⊢
                        clear hq_y9
                        clear HD8 HSU8 HLA8 HW8 HGS HGL
                        refine wpAnyH_take (i := 0) (v := ?_) rfl (by kernel_rfl) (by kernel_rfl) (by kernel_rfl) (fun _ _ _ h => h) (Or.inl ⟨by kernel_rfl, by (intro wz hSz; go_simp; try with_reducible rfl)⟩) hS0 ?_
                        go_simp
                        refine wpAnyH_take (i := 1) (v := ?_) rfl (by kernel_rfl) (by kernel_rfl) (by kernel_rfl) (fun _ _ _ h => h) (Or.inl ⟨by kernel_rfl, by (intro wz hSz; go_simp; try with_reducible rfl)⟩) hS0 ?_
                        go_simp
                        refine wpAnyH_take (i := 2) (v := ?_) rfl (by kernel_rfl) (by kernel_rfl) (by kernel_rfl) (fun _ _ _ h => h) (Or.inl ⟨by kernel_rfl, by (intro wz hSz; go_simp; try with_reducible rfl)⟩) hS0 ?_
                        go_simp
                        refine wpAnyH_take (i := 3) (v := .agg R) rfl (by kernel_rfl) (by kernel_rfl) (by kernel_rfl) (fun _ _ _ h => h) (Lr.yieldsIf_load_row (by kernel_rfl) 36 (.tmp 11) rfl p rfl 36 R _ (fun yy hh => hh.1) Try.underlying36 rfl HI.out) hS0 ?_
                        go_simp
                        refine wpAnyH_take (i := 4) (v := ?_) rfl (by kernel_rfl) (by kernel_rfl) (by kernel_rfl) (fun _ _ _ h => h) (Or.inl ⟨by kernel_rfl, by (intro wz hSz; go_simp; try with_reducible rfl)⟩) hS0 ?_
                        go_simp
                        refine wpAnyH_take (i := 5) (v := ?_) rfl (by kernel_rfl) (by kernel_rfl) (by kernel_rfl) (fun _ _ _ h => h) (Or.inl ⟨by kernel_rfl, by (intro wz hSz; go_simp; try with_reducible rfl)⟩) hS0 ?_
                        go_simp
                        refine wpAnyH_take (i := 6) (v := .agg LS.toArray) rfl (by kernel_rfl) (by kernel_rfl) (by kernel_rfl) (fun _ _ _ h => h) (yieldsIf_load_mid (by kernel_rfl) 36 (.tmp 89) rfl su (j * 128) rfl LS _ (fun yy hh => hh.2.1) Try.underlying36 rfl HIS.out) hS0 ?_
                        go_simp
                        refine wpAnyH_take (i := 7) (v := ?_) rfl (by kernel_rfl) (by kernel_rfl) (by kernel_rfl) (fun _ _ _ h => h) (Or.inl ⟨by kernel_rfl, by (intro wz hSz; go_simp; try with_reducible rfl)⟩) hS0 ?_
                        go_simp
                        refine wpAnyH_take (i := 8) (v := ?_) rfl (by kernel_rfl) (by kernel_rfl) (by kernel_rfl) (fun _ _ _ h => h) (Or.inl ⟨by kernel_rfl, by (intro wz hSz; go_simp; try with_reducible rfl)⟩) hS0 ?_
                        go_simp
                        refine wpAnyH_take (i := 9) (v := .agg R) rfl (by kernel_rfl) (by kernel_rfl) (by kernel_rfl) (fun _ _ _ h => h) (Lr.yieldsIf_load_row (by kernel_rfl) 36 (.tmp 11) rfl p rfl 36 R _ (fun yy hh => hh.1) Try.underlying36 rfl HI.out) hS0 ?_
                        go_simp
                        refine wpAnyH_take (i := 10) (v := ?_) rfl (by kernel_rfl) (by kernel_rfl) (by kernel_rfl) (fun _ _ _ h => h) (Or.inl ⟨by kernel_rfl, by (intro wz hSz; go_simp; try with_reducible rfl)⟩) hS0 ?_
                        go_simp
                        refine wpAnyH_take (i := 11) (v := ?_) rfl (by kernel_rfl) (by kernel_rfl) (by kernel_rfl) (fun _ _ _ h => h) (Or.inl ⟨by kernel_rfl, by (intro wz hSz; go_simp; try with_reducible rfl)⟩) hS0 ?_
                        go_simp
                        refine wpAnyH_take (i := 12) (v := .agg LL.toArray) rfl (by kernel_rfl) (by kernel_rfl) (by kernel_rfl) (fun _ _ _ h => h) (yieldsIf_load_mid (by kernel_rfl) 36 (.tmp 95) rfl la (j * 128) rfl LL _ (fun yy hh => hh.2.2) Try.underlying36 rfl HIL.out) hS0 ?_
                        go_simp
                        refine wpAnyH_take (i := 13) (v := ?_) rfl (by kernel_rfl) (by kernel_rfl) (by kernel_rfl) (fun _ _ _ h => h) (Or.inl ⟨by kernel_rfl, by (intro wz hSz; go_simp; try with_reducible rfl)⟩) hS0 ?_
                        go_simp
                        refine wpAnyH_take (i := 14) (v := ?_) rfl (by kernel_rfl) (by kernel_rfl) (by kernel_rfl) (fun _ _ _ h => h) (Or.inl ⟨by kernel_rfl, by (intro wz hSz; go_simp; try with_reducible rfl)⟩) hS0 ?_
                        go_simp
                        refine wpAnyH_take (i := 15) (v := ?_) rfl (by kernel_rfl) (by kernel_rfl) (by kernel_rfl) (fun _ _ _ h => h) (Or.inl ⟨by kernel_rfl, by (intro wz hSz; go_simp; try with_reducible rfl)⟩) hS0 ?_
                        go_simp
                        refine wpAnyH_done (by kernel_rfl) ?_ _
                        go_wp2_with fail
                        refine wp_region_held_drew (S := fun y => y.heap[p]? = some (.cells R 36 (0, 0))) (by kernel_rfl) (HP9.out) (fun hS0 => ?_)
                        obtain ⟨y10, hq_y10⟩ : ∃ y, y9.drew = y := ⟨_, rfl⟩
                        have HD10 := Lib.hid (show DAt y10 g b m s5 by rw [← hq_y10]; exact HD9.out.drew)
                        have HSU10 := Lib.hid (show y10.heap[su]? = some (.cells (rowL (mixL j s5.L s.L)) 42 (0, 0)) by rw [← hq_y10]; exact HSU9.out)
                        have HLA10 := Lib.hid (show y10.heap[la]? = some (.cells (rowL (mixL j s5.L (syncL s.M s.L))) 42 (0, 0)) by rw [← hq_y10]; exact HLA9.out)
                        have HP10 := Lib.hid (show y10.heap[p]? = some (.cells R 36 (0, 0)) by rw [← hq_y10]; exact HP9.out)
                        have HW10 := Lib.hid (show Aw (Old w) w y10 by rw [← hq_y10]; exact HW9.out.trans (Aw.of (Below.refl _ _).drew))
                        rw [hq_y10] at hS0 ⊢
                        clear hq_y10
                        clear HD9 HSU9 HLA9 HP9 HW9
                        refine wpAnyH_take (i := 0) (v := ?_) rfl (by kernel_rfl) (by kernel_rfl) (by kernel_rfl) (fun _ _ _ h => h) (Or.inl ⟨by kernel_rfl, by (intro wz hSz; go_simp; try with_reducible rfl)⟩) hS0 ?_
                        go_simp
                        refine wpAnyH_take (i := 1) (v := ?_) rfl (by kernel_rfl) (by kernel_rfl) (by kernel_rfl) (fun _ _ _ h => h) (Or.inl ⟨by kernel_rfl, by (intro wz hSz; go_simp; try with_reducible rfl)⟩) hS0 ?_
                        go_simp
                        refine wpAnyH_take (i := 2) (v := .agg R) rfl (by kernel_rfl) (by kernel_rfl) (by kernel_rfl) (fun _ _ _ h => h) (Lr.yieldsIf_load_row (by kernel_rfl) 36 (.tmp 11) rfl p rfl 36 R _ (fun yy hh => hh) Try.underlying36 rfl HI.out) hS0 ?_
                        go_simp
                        refine wpAnyH_take (i := 3) (v := .agg R) rfl (by kernel_rfl) (by kernel_rfl) (by kernel_rfl) (fun _ _ _ h => h) (Lr.yieldsIf_load_row (by kernel_rfl) 36 (.tmp 11) rfl p rfl 36 R _ (fun yy hh => hh) Try.underlying36 rfl HI.out) hS0 ?_
                        go_simp
                        refine wpAnyH_take (i := 4) (v := ?_) rfl (by kernel_rfl) (by kernel_rfl) (by kernel_rfl) (fun _ _ _ h => h) (Or.inl ⟨by kernel_rfl, by (intro wz hSz; go_simp; try with_reducible rfl)⟩) hS0 ?_
                        go_simp
                        refine wpAnyH_ready (rs := [5]) (by kernel_rfl) (by simp) ?_
                        refine AllReadyH.cons rfl (fun K hK => ?_) AllReadyH.nil
                        refine step_store_mid rfl 36 (.tmp 104) (.tmp 102) rfl su (j * 128) R rfl rfl (rowL_there HSU10.out (mix_six HS5.out HSX.out hj) hj6 HRsz.out) HI.out HO.out ?_
                        have HSU11 := Lib.hid (HST.out _ HSU10.out)
                        have HLA11 := Lib.hid ((World.heap_setCells_other y10 su (j * 128) R.toList (lt_heap HLA10.out) (Ne.symm hsl)).trans HLA10.out)
                        have HD11 := Lib.hid (show DAt (y10.setCells su (j * 128) R.toList) g b m s5 from by
                          have hl := HD10.out.lt
                          have ho := HSO.out
                          exact HD10.out.keep (World.heap_setCells_other y10 su _ _ hl.1 (Ne.symm ho.1)) (World.heap_setCells_other y10 su _ _ hl.2.1 (Ne.symm ho.2.1)) (World.heap_setCells_other y10 su _ _ hl.2.2 (Ne.symm ho.2.2)))
                        have HW11 := Lib.hid (aw_cells (S := Old w) (b := su) (fun e => by unfold Old at e; omega) R.toList (j * 128) _ _ HW10.out)
                        have HP11 := Lib.hid ((World.heap_setCells_other y10 su (j * 128) R.toList (lt_heap HP10.out) HPS.out.1).trans HP10.out)
                        obtain ⟨y11, hy11⟩ : ∃ y, y10.setCells su (j * 128) R.toList = y := ⟨_, rfl⟩
                        rw [hy11] at HSU11 HLA11 HD11 HW11 HP11 ⊢
                        clear hy11
                        refine hK.out _ _ (HP11.out) (fun hS1 => ?_)
                        clear hK K
                        refine wpAnyH_take (i := 6) (v := ?_) rfl (by kernel_rfl) (by kernel_rfl) (by kernel_rfl) (fun _ _ _ h => h) (Or.inl ⟨by kernel_rfl, by (intro wz hSz; go_simp; try with_reducible rfl)⟩) hS1 ?_
                        go_simp
                        refine wpAnyH_ready (rs := [7]) (by kernel_rfl) (by simp) ?_
                        refine AllReadyH.cons rfl (fun K hK => ?_) AllReadyH.nil
                        refine step_store_mid rfl 36 (.tmp 105) (.tmp 103) rfl la (j * 128) R rfl rfl (rowL_there HLA11.out (mix_six HS5.out HSIX.out hj) hj6 HRsz.out) HI.out HO.out ?_
                        have HLA12 := Lib.hid (HLT.out _ HLA11.out)
                        have HSU12 := Lib.hid ((World.heap_setCells_other y11 la (j * 128) R.toList (lt_heap HSU11.out) hsl).trans HSU11.out)
                        have HD12 := Lib.hid (show DAt (y11.setCells la (j * 128) R.toList) g b m s5 from by
                          have hl := HD11.out.lt
                          have ho := HLO.out
                          exact HD11.out.keep (World.heap_setCells_other y11 la _ _ hl.1 (Ne.symm ho.1)) (World.heap_setCells_other y11 la _ _ hl.2.1 (Ne.symm ho.2.1)) (World.heap_setCells_other y11 la _ _ hl.2.2 (Ne.symm ho.2.2)))
                        have HW12 := Lib.hid (aw_cells (S := Old w) (b := la) (fun e => by unfold Old at e; omega) R.toList (j * 128) _ _ HW11.out)
                        refine hK.out _ _ ((World.heap_setCells_other y11 la (j * 128) R.toList (lt_heap HP11.out) HPS.out.2).trans HP11.out) (fun hS2 => ?_)
                        clear hK K
                        refine wpAnyH_done (by kernel_rfl) ?_ _
                        go_wp2_with fail
                        go_roundw
                        case rel => exact ⟨j + 1, by omega, by go_num, HD12, HSU12, HLA12, HW12⟩
                        case measure => simp [intOf]; omega
                    · have hge6 : ¬ (j : Int) < 6 := by omega
                      have HJ6 := Lib.hid (show j = 6 by omega)
                      have HSU9 := Lib.hid (show wr.heap[su]? = some (.cells (rowL s5.L) 42 (0, 0)) by have e := HSU6.out; rwa [HJ6.out, mix_6 HS5.out HSX.out] at e)
                      have HLA9 := Lib.hid (show wr.heap[la]? = some (.cells (rowL (syncL s5.M s5.L)) 42 (0, 0)) by have e := HLA6.out; rw [HJ6.out, mix_6 HS5.out HSIX.out] at e; rw [HM6.out, sync_none]; exact e)
                      clear HSU6 HLA6
                      go_wp2_with fail
                      go_roundw
                      case rel => exact ⟨i + 1, s5, by omega, by omega, by go_num, HN6, HNU6, HD6, HSU9, HLA9, HW6⟩
                      case measure => simp [intOf]; omega
                · have q3 : (kd == 3) = false := by simp [k3]
                  go_wp2_with fail
                  go_roundw
                  case rel => exact ⟨i + 1, s, by omega, by omega, by go_num, HN, Lib.hid HNS.out.up, HD4, HSU4, HLA4, HW1⟩
                  case measure => simp [intOf]; omega
        · have hk60' : (60 : Int) < (kl : Int) := by omega
          have dk60 : decide ((60 : Int) < (kl : Int)) = true := by simp; omega
          go_wp2_with fail
          go_ret
          exact ⟨rfl, HW1.out.below (fun j hj => hj) (Nat.le_refl _)⟩
      · have h60' : (60 : Int) ≤ (i : Int) := by omega
        have d60 : decide ((60 : Int) ≤ (i : Int)) = true := by simp; omega
        go_wp2_with fail
        go_ret
        exact ⟨rfl, HW1.out.below (fun j hj => hj) (Nat.le_refl _)⟩
    · have hge : ¬ (i : Int) < (n : Int) := by omega
      go_wp2_with fail
      go_ret
      exact ⟨rfl, HW.out.below (fun j hj => hj) (Nat.le_refl _)⟩

end Go.Proofs.Ytjejghfeeonghaa.drumLastsW
