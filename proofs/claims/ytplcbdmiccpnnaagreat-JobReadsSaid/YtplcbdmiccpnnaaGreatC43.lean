/- Scenes: the contract of the document's Check. -/
import Derived.Test.YtplcbdmiccpnnaaGreatC41
import Derived.Test.YtplcbdmiccpnnaaGreatC42
import Derived.Test.YtplcbdmiccpnnaaGreatC21
import Derived.Deep.MidRow
import Derived.Deep.RegionHeld3
import Derived.StillTailTactics
namespace Go.Proofs.YtplcbdmiccpnnaaGreat.Sc
open Go.RowKit Go.Proofs.YtplcbdmiccpnnaaGreat Go.Proofs.YtplcbdmiccpnnaaGreat.Wa Go.Proofs.YtplcbdmiccpnnaaGreat.Ve Go.Proofs.YtplcbdmiccpnnaaGreat.Tk Go.Proofs.YtplcbdmiccpnnaaGreat.Ls
set_option linter.unusedVariables false

theorem wh_first {s : Scn} (h : hdB s = true) : ∀ k, k < 1 → wh s k = -1 := fun k hk => by
  obtain rfl : k = 0 := by omega
  show onceB (hdB s) = -1
  rw [h]; rfl

set_option maxHeartbeats 8000000 in
set_option maxRecDepth 100000 in
theorem rcheck_any (s : Scn) (a : Pla) (w : World) (hs : ScAt w s a) :
    Calls Tryz.prog 19 #[SV s a] w fun e w' => e = .returned (.tuple #[.int .i64 (chk s).1, .int .i64 (chk s).2]) ∧ Below w.heap.size w w' := by
  obtain ⟨pa, pc, ta, tc, ja, jc, sa, sc⟩ := a
  obtain ⟨c0, hc0⟩ : ∃ c0 : List Value, c0 = (SC s ⟨pa, pc, ta, tc, ja, jc, sa, sc⟩).toList := ⟨_, rfl⟩
  have e0 : SV s ⟨pa, pc, ta, tc, ja, jc, sa, sc⟩ = .agg c0.toArray := by rw [hc0]
  have HE0 := Lib.hid e0
  have HC0 := Lib.hid (show c0.toArray = SC s ⟨pa, pc, ta, tc, ja, jc, sa, sc⟩ by rw [hc0])
  have HQ := Lib.hid (heap_alloc_last w (.cells c0.toArray 49))
  have HW := Lib.hid (below_n1 w (.cells c0.toArray 49))
  have HZA := Lib.hid (show (Tryz.prog.info? 49).map (·.size) = some c0.toArray.size by rw [hc0]; kernel_rfl)
  have hnp := hs.p.1
  have hnt := hs.t.1
  have hnj := hs.j.1
  have hns := hs.sh.1
  have HSA := Lib.hid hs
  have hsb : SBox (w.alloc (.cells c0.toArray 49)) w.heap.size s ⟨pa, pc, ta, tc, ja, jc, sa, sc⟩ := sbox_heap (by rw [← HC0.out]; exact HQ.out)
  obtain ⟨hqlt, h0, h1, h2, h3, h4, h5, h6, h7, h8, h9, -, -, -, d13, d14, d15, d16⟩ := hsb
  simp only at d13 d14 d15 d16
  rw [e0]
  clear hs hc0 e0
  go_enter Tryz.func19, Tryz.ntmps19
  go_wp2_with fail
  refine (rhead_is s _ rfl _).mono ?_
  rintro e w0 ⟨rfl, hb0⟩
  have hb00 := HW.out.trans (hb0.mono HW.out.size)
  have HQ0 := Lib.hid ((hb0.block _ hqlt).trans HQ.out)
  obtain ⟨v, hv⟩ : ∃ v, hdB s = v := ⟨_, rfl⟩
  rw [hv]
  clear HQ HW h0 h1 h2 h3 h4 h5 h6 h7 h8 h9 d13 d14 d15 d16
  have HQ := HQ0
  have HW := Lib.hid hb00
  have hsb : SBox w0 w.heap.size s ⟨pa, pc, ta, tc, ja, jc, sa, sc⟩ := sbox_heap (by rw [← HC0.out]; exact HQ.out)
  have d13 := hsb.c13
  have d14 := hsb.c14
  have d15 := hsb.c15
  have d16 := hsb.c16
  simp only at d13 d14 d15 d16
  clear hsb hb0 hb00 HQ0 hqlt
  cases v
  · have HC : Hid (chk s = (21, 0)) := Lib.hid (by
      rw [chk_bad (i := 0) (by omega) (fun k hk => by omega) (by show onceB (hdB s) ≠ -1; rw [hv]; simp [onceB])]
      show ((21 : Int) + (0 : Nat), onceB (hdB s)) = _
      rw [hv]; rfl)
    clear hv
    go_wp2
    exact bodyPost_ret (v := .tuple #[.int .i64 21, .int .i64 0]) (by simp [results, Tryz.results19, go_sem]) rfl ⟨by rw [HC.out], HW.out⟩
  · have HO : Hid (∀ k, k < 1 → wh s k = -1) := Lib.hid (wh_first hv)
    clear hv
    by_cases hm1 : 32 < s.np
    · have hm1' : (32 : Int) < s.np := by omega
      have HC := Lib.hid (chk_bad (i := 1) (by omega) HO.out (by show whereB s.np 32 (pB s) ≠ -1; rw [whereB_more hm1]; omega))
      have HC2 : Hid (chk s = (22, 32)) := Lib.hid (by rw [HC.out]; show ((21 : Int) + (1 : Nat), whereB s.np 32 (pB s)) = _; rw [whereB_more hm1]; rfl)
      clear HC
      have HC := HC2
      go_wp2
      exact bodyPost_ret (v := .tuple #[.int .i64 22, .int .i64 32]) (by simp [results, Tryz.results19, go_sem]) rfl ⟨by rw [HC.out], HW.out⟩
    · have hm1' : ¬ (32 : Int) < s.np := by omega
      go_wp2_with fail
      go_loopw [4] (fun ix wr => ∃ k : Nat, k ≤ s.np ∧ ix = .int .i64 k ∧ Hid (∀ j, j < k → pB s j = true) ∧ Hid (wr.heap[w.heap.size]? = some (.cells c0.toArray 49 (0, 0))) ∧ Below w.heap.size w wr) (fun ix _ => s.np - (intOf ix).toNat)
      case atStart => exact ⟨0, Nat.zero_le _, rfl, Lib.hid (fun j hj => by omega), HQ, HW.out⟩
      case round =>
        clear HQ HW
        obtain ⟨k, hk, rfl, HK, HQ, hbk⟩ := hrel
        have hsb : SBox wr w.heap.size s ⟨pa, pc, ta, tc, ja, jc, sa, sc⟩ := sbox_heap (by rw [← HC0.out]; exact HQ.out)
        have d13 := hsb.c13
        have d14 := hsb.c14
        have d15 := hsb.c15
        have d16 := hsb.c16
        have hqlt := hsb.1
        simp only at d13 d14 d15 d16
        clear hsb
        by_cases hlt : k < s.np
        · have hlt' : (k : Int) < s.np := by omega
          obtain ⟨b, off, hba, hb, f0, f1, f2, f3, f4⟩ := nums5 (HSA.out.on hbk).p hlt
          have hba' : pa = some ⟨b, off, none⟩ := hba
          subst hba'
          clear hba
          obtain ⟨v, hv⟩ : ∃ v, pB s k = v := ⟨_, rfl⟩
          have HV := Lib.hid hv
          clear hv
          go_wp2_with fail
          refine (rpaint_any _ _ _ _ _ _).mono ?_
          rintro e w1 ⟨rfl, hb1⟩
          rw [show paintB (s.P (k * 5)) (s.P (k * 5 + 1)) (s.P (k * 5 + 2)) (s.P (k * 5 + 3)) (s.P (k * 5 + 4)) = v from HV.out]
          have hb2 := hbk.trans (hb1.mono hbk.size)
          have HQ2 := Lib.hid ((hb1.block _ hqlt).trans HQ.out)
          cases v
          · have hwa := whereB_at (most := 32) (by omega) hlt HK.out HV.out
            have HC : Hid (chk s = (22, (k : Int))) := Lib.hid (by
              rw [chk_bad (i := 1) (by omega) HO.out (by show whereB s.np 32 (pB s) ≠ -1; rw [hwa]; omega)]
              show ((21 : Int) + (1 : Nat), whereB s.np 32 (pB s)) = _
              rw [hwa]; rfl)
            clear hwa
            go_wp2
            exact bodyPost_ret (v := .tuple #[.int .i64 22, .int .i64 (k : Int)]) (by simp [results, Tryz.results19, go_sem]) rfl ⟨by rw [HC.out], hb2⟩
          · go_wp2
            go_roundw
            case rel => exact ⟨k + 1, by omega, by go_num, Lib.hid (all_snoc HK.out HV.out), HQ2, hb2⟩
            case measure => simp [intOf]; omega
        · obtain rfl : k = s.np := by omega
          have HO2 : Hid (∀ k, k < 2 → wh s k = -1) := Lib.hid (whs_snoc (k := 1) HO.out (whereB_none (most := 32) (by omega) HK.out))
          clear HO
          have HO := HO2
          clear HO2 HK
          have HW := Lib.hid hbk
          by_cases hm2 : 32 < s.nt
          · have hm2' : (32 : Int) < s.nt := by omega
            have HC := Lib.hid (chk_bad (i := 2) (by omega) HO.out (by show whereB s.nt 32 (tB s) ≠ -1; rw [whereB_more hm2]; omega))
            have HC2 : Hid (chk s = (23, 32)) := Lib.hid (by rw [HC.out]; show ((21 : Int) + (2 : Nat), whereB s.nt 32 (tB s)) = _; rw [whereB_more hm2]; rfl)
            clear HC
            have HC := HC2
            go_wp2
            exact bodyPost_ret (v := .tuple #[.int .i64 23, .int .i64 32]) (by simp [results, Tryz.results19, go_sem]) rfl ⟨by rw [HC.out], HW.out⟩
          · have hm2' : ¬ (32 : Int) < s.nt := by omega
            go_wp2_with fail
            go_loopw [5] (fun ix wr => ∃ k : Nat, k ≤ s.nt ∧ ix = .int .i64 k ∧ Hid (∀ j, j < k → tB s j = true) ∧ Hid (wr.heap[w.heap.size]? = some (.cells c0.toArray 49 (0, 0))) ∧ Below w.heap.size w wr) (fun ix _ => s.nt - (intOf ix).toNat)
            case atStart => exact ⟨0, Nat.zero_le _, rfl, Lib.hid (fun j hj => by omega), HQ, HW.out⟩
            case round =>
              clear HQ HW
              obtain ⟨k, hk, rfl, HK, HQ, hbk⟩ := hrel
              have hsb : SBox wr w.heap.size s ⟨pa, pc, ta, tc, ja, jc, sa, sc⟩ := sbox_heap (by rw [← HC0.out]; exact HQ.out)
              have d13 := hsb.c13
              have d14 := hsb.c14
              have d15 := hsb.c15
              have d16 := hsb.c16
              have hqlt := hsb.1
              simp only at d13 d14 d15 d16
              clear hsb
              by_cases hlt : k < s.nt
              · have hlt' : (k : Int) < s.nt := by omega
                obtain ⟨-, h9 | ⟨b, off, hba, hb, hcs⟩⟩ := (HSA.out.on hbk).t
                · omega
                obtain ⟨ka, kc, f0, f1, hka⟩ := hcs k hlt
                rw [show off + (k * 2 + 1) = off + k * 2 + 1 by omega] at f1
                have HKY := Lib.hid hka
                clear hcs hka
                have hba' : ta = some ⟨b, off, none⟩ := hba
                subst hba'
                clear hba
                obtain ⟨v, hv⟩ : ∃ v, tB s k = v := ⟨_, rfl⟩
                have HV := Lib.hid hv
                clear hv
                go_wp2_with fail
                refine (rright_any _ _ _ _ _ _ HKY.out).mono ?_
                rintro e w1 ⟨rfl, hb1⟩
                rw [show rightB (s.way k) (s.kn k) (s.K k) = v from HV.out]
                have hb2 := hbk.trans (hb1.mono hbk.size)
                have HQ2 := Lib.hid ((hb1.block _ hqlt).trans HQ.out)
                cases v
                · have hwa := whereB_at (most := 32) (by omega) hlt HK.out HV.out
                  have HC : Hid (chk s = (23, (k : Int))) := Lib.hid (by
                    rw [chk_bad (i := 2) (by omega) HO.out (by show whereB s.nt 32 (tB s) ≠ -1; rw [hwa]; omega)]
                    show ((21 : Int) + (2 : Nat), whereB s.nt 32 (tB s)) = _
                    rw [hwa]; rfl)
                  clear hwa
                  go_wp2
                  exact bodyPost_ret (v := .tuple #[.int .i64 23, .int .i64 (k : Int)]) (by simp [results, Tryz.results19, go_sem]) rfl ⟨by rw [HC.out], hb2⟩
                · go_wp2
                  go_roundw
                  case rel => exact ⟨k + 1, by omega, by go_num, Lib.hid (all_snoc HK.out HV.out), HQ2, hb2⟩
                  case measure => simp [intOf]; omega
              · obtain rfl : k = s.nt := by omega
                have HO2 : Hid (∀ k, k < 3 → wh s k = -1) := Lib.hid (whs_snoc (k := 2) HO.out (whereB_none (most := 32) (by omega) HK.out))
                clear HO
                have HO := HO2
                clear HO2 HK
                have HW := Lib.hid hbk
                by_cases hm3 : 32 < s.nj
                · have hm3' : (32 : Int) < s.nj := by omega
                  have HC := Lib.hid (chk_bad (i := 3) (by omega) HO.out (by show whereB s.nj 32 (jB s) ≠ -1; rw [whereB_more hm3]; omega))
                  have HC2 : Hid (chk s = (24, 32)) := Lib.hid (by rw [HC.out]; show ((21 : Int) + (3 : Nat), whereB s.nj 32 (jB s)) = _; rw [whereB_more hm3]; rfl)
                  clear HC
                  have HC := HC2
                  go_wp2
                  exact bodyPost_ret (v := .tuple #[.int .i64 24, .int .i64 32]) (by simp [results, Tryz.results19, go_sem]) rfl ⟨by rw [HC.out], HW.out⟩
                · have hm3' : ¬ (32 : Int) < s.nj := by omega
                  go_wp2_with fail
                  go_loopw [6] (fun ix wr => ∃ k : Nat, k ≤ s.nj ∧ ix = .int .i64 k ∧ Hid (∀ j, j < k → jB s j = true) ∧ Hid (wr.heap[w.heap.size]? = some (.cells c0.toArray 49 (0, 0))) ∧ Below w.heap.size w wr) (fun ix _ => s.nj - (intOf ix).toNat)
                  case atStart => exact ⟨0, Nat.zero_le _, rfl, Lib.hid (fun j hj => by omega), HQ, HW.out⟩
                  case round =>
                    clear HQ HW
                    obtain ⟨k, hk, rfl, HK, HQ, hbk⟩ := hrel
                    have hsb : SBox wr w.heap.size s ⟨pa, pc, ta, tc, ja, jc, sa, sc⟩ := sbox_heap (by rw [← HC0.out]; exact HQ.out)
                    have d13 := hsb.c13
                    have d14 := hsb.c14
                    have d15 := hsb.c15
                    have d16 := hsb.c16
                    have hqlt := hsb.1
                    simp only at d13 d14 d15 d16
                    clear hsb
                    by_cases hlt : k < s.nj
                    · have hlt' : (k : Int) < s.nj := by omega
                      obtain ⟨b, off, hba, hb, f0, f1, f2, f3⟩ := nums4 (HSA.out.on hbk).j hlt
                      have hba' : ja = some ⟨b, off, none⟩ := hba
                      subst hba'
                      clear hba
                      obtain ⟨v, hv⟩ : ∃ v, jB s k = v := ⟨_, rfl⟩
                      have HV := Lib.hid hv
                      clear hv
                      have HF := Lib.hid (And.intro f0 (And.intro f1 (And.intro f2 f3)))
                      go_wp2_with (first | (with_reducible refine wpList_load_row rfl 49 (.tmp 1) rfl w.heap.size rfl 49 c0.toArray (0, 0) _ HQ.out Tryz.underlying49 rfl HZA.out ?_))
                      rw [← HE0.out]
                      refine (rjoint_row s ⟨pa, pc, ta, tc, some ⟨b, off, none⟩, jc, sa, sc⟩ b off k _ _ _ _ rfl hlt (by omega) (by omega) _ hb HF).mono ?_
                      rintro e w1 ⟨rfl, hb1⟩
                      rw [HE0.out, show jointB k s.nt (s.J (k * 4)) (s.J (k * 4 + 1)) (s.J (k * 4 + 2)) (s.J (k * 4 + 3)) = v from HV.out]
                      have hb2 := hbk.trans (hb1.mono hbk.size)
                      have HQ2 := Lib.hid ((hb1.block _ hqlt).trans HQ.out)
                      cases v
                      · have hwa := whereB_at (most := 32) (by omega) hlt HK.out HV.out
                        have HC : Hid (chk s = (24, (k : Int))) := Lib.hid (by
                          rw [chk_bad (i := 3) (by omega) HO.out (by show whereB s.nj 32 (jB s) ≠ -1; rw [hwa]; omega)]
                          show ((21 : Int) + (3 : Nat), whereB s.nj 32 (jB s)) = _
                          rw [hwa]; rfl)
                        clear hwa
                        go_wp2
                        exact bodyPost_ret (v := .tuple #[.int .i64 24, .int .i64 (k : Int)]) (by simp [results, Tryz.results19, go_sem]) rfl ⟨by rw [HC.out], hb2⟩
                      · go_wp2
                        go_roundw
                        case rel => exact ⟨k + 1, by omega, by go_num, Lib.hid (all_snoc HK.out HV.out), HQ2, hb2⟩
                        case measure => simp [intOf]; omega
                    · obtain rfl : k = s.nj := by omega
                      have HO2 : Hid (∀ k, k < 4 → wh s k = -1) := Lib.hid (whs_snoc (k := 3) HO.out (whereB_none (most := 32) (by omega) HK.out))
                      clear HO
                      have HO := HO2
                      clear HO2 HK
                      have HW := Lib.hid hbk
                      by_cases hm4 : 128 < s.ns
                      · have hm4' : (128 : Int) < s.ns := by omega
                        have HC := Lib.hid (chk_bad (i := 4) (by omega) HO.out (by show whereB s.ns 128 (sB s) ≠ -1; rw [whereB_more hm4]; omega))
                        have HC2 : Hid (chk s = (25, 128)) := Lib.hid (by rw [HC.out]; show ((21 : Int) + (4 : Nat), whereB s.ns 128 (sB s)) = _; rw [whereB_more hm4]; rfl)
                        clear HC
                        have HC := HC2
                        go_wp2
                        exact bodyPost_ret (v := .tuple #[.int .i64 25, .int .i64 128]) (by simp [results, Tryz.results19, go_sem]) rfl ⟨by rw [HC.out], HW.out⟩
                      · have hm4' : ¬ (128 : Int) < s.ns := by omega
                        go_wp2_with fail
                        go_loopw [7] (fun ix wr => ∃ k : Nat, k ≤ s.ns ∧ ix = .int .i64 k ∧ Hid (∀ j, j < k → sB s j = true) ∧ Hid (wr.heap[w.heap.size]? = some (.cells c0.toArray 49 (0, 0))) ∧ Below w.heap.size w wr) (fun ix _ => s.ns - (intOf ix).toNat)
                        case atStart => exact ⟨0, Nat.zero_le _, rfl, Lib.hid (fun j hj => by omega), HQ, HW.out⟩
                        case round =>
                          clear HQ HW
                          obtain ⟨k, hk, rfl, HK, HQ, hbk⟩ := hrel
                          have hsb : SBox wr w.heap.size s ⟨pa, pc, ta, tc, ja, jc, sa, sc⟩ := sbox_heap (by rw [← HC0.out]; exact HQ.out)
                          have d13 := hsb.c13
                          have d14 := hsb.c14
                          have d15 := hsb.c15
                          have d16 := hsb.c16
                          have hqlt := hsb.1
                          simp only at d13 d14 d15 d16
                          clear hsb
                          by_cases hlt : k < s.ns
                          · have hlt' : (k : Int) < s.ns := by omega
                            obtain ⟨b, off, hba, hb, f0, f1, f2, f3, f4, f5, f6, f7, f8, f9, f10, f11, f12⟩ := nums13 (HSA.out.on hbk).sh hlt
                            have hba' : sa = some ⟨b, off, none⟩ := hba
                            subst hba'
                            clear hba
                            obtain ⟨v, hv⟩ : ∃ v, sB s k = v := ⟨_, rfl⟩
                            have HV := Lib.hid hv
                            clear hv
                            have HZL := Lib.hid (show (Tryz.prog.info? 49).map (·.size) = some c0.length by have := HZA.out; rwa [List.size_toArray] at this)
                            have HRG := Lib.hid (show ∀ y : World, (∀ q, q < wr.heap.size → y.heap[q]? = wr.heap[q]?) → y.rangeAt w.heap.size 0 c0 from fun y h j v hv => by
                              rw [cell_of_row _ _ (0 + j) _ _ _ ((h _ hqlt).trans HQ.out), Nat.zero_add]; simpa using hv)
                            go_wp2_with fail
                            refine wp_region_held_drew (S := fun y => ∀ q, q < wr.heap.size → y.heap[q]? = wr.heap[q]?) (by kernel_rfl) (fun q hq => rfl) (fun hS0 => ?_)
                            refine wpAnyH_take (i := 0) (v := .agg c0.toArray) rfl (by kernel_rfl) (by kernel_rfl) (by kernel_rfl) (fun _ _ _ h => h) (yieldsIf_load_mid (by kernel_rfl) 49 (.tmp 1) rfl w.heap.size 0 rfl c0 _ HRG.out Tryz.underlying49 rfl HZL.out) hS0 ?_
                            go_simp
                            refine wpAnyH_take (i := 1) (v := ?_) rfl (by kernel_rfl) (by kernel_rfl) (by kernel_rfl) (fun _ _ _ h => h) (Or.inl ⟨by kernel_rfl, by (intro wz hSz; go_simp; try with_reducible rfl)⟩) hS0 ?_
                            go_simp
                            refine wpAnyH_take (i := 2) (v := ?_) rfl (by kernel_rfl) (by kernel_rfl) (by kernel_rfl) (fun _ _ _ h => h) (Or.inl ⟨by kernel_rfl, by (intro wz hSz; have d16z := (World.cell?_of_block (a := ⟨w.heap.size, 16, none⟩) (hSz _ hqlt)).trans d16; go_simp; try with_reducible rfl)⟩) hS0 ?_
                            go_simp
                            refine wpAnyH_take (i := 3) (v := ?_) rfl (by kernel_rfl) (by kernel_rfl) (by kernel_rfl) (fun _ _ _ h => h) (Or.inl ⟨by kernel_rfl, by (intro wz hSz; go_simp; try with_reducible rfl)⟩) hS0 ?_
                            go_simp
                            refine wpAnyH_take (i := 4) (v := ?_) rfl (by kernel_rfl) (by kernel_rfl) (by kernel_rfl) (fun _ _ _ h => h) (Or.inl ⟨by kernel_rfl, by (intro wz hSz; go_simp; try with_reducible rfl)⟩) hS0 ?_
                            go_simp
                            refine wpAnyH_take (i := 5) (v := ?_) rfl (by kernel_rfl) (by kernel_rfl) (by kernel_rfl) (fun _ _ _ h => h) (Or.inl ⟨by kernel_rfl, by (intro wz hSz; have f0z := (World.cell?_of_block (a := ⟨b, off + k * 13, none⟩) (hSz _ hb)).trans f0; have f1z := (World.cell?_of_block (a := ⟨b, off + k * 13 + 1, none⟩) (hSz _ hb)).trans f1; have f2z := (World.cell?_of_block (a := ⟨b, off + k * 13 + 2, none⟩) (hSz _ hb)).trans f2; have f3z := (World.cell?_of_block (a := ⟨b, off + k * 13 + 3, none⟩) (hSz _ hb)).trans f3; have f4z := (World.cell?_of_block (a := ⟨b, off + k * 13 + 4, none⟩) (hSz _ hb)).trans f4; have f5z := (World.cell?_of_block (a := ⟨b, off + k * 13 + 5, none⟩) (hSz _ hb)).trans f5; have f6z := (World.cell?_of_block (a := ⟨b, off + k * 13 + 6, none⟩) (hSz _ hb)).trans f6; have f7z := (World.cell?_of_block (a := ⟨b, off + k * 13 + 7, none⟩) (hSz _ hb)).trans f7; have f8z := (World.cell?_of_block (a := ⟨b, off + k * 13 + 8, none⟩) (hSz _ hb)).trans f8; have f9z := (World.cell?_of_block (a := ⟨b, off + k * 13 + 9, none⟩) (hSz _ hb)).trans f9; have f10z := (World.cell?_of_block (a := ⟨b, off + k * 13 + 10, none⟩) (hSz _ hb)).trans f10; have f11z := (World.cell?_of_block (a := ⟨b, off + k * 13 + 11, none⟩) (hSz _ hb)).trans f11; have f12z := (World.cell?_of_block (a := ⟨b, off + k * 13 + 12, none⟩) (hSz _ hb)).trans f12; go_simp; try with_reducible rfl)⟩) hS0 ?_
                            go_simp
                            refine wpAnyH_ready (rs := [6]) (by kernel_rfl) (by simp) ?_
                            refine AllReadyH.cons rfl (fun K hK => ?_) AllReadyH.nil
                            go_simp
                            rw [← HE0.out]
                            go_wp2_with (go_at_call 57; refine (rshape_any s ⟨pa, pc, ta, tc, ja, jc, some ⟨b, off, none⟩, sc⟩ (by omega) (by omega) (row13 s k) _).mono ?_; rintro e w1 ⟨rfl, hb1⟩)
                            rw [HE0.out, show shapeB s.nj s.np (row13 s k) = v from HV.out]
                            refine hK.out _ _ (fun q hq => (hb1.block q hq).trans (hS0 q hq)) (fun hS1 => ?_)
                            clear hK K
                            refine wpAnyH_take (i := 7) (v := ?_) rfl (by kernel_rfl) (by kernel_rfl) (by kernel_rfl) (fun _ _ _ h => h) (Or.inl ⟨by kernel_rfl, by (intro wz hSz; go_simp; try with_reducible rfl)⟩) hS1 ?_
                            go_simp
                            refine wpAnyH_done (by kernel_rfl) ?_ _
                            replace hb1 : Below wr.heap.size wr w1 := (Below.refl _ wr).drew.trans hb1
                            have hb2 := hbk.trans (hb1.mono hbk.size)
                            have HQ2 := Lib.hid ((hb1.block _ hqlt).trans HQ.out)
                            cases v
                            · have hwa := whereB_at (most := 128) (by omega) hlt HK.out HV.out
                              have HC : Hid (chk s = (25, (k : Int))) := Lib.hid (by
                                rw [chk_bad (i := 4) (by omega) HO.out (by show whereB s.ns 128 (sB s) ≠ -1; rw [hwa]; omega)]
                                show ((21 : Int) + (4 : Nat), whereB s.ns 128 (sB s)) = _
                                rw [hwa]; rfl)
                              clear hwa
                              go_wp2
                              exact bodyPost_ret (v := .tuple #[.int .i64 25, .int .i64 (k : Int)]) (by simp [results, Tryz.results19, go_sem]) rfl ⟨by rw [HC.out], hb2⟩
                            · go_wp2
                              go_roundw
                              case rel => exact ⟨k + 1, by omega, by go_num, Lib.hid (all_snoc HK.out HV.out), HQ2, hb2⟩
                              case measure => simp [intOf]; omega
                          · obtain rfl : k = s.ns := by omega
                            have HO2 : Hid (∀ k, k < 5 → wh s k = -1) := Lib.hid (whs_snoc (k := 4) HO.out (whereB_none (most := 128) (by omega) HK.out))
                            clear HO
                            have HO := HO2
                            clear HO2 HK
                            have HW := Lib.hid hbk
                            go_wp2_with (first | (with_reducible refine wpList_load_row rfl 49 (.tmp 1) rfl w.heap.size rfl 49 c0.toArray (0, 0) _ HQ.out Tryz.underlying49 rfl HZA.out ?_))
                            rw [← HE0.out]
                            refine (rlens_any s ⟨pa, pc, ta, tc, ja, jc, sa, sc⟩ (by omega) _).mono ?_
                            rintro e w1 ⟨rfl, hb1⟩
                            rw [HE0.out]
                            have hb2 := hbk.trans (hb1.mono hbk.size)
                            have HQ2 := Lib.hid ((hb1.block _ hqlt).trans HQ.out)
                            have HS2 := Lib.hid (HSA.out.on hb2)
                            obtain ⟨v, hv⟩ : ∃ v, lnB s = v := ⟨_, rfl⟩
                            rw [hv]
                            cases v
                            · have HC : Hid (chk s = (26, 0)) := Lib.hid (by
                                rw [chk_bad (i := 5) (by omega) HO.out (by show onceB (lnB s) ≠ -1; rw [hv]; simp [onceB])]
                                show ((21 : Int) + (5 : Nat), onceB (lnB s)) = _
                                rw [hv]; rfl)
                              clear hv
                              go_wp2
                              exact bodyPost_ret (v := .tuple #[.int .i64 26, .int .i64 0]) (by simp [results, Tryz.results19, go_sem]) rfl ⟨by rw [HC.out], hb2⟩
                            · have HO3 : Hid (∀ k, k < 6 → wh s k = -1) := Lib.hid (whs_snoc (k := 5) HO.out (by show onceB (lnB s) = -1; rw [hv]; rfl))
                              clear hv HO HQ
                              have HQ := HQ2
                              clear HQ2
                              go_wp2_with (first | (with_reducible refine wpList_load_row rfl 49 (.tmp 1) rfl w.heap.size rfl 49 c0.toArray (0, 0) _ HQ.out Tryz.underlying49 rfl HZA.out ?_))
                              rw [← HE0.out]
                              refine (rlamps_any s ⟨pa, pc, ta, tc, ja, jc, sa, sc⟩ _ HS2.out).mono ?_
                              rintro e w2 ⟨⟨v, rfl, hO⟩, hb3⟩
                              rw [HE0.out]
                              have hb4 := hb2.trans (hb3.mono hb2.size)
                              have hlb : (lamps s).length ≤ s.ns := lampsTo_len s s.ns
                              obtain ⟨l, hl⟩ : ∃ l, l = (lamps s).length := ⟨_, rfl⟩
                              by_cases h16 : l ≤ 16
                              · have h16' : ¬ (16 : Int) < l := by omega
                                have HC := Lib.hid (chk_ok (whs_snoc (k := 6) HO3.out (lampW_few (s := s) (by omega))))
                                obtain ⟨a9, c9, rfl⟩ := own_form hO
                                rw [← hl]
                                clear hO hl
                                go_wp2
                                exact bodyPost_ret (v := .tuple #[.int .i64 0, .int .i64 0]) (by simp [results, Tryz.results19, go_sem]) rfl ⟨by rw [HC.out], hb4⟩
                              · have h16' : (16 : Int) < l := by omega
                                have hlw := lampW_many (s := s) (by omega)
                                obtain ⟨z, hz⟩ : ∃ z : Nat, z = (lamps s).getD 16 0 := ⟨_, rfl⟩
                                have HC : Hid (chk s = (27, (z : Int))) := Lib.hid (by
                                  rw [chk_bad (i := 6) (by omega) HO3.out (by show lampW s ≠ -1; rw [hlw]; omega)]
                                  show ((21 : Int) + (6 : Nat), lampW s) = _
                                  rw [hlw, hz]; rfl)
                                obtain ⟨g, cap, hv, hc⟩ : ∃ g cap, v = .slice (some ⟨g, 0, none⟩) (lamps s).length cap ∧ w2.cell? ⟨g, 16, none⟩ = some (.int .i64 (z : Int)) := by
                                  rcases hO.2 with ⟨hv, h0⟩ | ⟨g, cap, cur, rfl, -, -, -, -, -, -⟩
                                  · omega
                                  · refine ⟨g, cap, rfl, ?_⟩
                                    have := hO.cellAt 16 (by omega)
                                    rw [this, hz, ivals, List.getElem?_map, List.getD_eq_getElem?_getD, List.getElem?_eq_getElem (show 16 < (lamps s).length by omega)]
                                    rfl
                                subst hv
                                rw [← hl]
                                clear hO hl hz hlw
                                go_wp2_with fail
                                refine wp_region_held_drew (S := fun y => y.cell? ⟨g, 16, none⟩ = some (.int .i64 (z : Int))) (by kernel_rfl) (hc) (fun hS0 => ?_)
                                refine wpAnyH_take (i := 0) (v := ?_) rfl (by kernel_rfl) (by kernel_rfl) (by kernel_rfl) (fun _ _ _ h => h) (Or.inl ⟨by kernel_rfl, by (intro wz hSz; go_simp; try with_reducible rfl)⟩) hS0 ?_
                                go_simp
                                refine wpAnyH_take (i := 1) (v := ?_) rfl (by kernel_rfl) (by kernel_rfl) (by kernel_rfl) (fun _ _ _ h => h) (Or.inl ⟨by kernel_rfl, by (intro wz hSz; go_simp; try with_reducible rfl)⟩) hS0 ?_
                                go_simp
                                refine wpAnyH_take (i := 2) (v := ?_) rfl (by kernel_rfl) (by kernel_rfl) (by kernel_rfl) (fun _ _ _ h => h) (Or.inl ⟨by kernel_rfl, by (intro wz hSz; have hcz := hSz; go_simp; try with_reducible rfl)⟩) hS0 ?_
                                go_simp
                                refine wpAnyH_take (i := 3) (v := ?_) rfl (by kernel_rfl) (by kernel_rfl) (by kernel_rfl) (fun _ _ _ h => h) (Or.inl ⟨by kernel_rfl, by (intro wz hSz; go_simp; try with_reducible rfl)⟩) hS0 ?_
                                go_simp
                                refine wpAnyH_take (i := 4) (v := ?_) rfl (by kernel_rfl) (by kernel_rfl) (by kernel_rfl) (fun _ _ _ h => h) (Or.inl ⟨by kernel_rfl, by (intro wz hSz; go_simp; try with_reducible rfl)⟩) hS0 ?_
                                go_simp
                                refine wpAnyH_done (by kernel_rfl) ?_ _
                                go_wp2
                                exact bodyPost_ret (v := .tuple #[.int .i64 27, .int .i64 (z : Int)]) (by simp [results, Tryz.results19, go_sem]) rfl ⟨by rw [HC.out], hb4.drew⟩

end Go.Proofs.YtplcbdmiccpnnaaGreat.Sc
