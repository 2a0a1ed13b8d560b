/- Scenes: the document's lamps. -/
import Derived.Test.YtplcbdmiccpnnaaGreatC38
namespace Go.Proofs.YtplcbdmiccpnnaaGreat.Sc
open Go.RowKit Go.Proofs.YtplcbdmiccpnnaaGreat Go.Proofs.YtplcbdmiccpnnaaGreat.Wa Go.Proofs.YtplcbdmiccpnnaaGreat.Ve Go.Proofs.YtplcbdmiccpnnaaGreat.Tk Go.Proofs.YtplcbdmiccpnnaaGreat.Ls
set_option linter.unusedVariables false

set_option maxHeartbeats 4000000 in
set_option maxRecDepth 100000 in
theorem rlamps_any (s : Scn) (a : Pla) (w : World) (hs : ScAt w s a) :
    Calls Tryz.prog 59 #[SV s a] w fun e w' => (∃ v, e = .returned v ∧ w'.ownsRow w.heap.size 3 1 v (lamps s).length (ivals (lamps s))) ∧ Below w.heap.size w w' := by
  obtain ⟨i0, hi, hz0, hz1, hz2⟩ := info_parts infoInt8
  obtain ⟨pa, pc, ta, tc, ja, jc, sa, sc⟩ := a
  have HB := Lib.hid (SBox.new w s ⟨pa, pc, ta, tc, ja, jc, sa, sc⟩ 49)
  have HSC := Lib.hid hs
  have hns : s.ns * (13 * 8) ≤ 140737488351232 := hs.sh.1
  have hnp : s.np * (5 * 8) ≤ 140737488351232 := hs.p.1
  clear hs
  go_enter Tryz.func59, Tryz.ntmps59
  have HW0 := Lib.hid (below_n1 w (.cells (SC s ⟨pa, pc, ta, tc, ja, jc, sa, sc⟩) 49))
  go_wp2_with fail
  go_loopw [3, 4] (fun v i wr => ∃ k : Nat, k ≤ s.ns ∧ i = .int .i64 k ∧ Hid (wr.ownsRow (w.heap.size + 1) 3 1 v (lampsTo s k).length (ivals (lampsTo s k))) ∧ Hid (SBox wr w.heap.size s ⟨pa, pc, ta, tc, ja, jc, sa, sc⟩) ∧ Below w.heap.size w wr ∧ w.heap.size + 1 ≤ wr.heap.size) (fun _ i _ => s.ns - (intOf i).toNat)
  case atStart => exact ⟨0, Nat.zero_le _, rfl, Lib.hid (World.ownsRow_nil _ _ _ _), HB, HW0.out, by simp⟩
  case round =>
    obtain ⟨k, hk, rfl, HI, HQ, hbk, hsz⟩ := hrel
    have hsb := HQ.out
    have d13 := hsb.c13
    have d16 := hsb.c16
    simp only at d13 d16
    clear hsb
    by_cases hlt : k < s.ns
    · obtain ⟨b, off, hba, hb, f0, f1, f2, f3, f4, f5, f6, f7, f8, f9, f10, f11, f12⟩ := nums13 (HSC.out.on hbk).sh hlt
      clear f0 f2 f3 f4 f5 f6 f7 f8 f9 f10 f11 f12
      have hlt' : (k : Int) < s.ns := by omega
      obtain ⟨y, hy⟩ : ∃ y, y = s.S (k * 13 + 1) := ⟨_, rfl⟩
      rw [← hy] at f1
      have hba' : sa = some ⟨b, off, none⟩ := hba
      subst hba'
      clear hba
      by_cases hy0 : 0 ≤ y
      · by_cases hy1 : y < s.np
        · obtain ⟨p, rfl⟩ : ∃ p : Nat, y = p := ⟨y.toNat, by omega⟩
          have hp : p < s.np := by omega
          have hp' : (p : Int) < s.np := by omega
          obtain ⟨pb, poff, hpa, hpb, g0, -, -, -, -⟩ := nums5 (HSC.out.on hbk).p hp
          have hpa' : pa = some ⟨pb, poff, none⟩ := hpa
          subst hpa'
          clear hpa
          by_cases h3 : s.P (p * 5) = 3
          · have hl : lampB s k = true := by
              have e1 : (s.S (k * 13 + 1)).toNat = p := by omega
              have e2 : 0 ≤ s.S (k * 13 + 1) ∧ s.S (k * 13 + 1) < s.np := by omega
              simp [lampB, e1, e2, h3]
            have HL := Lib.hid (lamp_yes hl)
            have hlen := lampsTo_len s k
            clear hl hy
            rw [h3] at g0
            go_wp2_with (first | (at_builtin; refine wpList_append_own _ rfl _ _ 134 rfl (w.heap.size + 1) 3 i0 (.int .i64 0) 1 8 Tryz.underlying134 hi hz0 hz1 hz2 rfl (by decide) _ _ _ rfl (HI.out.alloc _) ⟨wr.heap.size, 0, none⟩ 1 1 [.int .i64 (k : Int)] rfl rfl ?d1 ?d2 ?d3 ?d4 ?d5 ?_))
            case d1 =>
              intro j u hu
              match j, hu with
              | 0, hu => simp at hu; subst hu; simp [Addr.add]
              | j + 1, hu => simp at hu
            case d2 => intro u hu; simp at hu; subst hu; rfl
            case d3 => unfold maxLen; omega
            case d4 => omega
            case d5 => simp; omega
            intro v2 w2 hown2 hgrow2 _
            have hb2 : Below w.heap.size w w2 := (hbk.alloc hbk.size _).grown hgrow2 (by simp; omega) (fun q hq => by have := (HI.out.lt q hq).1; omega)
            have hbq : Below (w.heap.size + 1) wr w2 := ((below_n1 wr _).mono hsz).grown hgrow2 (by simp; omega) (fun q hq => (HI.out.lt q hq).1)
            have HQ2 := Lib.hid (HQ.out.low hbq (by omega))
            have hz2 := hbq.size
            have HI2 : Hid (w2.ownsRow (w.heap.size + 1) 3 1 v2 (lampsTo s (k + 1)).length (ivals (lampsTo s (k + 1)))) := by
              rw [HL.out, ivals_snoc, List.length_append]; exact Lib.hid hown2
            clear hown2 hgrow2 HI HQ hbq
            go_wp2_with fail
            go_roundw
            case rel => exact ⟨k + 1, by omega, by go_num, HI2, HQ2, hb2, by omega⟩
            case measure => simp [intOf]; omega
          · have hl : lampB s k = false := by
              have e1 : (s.S (k * 13 + 1)).toNat = p := by omega
              simp [lampB, e1, h3]
            have HL := Lib.hid (lamp_no hl)
            clear hl hy
            go_wp2_with fail
            go_roundw
            case rel => exact ⟨k + 1, by omega, by go_num, by rw [HL.out]; exact HI, HQ, hbk, hsz⟩
            case measure => simp [intOf]; omega
        · have hl : lampB s k = false := by
            have : ¬ (0 ≤ s.S (k * 13 + 1) ∧ s.S (k * 13 + 1) < s.np) := by omega
            simp [lampB, this]
          have HL := Lib.hid (lamp_no hl)
          clear hl hy
          go_wp2_with fail
          go_roundw
          case rel => exact ⟨k + 1, by omega, by go_num, by rw [HL.out]; exact HI, HQ, hbk, hsz⟩
          case measure => simp [intOf]; omega
      · have hl : lampB s k = false := by
          have : ¬ (0 ≤ s.S (k * 13 + 1) ∧ s.S (k * 13 + 1) < s.np) := by omega
          simp [lampB, this]
        have HL := Lib.hid (lamp_no hl)
        clear hl hy
        go_wp2_with fail
        go_roundw
        case rel => exact ⟨k + 1, by omega, by go_num, by rw [HL.out]; exact HI, HQ, hbk, hsz⟩
        case measure => simp [intOf]; omega
    · obtain rfl : k = s.ns := by omega
      obtain ⟨a9, c9, rfl⟩ := own_form HI.out
      go_wp2
      go_ret
      exact ⟨⟨_, rfl, own_mono HI.out (by omega)⟩, hbk⟩

end Go.Proofs.YtplcbdmiccpnnaaGreat.Sc
