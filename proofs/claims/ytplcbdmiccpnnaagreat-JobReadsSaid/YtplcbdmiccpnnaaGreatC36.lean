/- Scenes: what stands in a row; the contract of the lamps. -/
import Derived.Test.YtplcbdmiccpnnaaGreatC35
import Derived.Test.YtplcbdmiccpnnaaGreatC25
import Derived.Deep.AppendLies
import Derived.Laws.AppendOwnNone
namespace Go.Proofs.YtplcbdmiccpnnaaGreat.Sc
open Go.RowKit Go.Proofs.YtplcbdmiccpnnaaGreat Go.Proofs.YtplcbdmiccpnnaaGreat.Wa Go.Proofs.YtplcbdmiccpnnaaGreat.Ve Go.Proofs.YtplcbdmiccpnnaaGreat.Tk Go.Proofs.YtplcbdmiccpnnaaGreat.Ls
set_option linter.unusedVariables false

theorem nums4 {w : World} {a : Option Addr} {n i : Nat} {L : Nat → Int} (h : Nums 4 w a n L) (hi : i < n) : ∃ b off, a = some ⟨b, off, none⟩ ∧ b < w.heap.size ∧ w.cell? ⟨b, off + i * 4, none⟩ = some (.int .i64 (L (i * 4))) ∧ w.cell? ⟨b, off + i * 4 + 1, none⟩ = some (.int .i64 (L (i * 4 + 1))) ∧ w.cell? ⟨b, off + i * 4 + 2, none⟩ = some (.int .i64 (L (i * 4 + 2))) ∧ w.cell? ⟨b, off + i * 4 + 3, none⟩ = some (.int .i64 (L (i * 4 + 3))) := by
  obtain ⟨-, h | ⟨b, off, rfl, hlt, hc⟩⟩ := h
  · omega
  · exact ⟨b, off, rfl, hlt, hc (i * 4) (by omega), hc (i * 4 + 1) (by omega), hc (i * 4 + 2) (by omega), hc (i * 4 + 3) (by omega)⟩

theorem nums5 {w : World} {a : Option Addr} {n i : Nat} {L : Nat → Int} (h : Nums 5 w a n L) (hi : i < n) : ∃ b off, a = some ⟨b, off, none⟩ ∧ b < w.heap.size ∧ w.cell? ⟨b, off + i * 5, none⟩ = some (.int .i64 (L (i * 5))) ∧ w.cell? ⟨b, off + i * 5 + 1, none⟩ = some (.int .i64 (L (i * 5 + 1))) ∧ w.cell? ⟨b, off + i * 5 + 2, none⟩ = some (.int .i64 (L (i * 5 + 2))) ∧ w.cell? ⟨b, off + i * 5 + 3, none⟩ = some (.int .i64 (L (i * 5 + 3))) ∧ w.cell? ⟨b, off + i * 5 + 4, none⟩ = some (.int .i64 (L (i * 5 + 4))) := by
  obtain ⟨-, h | ⟨b, off, rfl, hlt, hc⟩⟩ := h
  · omega
  · exact ⟨b, off, rfl, hlt, hc (i * 5) (by omega), hc (i * 5 + 1) (by omega), hc (i * 5 + 2) (by omega), hc (i * 5 + 3) (by omega), hc (i * 5 + 4) (by omega)⟩

theorem nums13 {w : World} {a : Option Addr} {n i : Nat} {L : Nat → Int} (h : Nums 13 w a n L) (hi : i < n) : ∃ b off, a = some ⟨b, off, none⟩ ∧ b < w.heap.size ∧ w.cell? ⟨b, off + i * 13, none⟩ = some (.int .i64 (L (i * 13))) ∧ w.cell? ⟨b, off + i * 13 + 1, none⟩ = some (.int .i64 (L (i * 13 + 1))) ∧ w.cell? ⟨b, off + i * 13 + 2, none⟩ = some (.int .i64 (L (i * 13 + 2))) ∧ w.cell? ⟨b, off + i * 13 + 3, none⟩ = some (.int .i64 (L (i * 13 + 3))) ∧ w.cell? ⟨b, off + i * 13 + 4, none⟩ = some (.int .i64 (L (i * 13 + 4))) ∧ w.cell? ⟨b, off + i * 13 + 5, none⟩ = some (.int .i64 (L (i * 13 + 5))) ∧ w.cell? ⟨b, off + i * 13 + 6, none⟩ = some (.int .i64 (L (i * 13 + 6))) ∧ w.cell? ⟨b, off + i * 13 + 7, none⟩ = some (.int .i64 (L (i * 13 + 7))) ∧ w.cell? ⟨b, off + i * 13 + 8, none⟩ = some (.int .i64 (L (i * 13 + 8))) ∧ w.cell? ⟨b, off + i * 13 + 9, none⟩ = some (.int .i64 (L (i * 13 + 9))) ∧ w.cell? ⟨b, off + i * 13 + 10, none⟩ = some (.int .i64 (L (i * 13 + 10))) ∧ w.cell? ⟨b, off + i * 13 + 11, none⟩ = some (.int .i64 (L (i * 13 + 11))) ∧ w.cell? ⟨b, off + i * 13 + 12, none⟩ = some (.int .i64 (L (i * 13 + 12))) := by
  obtain ⟨-, h | ⟨b, off, rfl, hlt, hc⟩⟩ := h
  · omega
  · exact ⟨b, off, rfl, hlt, hc (i * 13) (by omega), hc (i * 13 + 1) (by omega), hc (i * 13 + 2) (by omega), hc (i * 13 + 3) (by omega), hc (i * 13 + 4) (by omega), hc (i * 13 + 5) (by omega), hc (i * 13 + 6) (by omega), hc (i * 13 + 7) (by omega), hc (i * 13 + 8) (by omega), hc (i * 13 + 9) (by omega), hc (i * 13 + 10) (by omega), hc (i * 13 + 11) (by omega), hc (i * 13 + 12) (by omega)⟩

theorem infoInt8 : (Tryz.prog.info? 3).map (fun i => (i.zero, i.size, i.bytes)) = some (some (.int .i64 0), 1, 8) := by kernel_rfl

/-- a row of numbers as cells -/
def ivals (l : List Nat) : List Value := l.map fun (i : Nat) => .int .i64 (i : Int)

theorem ivals_snoc (l : List Nat) (k : Nat) : ivals (l ++ [k]) = ivals l ++ [.int .i64 (k : Int)] := by simp [ivals]

theorem ivals_length (l : List Nat) : (ivals l).length = l.length := by simp [ivals]

theorem lamp_no {s : Scn} {k : Nat} (h : lampB s k = false) : lampsTo s (k + 1) = lampsTo s k := by simp [lampsTo, h]

theorem lamp_yes {s : Scn} {k : Nat} (h : lampB s k = true) : lampsTo s (k + 1) = lampsTo s k ++ [k] := by simp [lampsTo, h]

theorem own_form {base : Nat} {e : TypeId} {w : World} {v : Value} {c n : Nat} {xs : List Value} (h : w.ownsRow base e c v n xs) : ∃ a cap, v = .slice a n cap := by
  rcases h.2 with ⟨hv, h0⟩ | ⟨g, cap, cur, rfl, -, -, -, -, -, -⟩
  · subst h0; exact ⟨none, 0, hv⟩
  · exact ⟨_, _, rfl⟩

theorem SBox.low {w w' : World} {q N : Nat} {s : Scn} {a : Pla} (h : SBox w q s a) (hb : Below N w w') (hq : q < N) : SBox w' q s a := by
  obtain ⟨h0, h⟩ := h
  have e : ∀ i, w'.cell? ⟨q, i, none⟩ = w.cell? ⟨q, i, none⟩ := fun i => hb.cell (p := ⟨q, i, none⟩) hq
  refine ⟨Nat.lt_of_lt_of_le h0 hb.size, ?_⟩
  rw [e, e, e, e, e, e, e, e, e, e, e, e, e, e, e, e, e]
  exact h

theorem own_mono {w : World} {b1 b2 : Nat} {e : TypeId} {size n : Nat} {v : Value} {xs : List Value} (h : w.ownsRow b1 e size v n xs) (hb : b2 ≤ b1) : w.ownsRow b2 e size v n xs := by
  refine ⟨h.1, ?_⟩
  rcases h.2 with h' | ⟨g, cap, cur, e1, e2, e3⟩
  · exact .inl h'
  · exact .inr ⟨g, cap, cur, e1, by omega, e3⟩

set_option maxHeartbeats 4000000 in
set_option maxRecDepth 100000 in
theorem lamps_any (s : Scn) (a : Pla) (w : World) (hs : ScAt w s a) :
    Calls Tryz.prog 80 #[SV s a] w fun e w' => (∃ v, e = .returned v ∧ w'.ownsRow w.heap.size 3 1 v (lamps s).length (ivals (lamps s))) ∧ Below w.heap.size w w' := by
  obtain ⟨i0, hi, hz0, hz1, hz2⟩ := info_parts infoInt8
  obtain ⟨pa, pc, ta, tc, ja, jc, sa, sc⟩ := a
  have HB := Lib.hid (SBox.new w s ⟨pa, pc, ta, tc, ja, jc, sa, sc⟩ 36)
  have HSC := Lib.hid hs
  have hns : s.ns * (13 * 8) ≤ 140737488351232 := hs.sh.1
  have hnp : s.np * (5 * 8) ≤ 140737488351232 := hs.p.1
  clear hs
  go_enter Tryz.func80, Tryz.ntmps80
  have HW0 := Lib.hid (below_n1 w (.cells (SC s ⟨pa, pc, ta, tc, ja, jc, sa, sc⟩) 36))
  go_wp2_with fail
  go_loopw [3, 9] (fun v i wr => ∃ k : Nat, k ≤ s.ns ∧ i = .int .i64 k ∧ Hid (wr.ownsRow (w.heap.size + 1) 3 1 v (lampsTo s k).length (ivals (lampsTo s k))) ∧ Hid (SBox wr w.heap.size s ⟨pa, pc, ta, tc, ja, jc, sa, sc⟩) ∧ Below w.heap.size w wr ∧ w.heap.size + 1 ≤ wr.heap.size) (fun _ i _ => s.ns - (intOf i).toNat)
  case atStart => exact ⟨0, Nat.zero_le _, rfl, Lib.hid (World.ownsRow_nil _ _ _ _), HB, HW0.out, by simp⟩
  case round =>
    obtain ⟨k, hk, rfl, HI, HQ, hbk, hsz⟩ := hrel
    by_cases hlt : k < s.ns
    · obtain ⟨b, off, hba, hb, f0, f1, f2, f3, f4, f5, f6, f7, f8, f9, f10, f11, f12⟩ := nums13 (HSC.out.on hbk).sh hlt
      have hlt' : (k : Int) < s.ns := by omega
      obtain ⟨q0, q⟩ := HQ.out
      have c13 := q.2.2.2.2.2.2.2.2.2.2.2.2.2.1
      clear q
      obtain ⟨y, hy⟩ : ∃ y, y = s.S (k * 13 + 1) := ⟨_, rfl⟩
      rw [← hy] at f1
      obtain ⟨v, hv⟩ : ∃ v, inB y 0 ((s.np : Int) - 1) = v := ⟨_, rfl⟩
      have HV := Lib.hid hv
      have hba' : sa = some ⟨b, off, none⟩ := hba
      subst hba'
      clear hba
      cases v
      · have hl : lampB s k = false := by
          have : ¬ (0 ≤ s.S (k * 13 + 1) ∧ s.S (k * 13 + 1) < s.np) := by
            intro h
            have := inB_true.2 (show (0 : Int) ≤ y ∧ y ≤ (s.np : Int) - 1 by omega)
            rw [hv] at this; cases this
          simp [lampB, this]
        have HL := Lib.hid (lamp_no hl)
        clear hl hy hv
        go_wp2_with (go_at_call 77; with_reducible (refine (one_is _ _ _ HV.out _).mono ?_); rintro e w' ⟨rfl, rfl⟩)
        go_roundw
        case rel => exact ⟨k + 1, by omega, by go_num, by rw [HL.out]; exact Lib.hid (own_below HI.out (below_n1 _ _)), Lib.hid (HQ.out.on (below_n1 _ _)), hbk.trans ((below_n1 _ _).mono hbk.size), by simp; omega⟩
        case measure => simp [intOf]; omega
      · obtain ⟨hy0, hy1⟩ := inB_true.1 hv
        obtain ⟨p, rfl⟩ : ∃ p : Nat, y = p := ⟨y.toNat, by omega⟩
        have hp : p < s.np := by omega
        have hp' : (p : Int) < s.np := by omega
        obtain ⟨pb, poff, hpa, hpb, g0, -, -, -, -⟩ := nums5 (HSC.out.on hbk).p hp
        have hpa' : pa = some ⟨pb, poff, none⟩ := hpa
        subst hpa'
        clear hpa hv
        by_cases h3 : s.P (p * 5) = 3
        · have hl : lampB s k = true := by
            have e1 : (s.S (k * 13 + 1)).toNat = p := by omega
            have e2 : 0 ≤ s.S (k * 13 + 1) ∧ s.S (k * 13 + 1) < s.np := by omega
            simp [lampB, e1, e2, h3]
          have HL := Lib.hid (lamp_yes hl)
          have hlen := lampsTo_len s k
          clear hl hy
          rw [h3] at g0
          have HI1 := Lib.hid (own_below HI.out (below_n1 wr (.cells #[.int .i64 (s.S (k * 13)), .int .i64 p, .int .i64 (s.S (k * 13 + 2)), .int .i64 (s.S (k * 13 + 3)), .int .i64 (s.S (k * 13 + 4)), .int .i64 (s.S (k * 13 + 5)), .int .i64 (s.S (k * 13 + 6)), .int .i64 (s.S (k * 13 + 7)), .int .i64 (s.S (k * 13 + 8)), .int .i64 (s.S (k * 13 + 9)), .int .i64 (s.S (k * 13 + 10)), .int .i64 (s.S (k * 13 + 11)), .int .i64 (s.S (k * 13 + 12))] 103)))
          go_wp2_with (first | (go_at_call 77; with_reducible (refine (one_is _ _ _ HV.out _).mono ?_); rintro e w' ⟨rfl, rfl⟩) | (at_builtin; refine wpList_append_own _ rfl _ _ 134 rfl (w.heap.size + 1) 3 i0 (.int .i64 0) 1 8 Tryz.underlying134 hi hz0 hz1 hz2 rfl (by decide) _ _ _ rfl (HI1.out.alloc _) ⟨wr.heap.size + 1, 0, none⟩ 1 1 [.int .i64 (k : Int)] rfl rfl ?d1 ?d2 ?d3 ?d4 ?d5 ?_))
          case d1 =>
            intro j u hu
            match j, hu with
            | 0, hu => simp at hu; subst hu; simp [Addr.add]
            | j + 1, hu => simp at hu
          case d2 => intro u hu; simp at hu; subst hu; rfl
          case d3 => unfold maxLen; omega
          case d4 => omega
          case d5 => simp; omega
          intro v2 w2 hown2 hgrow2 _
          have hb1 := hbk.alloc hbk.size (.cells #[.int .i64 (s.S (k * 13)), .int .i64 p, .int .i64 (s.S (k * 13 + 2)), .int .i64 (s.S (k * 13 + 3)), .int .i64 (s.S (k * 13 + 4)), .int .i64 (s.S (k * 13 + 5)), .int .i64 (s.S (k * 13 + 6)), .int .i64 (s.S (k * 13 + 7)), .int .i64 (s.S (k * 13 + 8)), .int .i64 (s.S (k * 13 + 9)), .int .i64 (s.S (k * 13 + 10)), .int .i64 (s.S (k * 13 + 11)), .int .i64 (s.S (k * 13 + 12))] 103)
          have hb2 : Below w.heap.size w w2 := (hb1.alloc hb1.size _).grown hgrow2 (by simp; omega) (fun q hq => by have := (HI.out.lt q hq).1; omega)
          have hbq : Below (w.heap.size + 1) wr w2 := (((below_n1 wr _).mono hsz).alloc (by simp; omega) _).grown hgrow2 (by simp; omega) (fun q hq => (HI.out.lt q hq).1)
          have HQ2 := Lib.hid (HQ.out.low hbq (by omega))
          have hz2 := hbq.size
          have HI2 : Hid (w2.ownsRow (w.heap.size + 1) 3 1 v2 (lampsTo s (k + 1)).length (ivals (lampsTo s (k + 1)))) := by
            rw [HL.out, ivals_snoc, List.length_append]; exact Lib.hid hown2
          clear hown2 hgrow2 HI HI1 HQ hb1 hbq
          go_wp2_with fail
          go_roundw
          case rel => exact ⟨k + 1, by omega, by go_num, HI2, HQ2, hb2, by omega⟩
          case measure => simp [intOf]; omega
        · have hl : lampB s k = false := by
            have e1 : (s.S (k * 13 + 1)).toNat = p := by omega
            simp [lampB, e1, h3]
          have HL := Lib.hid (lamp_no hl)
          clear hl hy
          go_wp2_with (go_at_call 77; with_reducible (refine (one_is _ _ _ HV.out _).mono ?_); rintro e w' ⟨rfl, rfl⟩)
          go_roundw
          case rel => exact ⟨k + 1, by omega, by go_num, by rw [HL.out]; exact Lib.hid (own_below HI.out (below_n1 _ _)), Lib.hid (HQ.out.on (below_n1 _ _)), hbk.trans ((below_n1 _ _).mono hbk.size), by simp; omega⟩
          case measure => simp [intOf]; omega
    · obtain rfl : k = s.ns := by omega
      obtain ⟨a9, c9, rfl⟩ := own_form HI.out
      go_wp2
      go_ret
      exact ⟨⟨_, rfl, own_mono HI.out (by omega)⟩, hbk⟩

end Go.Proofs.YtplcbdmiccpnnaaGreat.Sc
