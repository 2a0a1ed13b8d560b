/- BoxPairs: the walk: the law returns true, whatever pairs, whatever part and whatever moving shape come in; nothing that was there is written. -/
import Derived.Test.YthlcfhnlkpobhaaBd
import Derived.Test.YthlcfhnlkpobhaaBz
import Derived.Test.YthlcfhnlkpobhaaBp
import Derived.Test.YthlcfhnlkpobhaaMo
import Derived.Test.YthlcfhnlkpobhaaNi
import Derived.Test.YthlcfhnlkpobhaaLs
import Derived.Test.YthlcfhnlkpobhaaLr
namespace Go.Proofs.Ythlcfhnlkpobhaa.boxPairsW
open Go.RowKit Go.Proofs.Ythlcfhnlkpobhaa Go.Proofs.Ythlcfhnlkpobhaa.Wa Go.Proofs.Ythlcfhnlkpobhaa.Ve Go.Proofs.Ythlcfhnlkpobhaa.Au Go.Proofs.Ythlcfhnlkpobhaa.Bx Go.Proofs.Ythlcfhnlkpobhaa.Ls
set_option linter.unusedVariables false
set_option linter.unusedSimpArgs false

theorem infoPair : (Try.prog.info? 75).map (fun i => (i.zero, i.size, i.bytes)) = some (some (.agg #[.int .i64 0, .int .i64 0, .int .i64 0, .int .i64 0, .int .i64 0, .int .i64 0, .int .i64 0, .int .i64 0, .int .i64 0, .int .i64 0, .int .i64 0, .int .i64 0]), 12, 96) := by kernel_rfl

/-- the values of a row's numbers, twelve a thing -/
def flat12 (L : Nat → Int) (k : Nat) : List Value := (List.range (k * 12)).map fun j => .int .i64 (L j)

theorem flat12_step (L : Nat → Int) (k : Nat) : flat12 L (k + 1) = flat12 L k ++ [.int .i64 (L (k * 12)), .int .i64 (L (k * 12 + 1)), .int .i64 (L (k * 12 + 2)), .int .i64 (L (k * 12 + 3)), .int .i64 (L (k * 12 + 4)), .int .i64 (L (k * 12 + 5)), .int .i64 (L (k * 12 + 6)), .int .i64 (L (k * 12 + 7)), .int .i64 (L (k * 12 + 8)), .int .i64 (L (k * 12 + 9)), .int .i64 (L (k * 12 + 10)), .int .i64 (L (k * 12 + 11))] := by
  simp [flat12, show (k + 1) * 12 = k * 12 + 1 + 1 + 1 + 1 + 1 + 1 + 1 + 1 + 1 + 1 + 1 + 1 by omega, List.range_succ]

theorem flat12_at (L : Nat → Int) (k j : Nat) (h : j < k * 12) : (flat12 L k)[j]? = some (.int .i64 (L j)) := by
  simp [flat12, h]

theorem row12 {w : World} {g : Nat} {t : TypeId} {L : Nat → Int} (h : w.heap[g]? = some (.cells #[.int .i64 (L 0), .int .i64 (L 1), .int .i64 (L 2), .int .i64 (L 3), .int .i64 (L 4), .int .i64 (L 5), .int .i64 (L 6), .int .i64 (L 7), .int .i64 (L 8), .int .i64 (L 9), .int .i64 (L 10), .int .i64 (L 11)] t (0, 0))) : ∀ j, j < 12 → w.cell? ⟨g, j, none⟩ = some (.int .i64 (L j)) := fun j hj => by
  rw [cell_of_row _ _ j _ _ _ h]
  match j, hj with
  | 0, _ => rfl
  | 1, _ => rfl
  | 2, _ => rfl
  | 3, _ => rfl
  | 4, _ => rfl
  | 5, _ => rfl
  | 6, _ => rfl
  | 7, _ => rfl
  | 8, _ => rfl
  | 9, _ => rfl
  | 10, _ => rfl
  | 11, _ => rfl

set_option maxHeartbeats 40000000 in
set_option maxRecDepth 100000 in
theorem walk (a1 : Option Addr) (n1 c1 : Nat) (L : Nat → Int) (t m0 m1 m2 m3 m4 m5 m6 m7 m8 m9 m10 m11 m12 m13 m14 m15 m16 m17 m18 m19 m20 m21 m22 m23 : Int) (w : World) (hl : Ni.Nums 12 w a1 n1 L) :
    Calls Try.prog 4 #[.slice a1 n1 c1, .int .i64 t, .agg #[.int .i64 m0, .int .i64 m1, .int .i64 m2, .int .i64 m3, .int .i64 m4, .int .i64 m5, .int .i64 m6, .int .i64 m7, .int .i64 m8, .int .i64 m9, .int .i64 m10, .int .i64 m11, .int .i64 m12, .int .i64 m13, .int .i64 m14, .int .i64 m15, .int .i64 m16, .int .i64 m17, .int .i64 m18, .int .i64 m19, .int .i64 m20, .int .i64 m21, .int .i64 m22, .int .i64 m23]] w fun e w' => e = .returned (.bool true) ∧ Below w.heap.size w w' := by
  obtain ⟨i0, hi, hz0, hz1, hz2⟩ := info_parts infoPair
  obtain ⟨q_0, q_1, q_2, q_3, q_4, q_5, q_6, q_7, q_8, q_9, q_10, q_11, hMB0, hMR0⟩ := moving_both m0 m1 m2 m3 m4 m5 m6 m7 m8 m9 m10 m11 m12 m13 m14 m15 m16 m17 m18 m19 m20 m21 m22 m23
  have HMB := Lib.hid hMB0
  have HMR := Lib.hid hMR0
  clear hMB0 hMR0
  go_enter Try.func4, Try.ntmps4
  go_upto_region 1 with fail
  have hR := Au.rows1 w (.cells #[.int .i64 m0, .int .i64 m1, .int .i64 m2, .int .i64 m3, .int .i64 m4, .int .i64 m5, .int .i64 m6, .int .i64 m7, .int .i64 m8, .int .i64 m9, .int .i64 m10, .int .i64 m11, .int .i64 m12, .int .i64 m13, .int .i64 m14, .int .i64 m15, .int .i64 m16, .int .i64 m17, .int .i64 m18, .int .i64 m19, .int .i64 m20, .int .i64 m21, .int .i64 m22, .int .i64 m23] 64)
  have HUx := below_n1 w (.cells #[.int .i64 m0, .int .i64 m1, .int .i64 m2, .int .i64 m3, .int .i64 m4, .int .i64 m5, .int .i64 m6, .int .i64 m7, .int .i64 m8, .int .i64 m9, .int .i64 m10, .int .i64 m11, .int .i64 m12, .int .i64 m13, .int .i64 m14, .int .i64 m15, .int .i64 m16, .int .i64 m17, .int .i64 m18, .int .i64 m19, .int .i64 m20, .int .i64 m21, .int .i64 m22, .int .i64 m23] 64)
  obtain ⟨y0, hy0⟩ : ∃ y0, w.alloc (.cells #[.int .i64 m0, .int .i64 m1, .int .i64 m2, .int .i64 m3, .int .i64 m4, .int .i64 m5, .int .i64 m6, .int .i64 m7, .int .i64 m8, .int .i64 m9, .int .i64 m10, .int .i64 m11, .int .i64 m12, .int .i64 m13, .int .i64 m14, .int .i64 m15, .int .i64 m16, .int .i64 m17, .int .i64 m18, .int .i64 m19, .int .i64 m20, .int .i64 m21, .int .i64 m22, .int .i64 m23] 64) = y0 := ⟨_, rfl⟩
  rw [hy0] at hR HUx ⊢
  clear hy0
  have HU0 := Lib.hid HUx
  clear HUx
  have hr0_0 := hR
  clear hR
  have HL := Lib.hid (hl.on HU0.out)
  clear hl
  obtain ⟨wb, rfl⟩ : ∃ z : World, z = y0 := ⟨_, rfl⟩
  have HW := HU0
  have HR := Lib.hid hr0_0
  clear HU0 hr0_0
  by_cases e1 : n1 = 0
  · subst e1
    go_wp2_with fail
    refine (awake_any _).mono ?_
    rintro e w1 ⟨rfl, hb⟩
    go_wp2
    go_ret
    exact ⟨rfl, HW.out.trans (hb.mono HW.out.size)⟩
  have g1 : ((n1 : Int) == 0) = false := by simpa using e1
  by_cases e3 : (40 : Int) < n1
  · have g3 := decide_eq_true e3
    go_wp2_with fail
    refine (awake_any _).mono ?_
    rintro e w1 ⟨rfl, hb⟩
    go_wp2
    go_ret
    exact ⟨rfl, HW.out.trans (hb.mono HW.out.size)⟩
  have g3 := decide_eq_false e3
  go_wp2_with fail
  clear g1 g3
  go_loopw [7, 21] (fun s7 s21 wr => ∃ k : Nat, k ≤ n1 ∧ s21 = .int .i64 k ∧ wr.ownsRow wb.heap.size 75 12 s7 k (flat12 L k) ∧ Hid (Below wb.heap.size wb wr)) (fun _ s21 _ => n1 - (intOf s21).toNat)
  case atStart => exact ⟨0, by omega, rfl, World.ownsRow_nil _ _ _ _, Lib.hid (Below.refl _ _)⟩
  case round =>
    obtain ⟨k, hk, rfl, hin, HU⟩ := hrel
    obtain ⟨y0, rfl⟩ : ∃ y : World, y = wr := ⟨_, rfl⟩
    by_cases hlt : k < n1
    · have hlt' : (k : Int) < n1 := by omega
      obtain ⟨-, h0 | ⟨b, off, rfl, hb, hc⟩⟩ := HL.out
      · exact absurd hlt (by omega)
      have C0 : y0.cell? ⟨b, off + k * 12, none⟩ = some (.int .i64 (L (k * 12))) := (HU.out.cell (p := ⟨b, off + (k * 12 + 0), none⟩) hb).trans (hc (k * 12 + 0) (by omega))
      have C1 : y0.cell? ⟨b, off + k * 12 + 1, none⟩ = some (.int .i64 (L (k * 12 + 1))) := (HU.out.cell (p := ⟨b, off + (k * 12 + 1), none⟩) hb).trans (hc (k * 12 + 1) (by omega))
      have C2 : y0.cell? ⟨b, off + k * 12 + 2, none⟩ = some (.int .i64 (L (k * 12 + 2))) := (HU.out.cell (p := ⟨b, off + (k * 12 + 2), none⟩) hb).trans (hc (k * 12 + 2) (by omega))
      have C3 : y0.cell? ⟨b, off + k * 12 + 3, none⟩ = some (.int .i64 (L (k * 12 + 3))) := (HU.out.cell (p := ⟨b, off + (k * 12 + 3), none⟩) hb).trans (hc (k * 12 + 3) (by omega))
      have C4 : y0.cell? ⟨b, off + k * 12 + 4, none⟩ = some (.int .i64 (L (k * 12 + 4))) := (HU.out.cell (p := ⟨b, off + (k * 12 + 4), none⟩) hb).trans (hc (k * 12 + 4) (by omega))
      have C5 : y0.cell? ⟨b, off + k * 12 + 5, none⟩ = some (.int .i64 (L (k * 12 + 5))) := (HU.out.cell (p := ⟨b, off + (k * 12 + 5), none⟩) hb).trans (hc (k * 12 + 5) (by omega))
      have C6 : y0.cell? ⟨b, off + k * 12 + 6, none⟩ = some (.int .i64 (L (k * 12 + 6))) := (HU.out.cell (p := ⟨b, off + (k * 12 + 6), none⟩) hb).trans (hc (k * 12 + 6) (by omega))
      have C7 : y0.cell? ⟨b, off + k * 12 + 7, none⟩ = some (.int .i64 (L (k * 12 + 7))) := (HU.out.cell (p := ⟨b, off + (k * 12 + 7), none⟩) hb).trans (hc (k * 12 + 7) (by omega))
      have C8 : y0.cell? ⟨b, off + k * 12 + 8, none⟩ = some (.int .i64 (L (k * 12 + 8))) := (HU.out.cell (p := ⟨b, off + (k * 12 + 8), none⟩) hb).trans (hc (k * 12 + 8) (by omega))
      have C9 : y0.cell? ⟨b, off + k * 12 + 9, none⟩ = some (.int .i64 (L (k * 12 + 9))) := (HU.out.cell (p := ⟨b, off + (k * 12 + 9), none⟩) hb).trans (hc (k * 12 + 9) (by omega))
      have C10 : y0.cell? ⟨b, off + k * 12 + 10, none⟩ = some (.int .i64 (L (k * 12 + 10))) := (HU.out.cell (p := ⟨b, off + (k * 12 + 10), none⟩) hb).trans (hc (k * 12 + 10) (by omega))
      have C11 : y0.cell? ⟨b, off + k * 12 + 11, none⟩ = some (.int .i64 (L (k * 12 + 11))) := (HU.out.cell (p := ⟨b, off + (k * 12 + 11), none⟩) hb).trans (hc (k * 12 + 11) (by omega))
      have HI := Lib.hid hin
      clear hc hin
      go_wp2_with fail
      refine (ptopair_any _ _ _ _ _ _ _ _ _ _ _ _ _).mono ?_
      rintro e y1 ⟨rfl, hb1⟩
      have hb1' := below_c1 hb1
      have HI1 := Lib.hid (own_below HI.out hb1')
      have HU1 := Lib.hid (HU.out.trans (hb1'.mono HU.out.size))
      have hsz := HU1.out.size
      clear HI HU hb1 C0 C1 C2 C3 C4 C5 C6 C7 C8 C9 C10 C11
      go_wp2_with (first | (at_builtin; refine wpList_append_own _ rfl _ _ 65 rfl wb.heap.size 75 i0 (.agg #[.int .i64 0, .int .i64 0, .int .i64 0, .int .i64 0, .int .i64 0, .int .i64 0, .int .i64 0, .int .i64 0, .int .i64 0, .int .i64 0, .int .i64 0, .int .i64 0]) 12 96 Try.underlying65 hi hz0 hz1 hz2 rfl (by decide) _ _ _ rfl (HI1.out.alloc _) ⟨y1.heap.size, 0, none⟩ 1 1 [.int .i64 (L (k * 12)), .int .i64 (L (k * 12 + 1)), .int .i64 (L (k * 12 + 2)), .int .i64 (L (k * 12 + 3)), .int .i64 (L (k * 12 + 4)), .int .i64 (L (k * 12 + 5)), .int .i64 (L (k * 12 + 6)), .int .i64 (L (k * 12 + 7)), .int .i64 (L (k * 12 + 8)), .int .i64 (L (k * 12 + 9)), .int .i64 (L (k * 12 + 10)), .int .i64 (L (k * 12 + 11))] rfl rfl ?c1 ?c2 ?c3 ?c4 ?c5 ?_))
      case c1 =>
        intro j u hj
        match j, hj with
        | 0, hj => simp at hj; subst hj; simp [Addr.add]
        | 1, hj => simp at hj; subst hj; simp [Addr.add]
        | 2, hj => simp at hj; subst hj; simp [Addr.add]
        | 3, hj => simp at hj; subst hj; simp [Addr.add]
        | 4, hj => simp at hj; subst hj; simp [Addr.add]
        | 5, hj => simp at hj; subst hj; simp [Addr.add]
        | 6, hj => simp at hj; subst hj; simp [Addr.add]
        | 7, hj => simp at hj; subst hj; simp [Addr.add]
        | 8, hj => simp at hj; subst hj; simp [Addr.add]
        | 9, hj => simp at hj; subst hj; simp [Addr.add]
        | 10, hj => simp at hj; subst hj; simp [Addr.add]
        | 11, hj => simp at hj; subst hj; simp [Addr.add]
      case c2 => intro u hu; simp at hu; rcases hu with rfl | rfl | rfl | rfl | rfl | rfl | rfl | rfl | rfl | rfl | rfl | rfl <;> rfl
      case c3 => unfold maxLen; omega
      case c4 => omega
      case c5 => simp; omega
      intro v5 y2 hin2 hgrow _
      rw [← flat12_step] at hin2
      have HU2 := Lib.hid ((HU1.out.trans ((below_n1 y1 _).mono HU1.out.size)).grown hgrow (by simp; omega) (fun q hq => (HI1.out.lt q hq).1))
      go_wp2_with fail
      go_roundw
      case rel => exact ⟨k + 1, by omega, by go_num, hin2, HU2⟩
      case measure => simp [intOf]; omega
    · obtain rfl : k = n1 := by omega
      clear hlt
      obtain ⟨z0, hz0'⟩ : ∃ z0, z0 = y0 := ⟨_, rfl⟩
      rw [← hz0'] at hin HU ⊢
      clear hz0'
      obtain ⟨gi, ci, rfl, kci, hgi, hci⟩ : ∃ g cap, u7 = .slice (some ⟨g, 0, none⟩) k cap ∧ k ≤ cap ∧ g < z0.heap.size ∧ ∀ j, j < k * 12 → z0.cell? ⟨g, j, none⟩ = some (.int .i64 (L j)) := by
        rcases hin.2 with ⟨hv, hn⟩ | ⟨g, cap, cur, hv, -, -, hle, -, -, -⟩
        · exact absurd hn e1
        · exact ⟨g, cap, hv, hle, (hin.lt g (by rw [hv]; rfl)).2, fun j hj => by have h9 := hin; rw [hv] at h9; exact (h9.cellAt j hj).trans (flat12_at L k j hj)⟩
      obtain ⟨-, h0 | ⟨bl, ol, rfl, hbl, hcl⟩⟩ := HL.out
      · exact absurd h0 e1
      have hbl' := Nat.lt_of_lt_of_le hbl HU.out.size
      have hwr := (HU.out.block _ (lt_heap HR.out)).trans HR.out
      have hwz := lt_heap hwr
      have HCI := Lib.hid hci
      have HCL := Lib.hid (show ∀ j, j < k * 12 → z0.cell? ⟨bl, ol + j, none⟩ = some (.int .i64 (L j)) from fun j h => (HU.out.cell (p := ⟨bl, ol + j, none⟩) hbl).trans (hcl j h))
      clear hin hci hcl HL
      have hMB := HMB.out
      have hMR := HMR.out
      have r1 : 0 < k := by omega
      have q1 : k ≤ 1000000 := by omega
      have q4 : (0 : Int) < k := by omega
      have q6 : (1 : Int) ≤ k := by omega
      have p1 : 1 ≤ k := by omega
      have HRI := Lib.hid (show ∀ y, Below z0.heap.size z0 y → y.rangeAt gi 0 [.int .i64 (L 0), .int .i64 (L 1), .int .i64 (L 2), .int .i64 (L 3), .int .i64 (L 4), .int .i64 (L 5), .int .i64 (L 6), .int .i64 (L 7), .int .i64 (L 8), .int .i64 (L 9), .int .i64 (L 10), .int .i64 (L 11)] from fun y h => Lr.range_nums (n := 12) (L := L) fun j hj => by rw [Nat.zero_add]; exact (h.cell (p := ⟨gi, j, none⟩) hgi).trans (HCI.out j (by omega)))
      have HRX := Lib.hid (show ∀ y, Below z0.heap.size z0 y → y.rangeAt gi 0 [.int .i64 (L 0), .int .i64 (L 1), .int .i64 (L 2), .int .i64 (L 3), .int .i64 (L 4), .int .i64 (L 5)] from fun y h => Lr.range_nums (n := 6) (L := L) fun j hj => by rw [Nat.zero_add]; exact (h.cell (p := ⟨gi, j, none⟩) hgi).trans (HCI.out j (by omega)))
      have HRL := Lib.hid (show ∀ y, Below z0.heap.size z0 y → y.rangeAt bl ol [.int .i64 (L 0), .int .i64 (L 1), .int .i64 (L 2), .int .i64 (L 3), .int .i64 (L 4), .int .i64 (L 5), .int .i64 (L 6), .int .i64 (L 7), .int .i64 (L 8), .int .i64 (L 9), .int .i64 (L 10), .int .i64 (L 11)] from fun y h => Lr.range_nums (n := 12) (L := L) fun j hj => (h.cell (p := ⟨bl, ol + j, none⟩) hbl').trans (HCL.out j (by omega)))
      have HRA := Lib.hid (show ∀ y, Below z0.heap.size z0 y → y.rangeAt bl ol [.int .i64 (L 0), .int .i64 (L 1), .int .i64 (L 2), .int .i64 (L 3), .int .i64 (L 4), .int .i64 (L 5)] from fun y h => Lr.range_nums (n := 6) (L := L) fun j hj => (h.cell (p := ⟨bl, ol + j, none⟩) hbl').trans (HCL.out j (by omega)))
      have HRB := Lib.hid (show ∀ y, Below z0.heap.size z0 y → y.rangeAt bl (ol + 6) [.int .i64 (L 6), .int .i64 (L 7), .int .i64 (L 8), .int .i64 (L 9), .int .i64 (L 10), .int .i64 (L 11)] from fun y h => Lr.range_nums (n := 6) (L := fun j => L (6 + j)) fun j hj => by rw [Nat.add_assoc]; exact (h.cell (p := ⟨bl, ol + (6 + j), none⟩) hbl').trans (HCL.out (6 + j) (by omega)))
      have HRM := Lib.hid (show ∀ y, Below z0.heap.size z0 y → y.rangeAt w.heap.size 0 [.int .i64 m0, .int .i64 m1, .int .i64 m2, .int .i64 m3, .int .i64 m4, .int .i64 m5, .int .i64 m6, .int .i64 m7, .int .i64 m8, .int .i64 m9, .int .i64 m10, .int .i64 m11, .int .i64 m12, .int .i64 m13, .int .i64 m14, .int .i64 m15, .int .i64 m16, .int .i64 m17, .int .i64 m18, .int .i64 m19, .int .i64 m20, .int .i64 m21, .int .i64 m22, .int .i64 m23] from fun y h => Lr.range_row ((h.block _ hwz).trans hwr))
      have HZRP := Lib.hid (show (Try.prog.info? 69).map (·.size) = some 12 by kernel_rfl)
      have HZBP := Lib.hid (show (Try.prog.info? 75).map (·.size) = some 12 by kernel_rfl)
      have HZRB := Lib.hid (show (Try.prog.info? 67).map (·.size) = some 6 by kernel_rfl)
      have HZBX := Lib.hid (show (Try.prog.info? 73).map (·.size) = some 6 by kernel_rfl)
      have HZRMV := Lib.hid (show (Try.prog.info? 64).map (·.size) = some 24 by kernel_rfl)
      clear hwr
      go_upto_region 9 with fail
      obtain ⟨off, hof, hof2⟩ : ∃ off : Nat, (ci = 1 ∧ 0 = off ∨ ¬ ci = 1 ∧ 12 = off) ∧ (k = 1 ∨ off = 12) := by
        by_cases x1 : ci = 1
        · exact ⟨0, .inl ⟨x1, rfl⟩, .inl (by omega)⟩
        · exact ⟨12, .inr ⟨x1, rfl⟩, .inr rfl⟩
      have HOF := Lib.hid hof
      have HO1 := Lib.hid hof2
      clear hof hof2
      obtain ⟨vI, evI⟩ : ∃ x : Value, x = .agg #[.int .i64 (L 0), .int .i64 (L 1), .int .i64 (L 2), .int .i64 (L 3), .int .i64 (L 4), .int .i64 (L 5), .int .i64 (L 6), .int .i64 (L 7), .int .i64 (L 8), .int .i64 (L 9), .int .i64 (L 10), .int .i64 (L 11)] := ⟨_, rfl⟩
      have HVI := Lib.hid evI
      obtain ⟨vL, evL⟩ : ∃ x : Value, x = .agg #[.int .i64 (L 0), .int .i64 (L 1), .int .i64 (L 2), .int .i64 (L 3), .int .i64 (L 4), .int .i64 (L 5), .int .i64 (L 6), .int .i64 (L 7), .int .i64 (L 8), .int .i64 (L 9), .int .i64 (L 10), .int .i64 (L 11)] := ⟨_, rfl⟩
      have HVL := Lib.hid evL
      obtain ⟨vX, evX⟩ : ∃ x : Value, x = .agg #[.int .i64 (L 0), .int .i64 (L 1), .int .i64 (L 2), .int .i64 (L 3), .int .i64 (L 4), .int .i64 (L 5)] := ⟨_, rfl⟩
      have HVX := Lib.hid evX
      obtain ⟨vM, evM⟩ : ∃ x : Value, x = .agg #[.int .i64 m0, .int .i64 m1, .int .i64 m2, .int .i64 m3, .int .i64 m4, .int .i64 m5, .int .i64 m6, .int .i64 m7, .int .i64 m8, .int .i64 m9, .int .i64 m10, .int .i64 m11, .int .i64 m12, .int .i64 m13, .int .i64 m14, .int .i64 m15, .int .i64 m16, .int .i64 m17, .int .i64 m18, .int .i64 m19, .int .i64 m20, .int .i64 m21, .int .i64 m22, .int .i64 m23] := ⟨_, rfl⟩
      have HVM := Lib.hid evM
      obtain ⟨vP, evP⟩ : ∃ x : Value, x = .agg #[.int .i64 (Pl.lerp (L 0) (L 6) t), .int .i64 (Pl.lerp (L 1) (L 7) t), .int .i64 (Pl.lerp (L 2) (L 8) t), .int .i64 (Pl.lerp (L 3) (L 9) t), .int .i64 (Pl.lerp (L 4) (L 10) t), .int .i64 (Pl.lerp (L 5) (L 11) t)] := ⟨_, rfl⟩
      have HVP := Lib.hid evP
      obtain ⟨vPR, evPR⟩ : ∃ x : Value, x = .agg #[.int .i64 (Pl.lerp (L 0) (L 6) t), .int .i64 (Pl.lerp (L 1) (L 7) t), .int .i64 (Pl.lerp (L 2) (L 8) t), .int .i64 (Pl.lerp (L 3) (L 9) t), .int .i64 (Pl.lerp (L 4) (L 10) t), .int .i64 (Pl.lerp (L 5) (L 11) t)] := ⟨_, rfl⟩
      have HVPR := Lib.hid evPR
      obtain ⟨vW, evW⟩ : ∃ x : Value, x = .agg #[.int .i64 (min (L 0) (L 6)), .int .i64 (min (L 1) (L 7)), .int .i64 (min (L 2) (L 8)), .int .i64 (max (L 3) (L 9)), .int .i64 (max (L 4) (L 10)), .int .i64 (max (L 5) (L 11))] := ⟨_, rfl⟩
      have HVW := Lib.hid evW
      obtain ⟨vWR, evWR⟩ : ∃ x : Value, x = .agg #[.int .i64 (min (L 0) (L 6)), .int .i64 (min (L 1) (L 7)), .int .i64 (min (L 2) (L 8)), .int .i64 (max (L 3) (L 9)), .int .i64 (max (L 4) (L 10)), .int .i64 (max (L 5) (L 11))] := ⟨_, rfl⟩
      have HVWR := Lib.hid evWR
      obtain ⟨vO, evO⟩ : ∃ x : Value, x = .agg #[.int .i64 (lo6 (La L) 0 k), .int .i64 (lo6 (La L) 1 k), .int .i64 (lo6 (La L) 2 k), .int .i64 (hi6 (La L) 0 k), .int .i64 (hi6 (La L) 1 k), .int .i64 (hi6 (La L) 2 k), .int .i64 (lo6 (Lb L) 0 k), .int .i64 (lo6 (Lb L) 1 k), .int .i64 (lo6 (Lb L) 2 k), .int .i64 (hi6 (Lb L) 0 k), .int .i64 (hi6 (Lb L) 1 k), .int .i64 (hi6 (Lb L) 2 k)] := ⟨_, rfl⟩
      have HVO := Lib.hid evO
      obtain ⟨vOR, evOR⟩ : ∃ x : Value, x = .agg #[.int .i64 (lo6 (La L) 0 k), .int .i64 (lo6 (La L) 1 k), .int .i64 (lo6 (La L) 2 k), .int .i64 (hi6 (La L) 0 k), .int .i64 (hi6 (La L) 1 k), .int .i64 (hi6 (La L) 2 k), .int .i64 (lo6 (Lb L) 0 k), .int .i64 (lo6 (Lb L) 1 k), .int .i64 (lo6 (Lb L) 2 k), .int .i64 (hi6 (Lb L) 0 k), .int .i64 (hi6 (Lb L) 1 k), .int .i64 (hi6 (Lb L) 2 k)] := ⟨_, rfl⟩
      have HVOR := Lib.hid evOR
      obtain ⟨vMM, evMM⟩ : ∃ x : Value, x = .agg #[.int .i64 m0, .int .i64 m1, .int .i64 m2, .int .i64 m3, .int .i64 m4, .int .i64 m5, .int .i64 m6, .int .i64 m7, .int .i64 m8, .int .i64 m9, .int .i64 m10, .int .i64 m11, .int .i64 m12, .int .i64 m13, .int .i64 m14, .int .i64 m15, .int .i64 m16, .int .i64 m17, .int .i64 m18, .int .i64 m19, .int .i64 m20, .int .i64 m21, .int .i64 m22, .int .i64 m23] := ⟨_, rfl⟩
      have HVMM := Lib.hid evMM
      obtain ⟨vQ, evQ⟩ : ∃ x : Value, x = .agg #[.int .i64 q_0, .int .i64 q_1, .int .i64 q_2, .int .i64 q_3, .int .i64 q_4, .int .i64 q_5, .int .i64 q_6, .int .i64 q_7, .int .i64 q_8, .int .i64 q_9, .int .i64 q_10, .int .i64 q_11] := ⟨_, rfl⟩
      have HVQ := Lib.hid evQ
      obtain ⟨vQR, evQR⟩ : ∃ x : Value, x = .agg #[.int .i64 q_0, .int .i64 q_1, .int .i64 q_2, .int .i64 q_3, .int .i64 q_4, .int .i64 q_5, .int .i64 q_6, .int .i64 q_7, .int .i64 q_8, .int .i64 q_9, .int .i64 q_10, .int .i64 q_11] := ⟨_, rfl⟩
      have HVQR := Lib.hid evQR
      have H1 := Lib.hid (show ∀ W : World, Calls Try.prog 17 #[vI, .int .i64 t] W fun e' w' => e' = .returned (vP) ∧ Below W.heap.size W w' from by
        rw [evI, evP]
        exact fun W => pat_any _ _ _ _ _ _ _ _ _ _ _ _ _ W)
      have H2 := Lib.hid (show ∀ W : World, Calls Try.prog 16 #[vP] W fun e' w' => e' = .returned (vPR) ∧ Below W.heap.size W w' from by
        rw [evP, evPR]
        exact fun W => bfrom_any _ _ _ _ _ _ W)
      have H3 := Lib.hid (show ∀ W : World, Calls Try.prog 18 #[vL, .int .i64 t] W fun e' w' => e' = .returned (vPR) ∧ Below W.heap.size W w' from by
        rw [evL, evPR]
        exact fun W => rpat_any _ _ _ _ _ _ _ _ _ _ _ _ _ W)
      have H4 := Lib.hid (show ∀ W : World, Calls Try.prog 19 #[vI] W fun e' w' => e' = .returned (vW) ∧ Below W.heap.size W w' from by
        rw [evI, evW]
        exact fun W => whole_any _ _ _ _ _ _ _ _ _ _ _ _ W)
      have H5 := Lib.hid (show ∀ W : World, Calls Try.prog 16 #[vW] W fun e' w' => e' = .returned (vWR) ∧ Below W.heap.size W w' from by
        rw [evW, evWR]
        exact fun W => bfrom_any _ _ _ _ _ _ W)
      have H6 := Lib.hid (show ∀ (W : World) (q : Nat), W.heap[q]? = some (.cells #[.int .i64 (L 0), .int .i64 (L 1), .int .i64 (L 2), .int .i64 (L 3), .int .i64 (L 4), .int .i64 (L 5), .int .i64 (L 6), .int .i64 (L 7), .int .i64 (L 8), .int .i64 (L 9), .int .i64 (L 10), .int .i64 (L 11)] 67 (0, 0)) → Calls Try.prog 20 #[.slice (some ⟨q, 0, none⟩) 2 2] W fun e' w' => e' = .returned vWR ∧ Below W.heap.size W w' from by
        rw [evWR]
        exact fun W q h => rjoin_two q _ L W (lt_heap h) (row12 h))
      have H7 := Lib.hid (show ∀ W : World, Below z0.heap.size z0 W → Calls Try.prog 22 #[vI, .slice (some ⟨gi, off, none⟩) (k - 1) (ci - 1)] W fun e' w' => e' = .returned (vO) ∧ Below W.heap.size W w' from by
        rw [evI, evO]
        exact fun W h => both_list gi off k _ HO1.out L p1 q1 W (Nat.lt_of_lt_of_le hgi h.size) (fun j hj => (h.cell (p := ⟨gi, j, none⟩) hgi).trans (HCI.out j hj)))
      have H8 := Lib.hid (show ∀ W : World, Calls Try.prog 21 #[vO] W fun e' w' => e' = .returned (vOR) ∧ Below W.heap.size W w' from by
        rw [evO, evOR]
        exact fun W => pfrompair_any _ _ _ _ _ _ _ _ _ _ _ _ W)
      have H9 := Lib.hid (show ∀ W : World, Below z0.heap.size z0 W → Calls Try.prog 23 #[.slice (some ⟨bl, ol, none⟩) k c1] W fun e' w' => e' = .returned (vOR) ∧ Below W.heap.size W w' from by
        rw [evOR]
        exact fun W h => rboth_row bl ol k _ L p1 q1 W (Nat.lt_of_lt_of_le hbl' h.size) (fun j hj => (h.cell (p := ⟨bl, ol + j, none⟩) hbl').trans (HCL.out j hj)))
      have H10 := Lib.hid (show ∀ W : World, Calls Try.prog 25 #[vM] W fun e' w' => e' = .returned (vMM) ∧ Below W.heap.size W w' from by
        rw [evM, evMM]
        exact fun W => lmoving_any _ _ _ _ _ _ _ _ _ _ _ _ _ _ _ _ _ _ _ _ _ _ _ _ W)
      have H11 := Lib.hid (show ∀ W : World, Calls Try.prog 24 #[vMM] W fun e' w' => e' = .returned (vQ) ∧ Below W.heap.size W w' from by
        rw [evMM, evQ]
        exact fun W => hMB W)
      have H12 := Lib.hid (show ∀ W : World, Calls Try.prog 21 #[vQ] W fun e' w' => e' = .returned (vQR) ∧ Below W.heap.size W w' from by
        rw [evQ, evQR]
        exact fun W => pfrompair_any _ _ _ _ _ _ _ _ _ _ _ _ W)
      have H13 := Lib.hid (show ∀ W : World, Calls Try.prog 26 #[vM] W fun e' w' => e' = .returned (vQR) ∧ Below W.heap.size W w' from by
        rw [evM, evQR]
        exact fun W => hMR W)
      obtain ⟨sk, hsk⟩ : ∃ sk : Int, ∀ W : World, Calls Try.prog 27 #[vX] W fun e' w' => e' = .returned (.int .i64 sk) ∧ Below W.heap.size W w' := ⟨_, by rw [evX]; exact fun W => bskin_any _ _ _ _ _ _ W⟩
      have H14 := Lib.hid hsk
      have heqP : ∀ W, (Op.equalIn 10000 67 vPR vPR).run Try.prog W = .ok true W := fun W => by rw [evPR]; exact eq_b6 _ _ _ _ _ _ W
      have heqW : ∀ W, (Op.equalIn 10000 67 vWR vWR).run Try.prog W = .ok true W := fun W => by rw [evWR]; exact eq_b6 _ _ _ _ _ _ W
      have heqO : ∀ W, (Op.equalIn 10000 69 vOR vOR).run Try.prog W = .ok true W := fun W => by rw [evOR]; exact eq_b12 _ _ _ _ _ _ _ _ _ _ _ _ W
      have heqQ : ∀ W, (Op.equalIn 10000 69 vQR vQR).run Try.prog W = .ok true W := fun W => by rw [evQR]; exact eq_b12 _ _ _ _ _ _ _ _ _ _ _ _ W
      clear hsk hMB hMR HCL evI evL evX evM evP evPR evW evWR evO evOR evMM evQ evQR
      dsimp only [List.append]
      refine wp_region_held_drew (S := fun y => Below z0.heap.size z0 y) (by as_aux_lemma => kernel_rfl) ((Below.refl z0.heap.size z0).drew) (fun hV0 => ?_)
      obtain ⟨u0, hu0⟩ : ∃ u0, z0.drew = u0 := ⟨_, rfl⟩
      rw [hu0] at hV0 ⊢
      clear hu0
      refine wpAnyH_ready (rs := [0]) (by as_aux_lemma => kernel_rfl) (by simp) ?_
      refine AllReadyH.cons rfl (fun K hK => ?_) AllReadyH.nil
      go_simp
      go_wp2_with (go_at_call 14; with_reducible refine (awake_any _).mono ?_; rintro e u1 ⟨rfl, hu1⟩)
      refine hK.out _ _ (hV0.trans (hu1.mono hV0.size)) (fun hV1 => ?_)
      clear hK K
      refine wpAnyH_take (i := 1) (v := ?_) rfl (by as_aux_lemma => kernel_rfl) (by as_aux_lemma => kernel_rfl) (by as_aux_lemma => kernel_rfl) (fun _ _ _ h => h) (Or.inl ⟨(by as_aux_lemma => kernel_rfl), by (intro wz hSz; go_simp; try with_reducible rfl)⟩) hV1 ?_
      go_simp
      refine wpAnyH_take (i := 2) (v := ?_) rfl (by as_aux_lemma => kernel_rfl) (by as_aux_lemma => kernel_rfl) (by as_aux_lemma => kernel_rfl) (fun _ _ _ h => h) (Or.inl ⟨(by as_aux_lemma => kernel_rfl), by (intro wz hSz; go_simp; try with_reducible rfl)⟩) hV1 ?_
      go_simp
      refine wpAnyH_take (i := 3) (v := ?_) rfl (by as_aux_lemma => kernel_rfl) (by as_aux_lemma => kernel_rfl) (by as_aux_lemma => kernel_rfl) (fun _ _ _ h => h) (Or.inl ⟨(by as_aux_lemma => kernel_rfl), by (intro wz hSz; go_simp; try with_reducible rfl)⟩) hV1 ?_
      go_simp
      refine wpAnyH_take (i := 4) (v := vI) rfl (by as_aux_lemma => kernel_rfl) (by as_aux_lemma => kernel_rfl) (by as_aux_lemma => kernel_rfl) (fun _ _ _ h => h) (by rw [HVI.out]; exact yieldsIf_load_mid (by as_aux_lemma => kernel_rfl) 75 (.tmp 34) rfl gi 0 rfl [.int .i64 (L 0), .int .i64 (L 1), .int .i64 (L 2), .int .i64 (L 3), .int .i64 (L 4), .int .i64 (L 5), .int .i64 (L 6), .int .i64 (L 7), .int .i64 (L 8), .int .i64 (L 9), .int .i64 (L 10), .int .i64 (L 11)] _ HRI.out Try.underlying75 rfl HZBP.out) hV1 ?_
      go_simp
      refine wpAnyH_take (i := 5) (v := ?_) rfl (by as_aux_lemma => kernel_rfl) (by as_aux_lemma => kernel_rfl) (by as_aux_lemma => kernel_rfl) (fun _ _ _ h => h) (Or.inl ⟨(by as_aux_lemma => kernel_rfl), by (intro wz hSz; go_simp; try with_reducible rfl)⟩) hV1 ?_
      go_simp
      refine wpAnyH_take (i := 8) (v := ?_) rfl (by as_aux_lemma => kernel_rfl) (by as_aux_lemma => kernel_rfl) (by as_aux_lemma => kernel_rfl) (fun _ _ _ h => h) (Or.inl ⟨(by as_aux_lemma => kernel_rfl), by (intro wz hSz; go_simp; try with_reducible rfl)⟩) hV1 ?_
      go_simp
      refine wpAnyH_take (i := 9) (v := ?_) rfl (by as_aux_lemma => kernel_rfl) (by as_aux_lemma => kernel_rfl) (by as_aux_lemma => kernel_rfl) (fun _ _ _ h => h) (Or.inl ⟨(by as_aux_lemma => kernel_rfl), by (intro wz hSz; go_simp; try with_reducible rfl)⟩) hV1 ?_
      go_simp
      refine wpAnyH_take (i := 10) (v := vL) rfl (by as_aux_lemma => kernel_rfl) (by as_aux_lemma => kernel_rfl) (by as_aux_lemma => kernel_rfl) (fun _ _ _ h => h) (by rw [HVL.out]; exact yieldsIf_load_mid (by as_aux_lemma => kernel_rfl) 69 (.tmp 40) rfl bl ol rfl [.int .i64 (L 0), .int .i64 (L 1), .int .i64 (L 2), .int .i64 (L 3), .int .i64 (L 4), .int .i64 (L 5), .int .i64 (L 6), .int .i64 (L 7), .int .i64 (L 8), .int .i64 (L 9), .int .i64 (L 10), .int .i64 (L 11)] _ HRL.out Try.underlying69 rfl HZRP.out) hV1 ?_
      go_simp
      refine wpAnyH_take (i := 11) (v := ?_) rfl (by as_aux_lemma => kernel_rfl) (by as_aux_lemma => kernel_rfl) (by as_aux_lemma => kernel_rfl) (fun _ _ _ h => h) (Or.inl ⟨(by as_aux_lemma => kernel_rfl), by (intro wz hSz; go_simp; try with_reducible rfl)⟩) hV1 ?_
      go_simp
      refine wpAnyH_ready (rs := [6]) (by as_aux_lemma => kernel_rfl) (by simp) ?_
      refine AllReadyH.cons rfl (fun K hK => ?_) AllReadyH.nil
      go_simp
      go_wp2_with (go_at_call 17; with_reducible refine (H1.out _).mono ?_; rintro e u2 ⟨rfl, hu2⟩)
      refine hK.out _ _ (hV1.trans (hu2.mono hV1.size)) (fun hV2 => ?_)
      clear hK K
      refine wpAnyH_ready (rs := [7]) (by as_aux_lemma => kernel_rfl) (by simp) ?_
      refine AllReadyH.cons rfl (fun K hK => ?_) AllReadyH.nil
      go_simp
      go_wp2_with (go_at_call 16; with_reducible refine (H2.out _).mono ?_; rintro e u3 ⟨rfl, hu3⟩)
      refine hK.out _ _ (hV2.trans (hu3.mono hV2.size)) (fun hV3 => ?_)
      clear hK K
      refine wpAnyH_ready (rs := [12]) (by as_aux_lemma => kernel_rfl) (by simp) ?_
      refine AllReadyH.cons rfl (fun K hK => ?_) AllReadyH.nil
      go_simp
      go_wp2_with (go_at_call 18; with_reducible refine (H3.out _).mono ?_; rintro e u4 ⟨rfl, hu4⟩)
      refine hK.out _ _ (hV3.trans (hu4.mono hV3.size)) (fun hV4 => ?_)
      clear hK K
      refine wpAnyH_take (i := 13) (v := .bool true) rfl (by as_aux_lemma => kernel_rfl) (by as_aux_lemma => kernel_rfl) (by as_aux_lemma => kernel_rfl) (fun _ _ _ h => h) (Or.inl ⟨(by as_aux_lemma => kernel_rfl), by (intro wz hSz; have heq := eq_b6; rw [HVPR.out]; go_simp; try with_reducible rfl)⟩) hV4 ?_
      go_simp
      refine wpAnyH_take (i := 14) (v := ?_) rfl (by as_aux_lemma => kernel_rfl) (by as_aux_lemma => kernel_rfl) (by as_aux_lemma => kernel_rfl) (fun _ _ _ h => h) (Or.inl ⟨(by as_aux_lemma => kernel_rfl), by (intro wz hSz; go_simp; try with_reducible rfl)⟩) hV4 ?_
      go_simp
      refine wpAnyH_take (i := 15) (v := ?_) rfl (by as_aux_lemma => kernel_rfl) (by as_aux_lemma => kernel_rfl) (by as_aux_lemma => kernel_rfl) (fun _ _ _ h => h) (Or.inl ⟨(by as_aux_lemma => kernel_rfl), by (intro wz hSz; go_simp; try with_reducible rfl)⟩) hV4 ?_
      go_simp
      refine wpAnyH_take (i := 16) (v := ?_) rfl (by as_aux_lemma => kernel_rfl) (by as_aux_lemma => kernel_rfl) (by as_aux_lemma => kernel_rfl) (fun _ _ _ h => h) (Or.inl ⟨(by as_aux_lemma => kernel_rfl), by (intro wz hSz; go_simp; try with_reducible rfl)⟩) hV4 ?_
      go_simp
      refine wpAnyH_take (i := 17) (v := ?_) rfl (by as_aux_lemma => kernel_rfl) (by as_aux_lemma => kernel_rfl) (by as_aux_lemma => kernel_rfl) (fun _ _ _ h => h) (Or.inl ⟨(by as_aux_lemma => kernel_rfl), by (intro wz hSz; go_simp; try with_reducible rfl)⟩) hV4 ?_
      go_simp
      refine wpAnyH_take (i := 18) (v := vI) rfl (by as_aux_lemma => kernel_rfl) (by as_aux_lemma => kernel_rfl) (by as_aux_lemma => kernel_rfl) (fun _ _ _ h => h) (by rw [HVI.out]; exact yieldsIf_load_mid (by as_aux_lemma => kernel_rfl) 75 (.tmp 48) rfl gi 0 rfl [.int .i64 (L 0), .int .i64 (L 1), .int .i64 (L 2), .int .i64 (L 3), .int .i64 (L 4), .int .i64 (L 5), .int .i64 (L 6), .int .i64 (L 7), .int .i64 (L 8), .int .i64 (L 9), .int .i64 (L 10), .int .i64 (L 11)] _ HRI.out Try.underlying75 rfl HZBP.out) hV4 ?_
      go_simp
      refine wpAnyH_take (i := 21) (v := ?_) rfl (by as_aux_lemma => kernel_rfl) (by as_aux_lemma => kernel_rfl) (by as_aux_lemma => kernel_rfl) (fun _ _ _ h => h) (Or.inl ⟨(by as_aux_lemma => kernel_rfl), by (intro wz hSz; go_simp; try with_reducible rfl)⟩) hV4 ?_
      go_simp
      refine wpAnyH_take (i := 22) (v := ?_) rfl (by as_aux_lemma => kernel_rfl) (by as_aux_lemma => kernel_rfl) (by as_aux_lemma => kernel_rfl) (fun _ _ _ h => h) (Or.inl ⟨(by as_aux_lemma => kernel_rfl), by (intro wz hSz; go_simp; try with_reducible rfl)⟩) hV4 ?_
      go_simp
      refine wpAnyH_take (i := 23) (v := ?_) rfl (by as_aux_lemma => kernel_rfl) (by as_aux_lemma => kernel_rfl) (by as_aux_lemma => kernel_rfl) (fun _ _ _ h => h) (Or.inl ⟨(by as_aux_lemma => kernel_rfl), by (intro wz hSz; go_simp; try with_reducible rfl)⟩) hV4 ?_
      go_simp
      refine wpAnyH_take (i := 24) (v := .agg #[.int .i64 (L 0), .int .i64 (L 1), .int .i64 (L 2), .int .i64 (L 3), .int .i64 (L 4), .int .i64 (L 5)]) rfl (by as_aux_lemma => kernel_rfl) (by as_aux_lemma => kernel_rfl) (by as_aux_lemma => kernel_rfl) (fun _ _ _ h => h) (yieldsIf_load_mid (by as_aux_lemma => kernel_rfl) 67 (.tmp 54) rfl bl ol rfl [.int .i64 (L 0), .int .i64 (L 1), .int .i64 (L 2), .int .i64 (L 3), .int .i64 (L 4), .int .i64 (L 5)] _ HRA.out Try.underlying67 rfl HZRB.out) hV4 ?_
      go_simp
      refine wpAnyH_take (i := 25) (v := ?_) rfl (by as_aux_lemma => kernel_rfl) (by as_aux_lemma => kernel_rfl) (by as_aux_lemma => kernel_rfl) (fun _ _ _ h => h) (Or.inl ⟨(by as_aux_lemma => kernel_rfl), by (intro wz hSz; go_simp; try with_reducible rfl)⟩) hV4 ?_
      go_simp
      refine wpAnyH_take (i := 26) (v := ?_) rfl (by as_aux_lemma => kernel_rfl) (by as_aux_lemma => kernel_rfl) (by as_aux_lemma => kernel_rfl) (fun _ _ _ h => h) (Or.inl ⟨(by as_aux_lemma => kernel_rfl), by (intro wz hSz; go_simp; try with_reducible rfl)⟩) hV4 ?_
      go_simp
      refine wpAnyH_take (i := 27) (v := ?_) rfl (by as_aux_lemma => kernel_rfl) (by as_aux_lemma => kernel_rfl) (by as_aux_lemma => kernel_rfl) (fun _ _ _ h => h) (Or.inl ⟨(by as_aux_lemma => kernel_rfl), by (intro wz hSz; go_simp; try with_reducible rfl)⟩) hV4 ?_
      go_simp
      refine wpAnyH_take (i := 28) (v := .agg #[.int .i64 (L 6), .int .i64 (L 7), .int .i64 (L 8), .int .i64 (L 9), .int .i64 (L 10), .int .i64 (L 11)]) rfl (by as_aux_lemma => kernel_rfl) (by as_aux_lemma => kernel_rfl) (by as_aux_lemma => kernel_rfl) (fun _ _ _ h => h) (yieldsIf_load_mid (by as_aux_lemma => kernel_rfl) 67 (.tmp 58) rfl bl (ol + 6) rfl [.int .i64 (L 6), .int .i64 (L 7), .int .i64 (L 8), .int .i64 (L 9), .int .i64 (L 10), .int .i64 (L 11)] _ HRB.out Try.underlying67 rfl HZRB.out) hV4 ?_
      go_simp
      refine wpAnyH_ready (rs := [19, 29]) (by as_aux_lemma => kernel_rfl) (by simp) ?_
      refine AllReadyH.cons rfl (fun K hK => ?_) (AllReadyH.cons rfl (fun K hK => ?_) AllReadyH.nil)
      · skip
        go_simp
        go_wp2_with (go_at_call 19; with_reducible refine (H4.out _).mono ?_; rintro e u5 ⟨rfl, hu5⟩)
        refine hK.out _ _ (hV4.trans (hu5.mono hV4.size)) (fun hV5 => ?_)
        clear hK K
        refine wpAnyH_ready (rs := [20, 29]) (by as_aux_lemma => kernel_rfl) (by simp) ?_
        refine AllReadyH.cons rfl (fun K hK => ?_) (AllReadyH.cons rfl (fun K hK => ?_) AllReadyH.nil)
        · skip
          go_simp
          go_wp2_with (go_at_call 16; with_reducible refine (H5.out _).mono ?_; rintro e u6 ⟨rfl, hu6⟩)
          refine hK.out _ _ (hV5.trans (hu6.mono hV5.size)) (fun hV6 => ?_)
          clear hK K
          refine wpAnyH_ready (rs := [29]) (by as_aux_lemma => kernel_rfl) (by simp) ?_
          refine AllReadyH.cons rfl (fun K hK => ?_) AllReadyH.nil
          go_simp
          have hu7 := below_n1 u6 (.cells #[.int .i64 (L 0), .int .i64 (L 1), .int .i64 (L 2), .int .i64 (L 3), .int .i64 (L 4), .int .i64 (L 5), .int .i64 (L 6), .int .i64 (L 7), .int .i64 (L 8), .int .i64 (L 9), .int .i64 (L 10), .int .i64 (L 11)] 67)
          have hq7 := heap_alloc_last u6 (.cells #[.int .i64 (L 0), .int .i64 (L 1), .int .i64 (L 2), .int .i64 (L 3), .int .i64 (L 4), .int .i64 (L 5), .int .i64 (L 6), .int .i64 (L 7), .int .i64 (L 8), .int .i64 (L 9), .int .i64 (L 10), .int .i64 (L 11)] 67)
          obtain ⟨u7, hy7⟩ : ∃ u7, u6.alloc (.cells #[.int .i64 (L 0), .int .i64 (L 1), .int .i64 (L 2), .int .i64 (L 3), .int .i64 (L 4), .int .i64 (L 5), .int .i64 (L 6), .int .i64 (L 7), .int .i64 (L 8), .int .i64 (L 9), .int .i64 (L 10), .int .i64 (L 11)] 67) = u7 := ⟨_, rfl⟩
          rw [hy7] at hu7 hq7 ⊢
          clear hy7
          refine hK.out _ _ (hV6.trans (hu7.mono hV6.size)) (fun hV7 => ?_)
          clear hK K
          refine wpAnyH_ready (rs := [30]) (by as_aux_lemma => kernel_rfl) (by simp) ?_
          refine AllReadyH.cons rfl (fun K hK => ?_) AllReadyH.nil
          go_simp
          go_wp2_with (go_at_call 20; with_reducible refine (H6.out _ _ hq7).mono ?_; rintro e u8 ⟨rfl, hu8⟩)
          have hq8 := (hu8.block _ (lt_heap hq7)).trans hq7
          refine hK.out _ _ (hV7.trans (hu8.mono hV7.size)) (fun hV8 => ?_)
          clear hK K
          refine wpAnyH_take (i := 31) (v := .bool true) rfl (by as_aux_lemma => kernel_rfl) (by as_aux_lemma => kernel_rfl) (by as_aux_lemma => kernel_rfl) (fun _ _ _ h => h) (Or.inl ⟨(by as_aux_lemma => kernel_rfl), by (intro wz hSz; have heq := eq_b6; rw [HVWR.out]; go_simp; try with_reducible rfl)⟩) hV8 ?_
          go_simp
          refine wpAnyH_take (i := 32) (v := ?_) rfl (by as_aux_lemma => kernel_rfl) (by as_aux_lemma => kernel_rfl) (by as_aux_lemma => kernel_rfl) (fun _ _ _ h => h) (Or.inl ⟨(by as_aux_lemma => kernel_rfl), by (intro wz hSz; go_simp; try with_reducible rfl)⟩) hV8 ?_
          go_simp
          refine wpAnyH_take (i := 33) (v := ?_) rfl (by as_aux_lemma => kernel_rfl) (by as_aux_lemma => kernel_rfl) (by as_aux_lemma => kernel_rfl) (fun _ _ _ h => h) (Or.inl ⟨(by as_aux_lemma => kernel_rfl), by (intro wz hSz; go_simp; try with_reducible rfl)⟩) hV8 ?_
          go_simp
          refine wpAnyH_take (i := 34) (v := ?_) rfl (by as_aux_lemma => kernel_rfl) (by as_aux_lemma => kernel_rfl) (by as_aux_lemma => kernel_rfl) (fun _ _ _ h => h) (Or.inl ⟨(by as_aux_lemma => kernel_rfl), by (intro wz hSz; go_simp; try with_reducible rfl)⟩) hV8 ?_
          go_simp
          refine wpAnyH_take (i := 35) (v := ?_) rfl (by as_aux_lemma => kernel_rfl) (by as_aux_lemma => kernel_rfl) (by as_aux_lemma => kernel_rfl) (fun _ _ _ h => h) (Or.inl ⟨(by as_aux_lemma => kernel_rfl), by (intro wz hSz; go_simp; try with_reducible rfl)⟩) hV8 ?_
          go_simp
          refine wpAnyH_take (i := 36) (v := vI) rfl (by as_aux_lemma => kernel_rfl) (by as_aux_lemma => kernel_rfl) (by as_aux_lemma => kernel_rfl) (fun _ _ _ h => h) (by rw [HVI.out]; exact yieldsIf_load_mid (by as_aux_lemma => kernel_rfl) 75 (.tmp 66) rfl gi 0 rfl [.int .i64 (L 0), .int .i64 (L 1), .int .i64 (L 2), .int .i64 (L 3), .int .i64 (L 4), .int .i64 (L 5), .int .i64 (L 6), .int .i64 (L 7), .int .i64 (L 8), .int .i64 (L 9), .int .i64 (L 10), .int .i64 (L 11)] _ HRI.out Try.underlying75 rfl HZBP.out) hV8 ?_
          go_simp
          refine wpAnyH_take (i := 37) (v := ?_) rfl (by as_aux_lemma => kernel_rfl) (by as_aux_lemma => kernel_rfl) (by as_aux_lemma => kernel_rfl) (fun _ _ _ h => h) (Or.inl ⟨(by as_aux_lemma => kernel_rfl), by (intro wz hSz; go_simp; try with_reducible rfl)⟩) hV8 ?_
          go_simp
          refine wpAnyH_take (i := 38) (v := .slice (some ⟨gi, off, none⟩) (k - 1) (ci - 1)) rfl (by as_aux_lemma => kernel_rfl) (by as_aux_lemma => kernel_rfl) (by as_aux_lemma => kernel_rfl) (fun _ _ _ h => h) (Or.inl ⟨(by as_aux_lemma => kernel_rfl), by (intro wz hSz; rcases HOF.out with ⟨x1, x2⟩ | ⟨x1, x2⟩; (subst x2; subst x1; clear kci HO1 H7; go_simp; try with_reducible rfl); (subst x2; clear HO1 H7; go_simp; try with_reducible rfl))⟩) hV8 ?_
          go_simp
          refine wpAnyH_take (i := 41) (v := ?_) rfl (by as_aux_lemma => kernel_rfl) (by as_aux_lemma => kernel_rfl) (by as_aux_lemma => kernel_rfl) (fun _ _ _ h => h) (Or.inl ⟨(by as_aux_lemma => kernel_rfl), by (intro wz hSz; go_simp; try with_reducible rfl)⟩) hV8 ?_
          go_simp
          refine wpAnyH_ready (rs := [39]) (by as_aux_lemma => kernel_rfl) (by simp) ?_
          refine AllReadyH.cons rfl (fun K hK => ?_) AllReadyH.nil
          go_simp
          go_wp2_with (go_at_call 22; with_reducible refine (H7.out _ hV8).mono ?_; rintro e u9 ⟨rfl, hu9⟩)
          have hq9 := (hu9.block _ (lt_heap hq8)).trans hq8
          refine hK.out _ _ (hV8.trans (hu9.mono hV8.size)) (fun hV9 => ?_)
          clear hK K
          refine wpAnyH_ready (rs := [40]) (by as_aux_lemma => kernel_rfl) (by simp) ?_
          refine AllReadyH.cons rfl (fun K hK => ?_) AllReadyH.nil
          go_simp
          go_wp2_with (go_at_call 21; with_reducible refine (H8.out _).mono ?_; rintro e u10 ⟨rfl, hu10⟩)
          have hq10 := (hu10.block _ (lt_heap hq9)).trans hq9
          refine hK.out _ _ (hV9.trans (hu10.mono hV9.size)) (fun hV10 => ?_)
          clear hK K
          refine wpAnyH_ready (rs := [42]) (by as_aux_lemma => kernel_rfl) (by simp) ?_
          refine AllReadyH.cons rfl (fun K hK => ?_) AllReadyH.nil
          go_simp
          go_wp2_with (go_at_call 23; with_reducible refine (H9.out _ hV10).mono ?_; rintro e u11 ⟨rfl, hu11⟩)
          have hq11 := (hu11.block _ (lt_heap hq10)).trans hq10
          refine hK.out _ _ (hV10.trans (hu11.mono hV10.size)) (fun hV11 => ?_)
          clear hK K
          refine wpAnyH_take (i := 43) (v := .bool true) rfl (by as_aux_lemma => kernel_rfl) (by as_aux_lemma => kernel_rfl) (by as_aux_lemma => kernel_rfl) (fun _ _ _ h => h) (Or.inl ⟨(by as_aux_lemma => kernel_rfl), by (intro wz hSz; have heq := eq_b12; rw [HVOR.out]; go_simp; try with_reducible rfl)⟩) hV11 ?_
          go_simp
          refine wpAnyH_take (i := 44) (v := ?_) rfl (by as_aux_lemma => kernel_rfl) (by as_aux_lemma => kernel_rfl) (by as_aux_lemma => kernel_rfl) (fun _ _ _ h => h) (Or.inl ⟨(by as_aux_lemma => kernel_rfl), by (intro wz hSz; go_simp; try with_reducible rfl)⟩) hV11 ?_
          go_simp
          refine wpAnyH_take (i := 45) (v := ?_) rfl (by as_aux_lemma => kernel_rfl) (by as_aux_lemma => kernel_rfl) (by as_aux_lemma => kernel_rfl) (fun _ _ _ h => h) (Or.inl ⟨(by as_aux_lemma => kernel_rfl), by (intro wz hSz; go_simp; try with_reducible rfl)⟩) hV11 ?_
          go_simp
          refine wpAnyH_take (i := 46) (v := vM) rfl (by as_aux_lemma => kernel_rfl) (by as_aux_lemma => kernel_rfl) (by as_aux_lemma => kernel_rfl) (fun _ _ _ h => h) (by rw [HVM.out]; exact yieldsIf_load_mid (by as_aux_lemma => kernel_rfl) 64 (.tmp 5) rfl w.heap.size 0 rfl [.int .i64 m0, .int .i64 m1, .int .i64 m2, .int .i64 m3, .int .i64 m4, .int .i64 m5, .int .i64 m6, .int .i64 m7, .int .i64 m8, .int .i64 m9, .int .i64 m10, .int .i64 m11, .int .i64 m12, .int .i64 m13, .int .i64 m14, .int .i64 m15, .int .i64 m16, .int .i64 m17, .int .i64 m18, .int .i64 m19, .int .i64 m20, .int .i64 m21, .int .i64 m22, .int .i64 m23] _ HRM.out Try.underlying64 rfl HZRMV.out) hV11 ?_
          go_simp
          refine wpAnyH_take (i := 50) (v := vM) rfl (by as_aux_lemma => kernel_rfl) (by as_aux_lemma => kernel_rfl) (by as_aux_lemma => kernel_rfl) (fun _ _ _ h => h) (by rw [HVM.out]; exact yieldsIf_load_mid (by as_aux_lemma => kernel_rfl) 64 (.tmp 5) rfl w.heap.size 0 rfl [.int .i64 m0, .int .i64 m1, .int .i64 m2, .int .i64 m3, .int .i64 m4, .int .i64 m5, .int .i64 m6, .int .i64 m7, .int .i64 m8, .int .i64 m9, .int .i64 m10, .int .i64 m11, .int .i64 m12, .int .i64 m13, .int .i64 m14, .int .i64 m15, .int .i64 m16, .int .i64 m17, .int .i64 m18, .int .i64 m19, .int .i64 m20, .int .i64 m21, .int .i64 m22, .int .i64 m23] _ HRM.out Try.underlying64 rfl HZRMV.out) hV11 ?_
          go_simp
          refine wpAnyH_ready (rs := [47]) (by as_aux_lemma => kernel_rfl) (by simp) ?_
          refine AllReadyH.cons rfl (fun K hK => ?_) AllReadyH.nil
          go_simp
          go_wp2_with (go_at_call 25; with_reducible refine (H10.out _).mono ?_; rintro e u12 ⟨rfl, hu12⟩)
          have hq12 := (hu12.block _ (lt_heap hq11)).trans hq11
          refine hK.out _ _ (hV11.trans (hu12.mono hV11.size)) (fun hV12 => ?_)
          clear hK K
          refine wpAnyH_ready (rs := [48]) (by as_aux_lemma => kernel_rfl) (by simp) ?_
          refine AllReadyH.cons rfl (fun K hK => ?_) AllReadyH.nil
          go_simp
          go_wp2_with (go_at_call 24; with_reducible refine (H11.out _).mono ?_; rintro e u13 ⟨rfl, hu13⟩)
          have hq13 := (hu13.block _ (lt_heap hq12)).trans hq12
          refine hK.out _ _ (hV12.trans (hu13.mono hV12.size)) (fun hV13 => ?_)
          clear hK K
          refine wpAnyH_ready (rs := [49]) (by as_aux_lemma => kernel_rfl) (by simp) ?_
          refine AllReadyH.cons rfl (fun K hK => ?_) AllReadyH.nil
          go_simp
          go_wp2_with (go_at_call 21; with_reducible refine (H12.out _).mono ?_; rintro e u14 ⟨rfl, hu14⟩)
          have hq14 := (hu14.block _ (lt_heap hq13)).trans hq13
          refine hK.out _ _ (hV13.trans (hu14.mono hV13.size)) (fun hV14 => ?_)
          clear hK K
          refine wpAnyH_ready (rs := [51]) (by as_aux_lemma => kernel_rfl) (by simp) ?_
          refine AllReadyH.cons rfl (fun K hK => ?_) AllReadyH.nil
          go_simp
          go_wp2_with (go_at_call 26; with_reducible refine (H13.out _).mono ?_; rintro e u15 ⟨rfl, hu15⟩)
          have hq15 := (hu15.block _ (lt_heap hq14)).trans hq14
          refine hK.out _ _ (hV14.trans (hu15.mono hV14.size)) (fun hV15 => ?_)
          clear hK K
          refine wpAnyH_take (i := 52) (v := .bool true) rfl (by as_aux_lemma => kernel_rfl) (by as_aux_lemma => kernel_rfl) (by as_aux_lemma => kernel_rfl) (fun _ _ _ h => h) (Or.inl ⟨(by as_aux_lemma => kernel_rfl), by (intro wz hSz; have heq := eq_b12; rw [HVQR.out]; go_simp; try with_reducible rfl)⟩) hV15 ?_
          go_simp
          refine wpAnyH_take (i := 53) (v := ?_) rfl (by as_aux_lemma => kernel_rfl) (by as_aux_lemma => kernel_rfl) (by as_aux_lemma => kernel_rfl) (fun _ _ _ h => h) (Or.inl ⟨(by as_aux_lemma => kernel_rfl), by (intro wz hSz; go_simp; try with_reducible rfl)⟩) hV15 ?_
          go_simp
          refine wpAnyH_take (i := 54) (v := ?_) rfl (by as_aux_lemma => kernel_rfl) (by as_aux_lemma => kernel_rfl) (by as_aux_lemma => kernel_rfl) (fun _ _ _ h => h) (Or.inl ⟨(by as_aux_lemma => kernel_rfl), by (intro wz hSz; go_simp; try with_reducible rfl)⟩) hV15 ?_
          go_simp
          refine wpAnyH_take (i := 55) (v := ?_) rfl (by as_aux_lemma => kernel_rfl) (by as_aux_lemma => kernel_rfl) (by as_aux_lemma => kernel_rfl) (fun _ _ _ h => h) (Or.inl ⟨(by as_aux_lemma => kernel_rfl), by (intro wz hSz; go_simp; try with_reducible rfl)⟩) hV15 ?_
          go_simp
          refine wpAnyH_take (i := 56) (v := ?_) rfl (by as_aux_lemma => kernel_rfl) (by as_aux_lemma => kernel_rfl) (by as_aux_lemma => kernel_rfl) (fun _ _ _ h => h) (Or.inl ⟨(by as_aux_lemma => kernel_rfl), by (intro wz hSz; go_simp; try with_reducible rfl)⟩) hV15 ?_
          go_simp
          refine wpAnyH_take (i := 57) (v := ?_) rfl (by as_aux_lemma => kernel_rfl) (by as_aux_lemma => kernel_rfl) (by as_aux_lemma => kernel_rfl) (fun _ _ _ h => h) (Or.inl ⟨(by as_aux_lemma => kernel_rfl), by (intro wz hSz; go_simp; try with_reducible rfl)⟩) hV15 ?_
          go_simp
          refine wpAnyH_take (i := 58) (v := vX) rfl (by as_aux_lemma => kernel_rfl) (by as_aux_lemma => kernel_rfl) (by as_aux_lemma => kernel_rfl) (fun _ _ _ h => h) (by rw [HVX.out]; exact yieldsIf_load_mid (by as_aux_lemma => kernel_rfl) 73 (.tmp 88) rfl gi 0 rfl [.int .i64 (L 0), .int .i64 (L 1), .int .i64 (L 2), .int .i64 (L 3), .int .i64 (L 4), .int .i64 (L 5)] _ HRX.out Try.underlying73 rfl HZBX.out) hV15 ?_
          go_simp
          refine wpAnyH_take (i := 60) (v := ?_) rfl (by as_aux_lemma => kernel_rfl) (by as_aux_lemma => kernel_rfl) (by as_aux_lemma => kernel_rfl) (fun _ _ _ h => h) (Or.inl ⟨(by as_aux_lemma => kernel_rfl), by (intro wz hSz; go_simp; try with_reducible rfl)⟩) hV15 ?_
          go_simp
          refine wpAnyH_take (i := 61) (v := ?_) rfl (by as_aux_lemma => kernel_rfl) (by as_aux_lemma => kernel_rfl) (by as_aux_lemma => kernel_rfl) (fun _ _ _ h => h) (Or.inl ⟨(by as_aux_lemma => kernel_rfl), by (intro wz hSz; go_simp; try with_reducible rfl)⟩) hV15 ?_
          go_simp
          refine wpAnyH_take (i := 62) (v := ?_) rfl (by as_aux_lemma => kernel_rfl) (by as_aux_lemma => kernel_rfl) (by as_aux_lemma => kernel_rfl) (fun _ _ _ h => h) (Or.inl ⟨(by as_aux_lemma => kernel_rfl), by (intro wz hSz; go_simp; try with_reducible rfl)⟩) hV15 ?_
          go_simp
          refine wpAnyH_take (i := 63) (v := vX) rfl (by as_aux_lemma => kernel_rfl) (by as_aux_lemma => kernel_rfl) (by as_aux_lemma => kernel_rfl) (fun _ _ _ h => h) (by rw [HVX.out]; exact yieldsIf_load_mid (by as_aux_lemma => kernel_rfl) 73 (.tmp 93) rfl gi 0 rfl [.int .i64 (L 0), .int .i64 (L 1), .int .i64 (L 2), .int .i64 (L 3), .int .i64 (L 4), .int .i64 (L 5)] _ HRX.out Try.underlying73 rfl HZBX.out) hV15 ?_
          go_simp
          refine wpAnyH_ready (rs := [59]) (by as_aux_lemma => kernel_rfl) (by simp) ?_
          refine AllReadyH.cons rfl (fun K hK => ?_) AllReadyH.nil
          go_simp
          go_wp2_with (go_at_call 27; with_reducible refine (H14.out _).mono ?_; rintro e u16 ⟨rfl, hu16⟩)
          have hq16 := (hu16.block _ (lt_heap hq15)).trans hq15
          refine hK.out _ _ (hV15.trans (hu16.mono hV15.size)) (fun hV16 => ?_)
          clear hK K
          refine wpAnyH_ready (rs := [64]) (by as_aux_lemma => kernel_rfl) (by simp) ?_
          refine AllReadyH.cons rfl (fun K hK => ?_) AllReadyH.nil
          go_simp
          go_wp2_with (go_at_call 27; with_reducible refine (H14.out _).mono ?_; rintro e u17 ⟨rfl, hu17⟩)
          have hq17 := (hu17.block _ (lt_heap hq16)).trans hq16
          refine hK.out _ _ (hV16.trans (hu17.mono hV16.size)) (fun hV17 => ?_)
          clear hK K
          refine wpAnyH_take (i := 65) (v := ?_) rfl (by as_aux_lemma => kernel_rfl) (by as_aux_lemma => kernel_rfl) (by as_aux_lemma => kernel_rfl) (fun _ _ _ h => h) (Or.inl ⟨(by as_aux_lemma => kernel_rfl), by (intro wz hSz; go_simp; try with_reducible rfl)⟩) hV17 ?_
          go_simp
          refine wpAnyH_take (i := 66) (v := ?_) rfl (by as_aux_lemma => kernel_rfl) (by as_aux_lemma => kernel_rfl) (by as_aux_lemma => kernel_rfl) (fun _ _ _ h => h) (Or.inl ⟨(by as_aux_lemma => kernel_rfl), by (intro wz hSz; go_simp; try with_reducible rfl)⟩) hV17 ?_
          go_simp
          refine wpAnyH_take (i := 67) (v := ?_) rfl (by as_aux_lemma => kernel_rfl) (by as_aux_lemma => kernel_rfl) (by as_aux_lemma => kernel_rfl) (fun _ _ _ h => h) (Or.inl ⟨(by as_aux_lemma => kernel_rfl), by (intro wz hSz; go_simp; try with_reducible rfl)⟩) hV17 ?_
          go_simp
          refine wpAnyH_done (by as_aux_lemma => kernel_rfl) ?_ _
          go_wp2
          go_ret
          exact ⟨rfl, HW.out.trans ((HU.out.trans (hV17.mono HU.out.size)).mono HW.out.size)⟩
        · skip
          go_simp
          have hu6 := below_n1 u5 (.cells #[.int .i64 (L 0), .int .i64 (L 1), .int .i64 (L 2), .int .i64 (L 3), .int .i64 (L 4), .int .i64 (L 5), .int .i64 (L 6), .int .i64 (L 7), .int .i64 (L 8), .int .i64 (L 9), .int .i64 (L 10), .int .i64 (L 11)] 67)
          have hq6 := heap_alloc_last u5 (.cells #[.int .i64 (L 0), .int .i64 (L 1), .int .i64 (L 2), .int .i64 (L 3), .int .i64 (L 4), .int .i64 (L 5), .int .i64 (L 6), .int .i64 (L 7), .int .i64 (L 8), .int .i64 (L 9), .int .i64 (L 10), .int .i64 (L 11)] 67)
          obtain ⟨u6, hy6⟩ : ∃ u6, u5.alloc (.cells #[.int .i64 (L 0), .int .i64 (L 1), .int .i64 (L 2), .int .i64 (L 3), .int .i64 (L 4), .int .i64 (L 5), .int .i64 (L 6), .int .i64 (L 7), .int .i64 (L 8), .int .i64 (L 9), .int .i64 (L 10), .int .i64 (L 11)] 67) = u6 := ⟨_, rfl⟩
          rw [hy6] at hu6 hq6 ⊢
          clear hy6
          refine hK.out _ _ (hV5.trans (hu6.mono hV5.size)) (fun hV6 => ?_)
          clear hK K
          refine wpAnyH_ready (rs := [20]) (by as_aux_lemma => kernel_rfl) (by simp) ?_
          refine AllReadyH.cons rfl (fun K hK => ?_) AllReadyH.nil
          go_simp
          go_wp2_with (go_at_call 16; with_reducible refine (H5.out _).mono ?_; rintro e u7 ⟨rfl, hu7⟩)
          have hq7 := (hu7.block _ (lt_heap hq6)).trans hq6
          refine hK.out _ _ (hV6.trans (hu7.mono hV6.size)) (fun hV7 => ?_)
          clear hK K
          refine wpAnyH_ready (rs := [30]) (by as_aux_lemma => kernel_rfl) (by simp) ?_
          refine AllReadyH.cons rfl (fun K hK => ?_) AllReadyH.nil
          go_simp
          go_wp2_with (go_at_call 20; with_reducible refine (H6.out _ _ hq7).mono ?_; rintro e u8 ⟨rfl, hu8⟩)
          have hq8 := (hu8.block _ (lt_heap hq7)).trans hq7
          refine hK.out _ _ (hV7.trans (hu8.mono hV7.size)) (fun hV8 => ?_)
          clear hK K
          refine wpAnyH_take (i := 31) (v := .bool true) rfl (by as_aux_lemma => kernel_rfl) (by as_aux_lemma => kernel_rfl) (by as_aux_lemma => kernel_rfl) (fun _ _ _ h => h) (Or.inl ⟨(by as_aux_lemma => kernel_rfl), by (intro wz hSz; have heq := eq_b6; rw [HVWR.out]; go_simp; try with_reducible rfl)⟩) hV8 ?_
          go_simp
          refine wpAnyH_take (i := 32) (v := ?_) rfl (by as_aux_lemma => kernel_rfl) (by as_aux_lemma => kernel_rfl) (by as_aux_lemma => kernel_rfl) (fun _ _ _ h => h) (Or.inl ⟨(by as_aux_lemma => kernel_rfl), by (intro wz hSz; go_simp; try with_reducible rfl)⟩) hV8 ?_
          go_simp
          refine wpAnyH_take (i := 33) (v := ?_) rfl (by as_aux_lemma => kernel_rfl) (by as_aux_lemma => kernel_rfl) (by as_aux_lemma => kernel_rfl) (fun _ _ _ h => h) (Or.inl ⟨(by as_aux_lemma => kernel_rfl), by (intro wz hSz; go_simp; try with_reducible rfl)⟩) hV8 ?_
          go_simp
          refine wpAnyH_take (i := 34) (v := ?_) rfl (by as_aux_lemma => kernel_rfl) (by as_aux_lemma => kernel_rfl) (by as_aux_lemma => kernel_rfl) (fun _ _ _ h => h) (Or.inl ⟨(by as_aux_lemma => kernel_rfl), by (intro wz hSz; go_simp; try with_reducible rfl)⟩) hV8 ?_
          go_simp
          refine wpAnyH_take (i := 35) (v := ?_) rfl (by as_aux_lemma => kernel_rfl) (by as_aux_lemma => kernel_rfl) (by as_aux_lemma => kernel_rfl) (fun _ _ _ h => h) (Or.inl ⟨(by as_aux_lemma => kernel_rfl), by (intro wz hSz; go_simp; try with_reducible rfl)⟩) hV8 ?_
          go_simp
          refine wpAnyH_take (i := 36) (v := vI) rfl (by as_aux_lemma => kernel_rfl) (by as_aux_lemma => kernel_rfl) (by as_aux_lemma => kernel_rfl) (fun _ _ _ h => h) (by rw [HVI.out]; exact yieldsIf_load_mid (by as_aux_lemma => kernel_rfl) 75 (.tmp 66) rfl gi 0 rfl [.int .i64 (L 0), .int .i64 (L 1), .int .i64 (L 2), .int .i64 (L 3), .int .i64 (L 4), .int .i64 (L 5), .int .i64 (L 6), .int .i64 (L 7), .int .i64 (L 8), .int .i64 (L 9), .int .i64 (L 10), .int .i64 (L 11)] _ HRI.out Try.underlying75 rfl HZBP.out) hV8 ?_
          go_simp
          refine wpAnyH_take (i := 37) (v := ?_) rfl (by as_aux_lemma => kernel_rfl) (by as_aux_lemma => kernel_rfl) (by as_aux_lemma => kernel_rfl) (fun _ _ _ h => h) (Or.inl ⟨(by as_aux_lemma => kernel_rfl), by (intro wz hSz; go_simp; try with_reducible rfl)⟩) hV8 ?_
          go_simp
          refine wpAnyH_take (i := 38) (v := .slice (some ⟨gi, off, none⟩) (k - 1) (ci - 1)) rfl (by as_aux_lemma => kernel_rfl) (by as_aux_lemma => kernel_rfl) (by as_aux_lemma => kernel_rfl) (fun _ _ _ h => h) (Or.inl ⟨(by as_aux_lemma => kernel_rfl), by (intro wz hSz; rcases HOF.out with ⟨x1, x2⟩ | ⟨x1, x2⟩; (subst x2; subst x1; clear kci HO1 H7; go_simp; try with_reducible rfl); (subst x2; clear HO1 H7; go_simp; try with_reducible rfl))⟩) hV8 ?_
          go_simp
          refine wpAnyH_take (i := 41) (v := ?_) rfl (by as_aux_lemma => kernel_rfl) (by as_aux_lemma => kernel_rfl) (by as_aux_lemma => kernel_rfl) (fun _ _ _ h => h) (Or.inl ⟨(by as_aux_lemma => kernel_rfl), by (intro wz hSz; go_simp; try with_reducible rfl)⟩) hV8 ?_
          go_simp
          refine wpAnyH_ready (rs := [39]) (by as_aux_lemma => kernel_rfl) (by simp) ?_
          refine AllReadyH.cons rfl (fun K hK => ?_) AllReadyH.nil
          go_simp
          go_wp2_with (go_at_call 22; with_reducible refine (H7.out _ hV8).mono ?_; rintro e u9 ⟨rfl, hu9⟩)
          have hq9 := (hu9.block _ (lt_heap hq8)).trans hq8
          refine hK.out _ _ (hV8.trans (hu9.mono hV8.size)) (fun hV9 => ?_)
          clear hK K
          refine wpAnyH_ready (rs := [40]) (by as_aux_lemma => kernel_rfl) (by simp) ?_
          refine AllReadyH.cons rfl (fun K hK => ?_) AllReadyH.nil
          go_simp
          go_wp2_with (go_at_call 21; with_reducible refine (H8.out _).mono ?_; rintro e u10 ⟨rfl, hu10⟩)
          have hq10 := (hu10.block _ (lt_heap hq9)).trans hq9
          refine hK.out _ _ (hV9.trans (hu10.mono hV9.size)) (fun hV10 => ?_)
          clear hK K
          refine wpAnyH_ready (rs := [42]) (by as_aux_lemma => kernel_rfl) (by simp) ?_
          refine AllReadyH.cons rfl (fun K hK => ?_) AllReadyH.nil
          go_simp
          go_wp2_with (go_at_call 23; with_reducible refine (H9.out _ hV10).mono ?_; rintro e u11 ⟨rfl, hu11⟩)
          have hq11 := (hu11.block _ (lt_heap hq10)).trans hq10
          refine hK.out _ _ (hV10.trans (hu11.mono hV10.size)) (fun hV11 => ?_)
          clear hK K
          refine wpAnyH_take (i := 43) (v := .bool true) rfl (by as_aux_lemma => kernel_rfl) (by as_aux_lemma => kernel_rfl) (by as_aux_lemma => kernel_rfl) (fun _ _ _ h => h) (Or.inl ⟨(by as_aux_lemma => kernel_rfl), by (intro wz hSz; have heq := eq_b12; rw [HVOR.out]; go_simp; try with_reducible rfl)⟩) hV11 ?_
          go_simp
          refine wpAnyH_take (i := 44) (v := ?_) rfl (by as_aux_lemma => kernel_rfl) (by as_aux_lemma => kernel_rfl) (by as_aux_lemma => kernel_rfl) (fun _ _ _ h => h) (Or.inl ⟨(by as_aux_lemma => kernel_rfl), by (intro wz hSz; go_simp; try with_reducible rfl)⟩) hV11 ?_
          go_simp
          refine wpAnyH_take (i := 45) (v := ?_) rfl (by as_aux_lemma => kernel_rfl) (by as_aux_lemma => kernel_rfl) (by as_aux_lemma => kernel_rfl) (fun _ _ _ h => h) (Or.inl ⟨(by as_aux_lemma => kernel_rfl), by (intro wz hSz; go_simp; try with_reducible rfl)⟩) hV11 ?_
          go_simp
          refine wpAnyH_take (i := 46) (v := vM) rfl (by as_aux_lemma => kernel_rfl) (by as_aux_lemma => kernel_rfl) (by as_aux_lemma => kernel_rfl) (fun _ _ _ h => h) (by rw [HVM.out]; exact yieldsIf_load_mid (by as_aux_lemma => kernel_rfl) 64 (.tmp 5) rfl w.heap.size 0 rfl [.int .i64 m0, .int .i64 m1, .int .i64 m2, .int .i64 m3, .int .i64 m4, .int .i64 m5, .int .i64 m6, .int .i64 m7, .int .i64 m8, .int .i64 m9, .int .i64 m10, .int .i64 m11, .int .i64 m12, .int .i64 m13, .int .i64 m14, .int .i64 m15, .int .i64 m16, .int .i64 m17, .int .i64 m18, .int .i64 m19, .int .i64 m20, .int .i64 m21, .int .i64 m22, .int .i64 m23] _ HRM.out Try.underlying64 rfl HZRMV.out) hV11 ?_
          go_simp
          refine wpAnyH_take (i := 50) (v := vM) rfl (by as_aux_lemma => kernel_rfl) (by as_aux_lemma => kernel_rfl) (by as_aux_lemma => kernel_rfl) (fun _ _ _ h => h) (by rw [HVM.out]; exact yieldsIf_load_mid (by as_aux_lemma => kernel_rfl) 64 (.tmp 5) rfl w.heap.size 0 rfl [.int .i64 m0, .int .i64 m1, .int .i64 m2, .int .i64 m3, .int .i64 m4, .int .i64 m5, .int .i64 m6, .int .i64 m7, .int .i64 m8, .int .i64 m9, .int .i64 m10, .int .i64 m11, .int .i64 m12, .int .i64 m13, .int .i64 m14, .int .i64 m15, .int .i64 m16, .int .i64 m17, .int .i64 m18, .int .i64 m19, .int .i64 m20, .int .i64 m21, .int .i64 m22, .int .i64 m23] _ HRM.out Try.underlying64 rfl HZRMV.out) hV11 ?_
          go_simp
          refine wpAnyH_ready (rs := [47]) (by as_aux_lemma => kernel_rfl) (by simp) ?_
          refine AllReadyH.cons rfl (fun K hK => ?_) AllReadyH.nil
          go_simp
          go_wp2_with (go_at_call 25; with_reducible refine (H10.out _).mono ?_; rintro e u12 ⟨rfl, hu12⟩)
          have hq12 := (hu12.block _ (lt_heap hq11)).trans hq11
          refine hK.out _ _ (hV11.trans (hu12.mono hV11.size)) (fun hV12 => ?_)
          clear hK K
          refine wpAnyH_ready (rs := [48]) (by as_aux_lemma => kernel_rfl) (by simp) ?_
          refine AllReadyH.cons rfl (fun K hK => ?_) AllReadyH.nil
          go_simp
          go_wp2_with (go_at_call 24; with_reducible refine (H11.out _).mono ?_; rintro e u13 ⟨rfl, hu13⟩)
          have hq13 := (hu13.block _ (lt_heap hq12)).trans hq12
          refine hK.out _ _ (hV12.trans (hu13.mono hV12.size)) (fun hV13 => ?_)
          clear hK K
          refine wpAnyH_ready (rs := [49]) (by as_aux_lemma => kernel_rfl) (by simp) ?_
          refine AllReadyH.cons rfl (fun K hK => ?_) AllReadyH.nil
          go_simp
          go_wp2_with (go_at_call 21; with_reducible refine (H12.out _).mono ?_; rintro e u14 ⟨rfl, hu14⟩)
          have hq14 := (hu14.block _ (lt_heap hq13)).trans hq13
          refine hK.out _ _ (hV13.trans (hu14.mono hV13.size)) (fun hV14 => ?_)
          clear hK K
          refine wpAnyH_ready (rs := [51]) (by as_aux_lemma => kernel_rfl) (by simp) ?_
          refine AllReadyH.cons rfl (fun K hK => ?_) AllReadyH.nil
          go_simp
          go_wp2_with (go_at_call 26; with_reducible refine (H13.out _).mono ?_; rintro e u15 ⟨rfl, hu15⟩)
          have hq15 := (hu15.block _ (lt_heap hq14)).trans hq14
          refine hK.out _ _ (hV14.trans (hu15.mono hV14.size)) (fun hV15 => ?_)
          clear hK K
          refine wpAnyH_take (i := 52) (v := .bool true) rfl (by as_aux_lemma => kernel_rfl) (by as_aux_lemma => kernel_rfl) (by as_aux_lemma => kernel_rfl) (fun _ _ _ h => h) (Or.inl ⟨(by as_aux_lemma => kernel_rfl), by (intro wz hSz; have heq := eq_b12; rw [HVQR.out]; go_simp; try with_reducible rfl)⟩) hV15 ?_
          go_simp
          refine wpAnyH_take (i := 53) (v := ?_) rfl (by as_aux_lemma => kernel_rfl) (by as_aux_lemma => kernel_rfl) (by as_aux_lemma => kernel_rfl) (fun _ _ _ h => h) (Or.inl ⟨(by as_aux_lemma => kernel_rfl), by (intro wz hSz; go_simp; try with_reducible rfl)⟩) hV15 ?_
          go_simp
          refine wpAnyH_take (i := 54) (v := ?_) rfl (by as_aux_lemma => kernel_rfl) (by as_aux_lemma => kernel_rfl) (by as_aux_lemma => kernel_rfl) (fun _ _ _ h => h) (Or.inl ⟨(by as_aux_lemma => kernel_rfl), by (intro wz hSz; go_simp; try with_reducible rfl)⟩) hV15 ?_
          go_simp
          refine wpAnyH_take (i := 55) (v := ?_) rfl (by as_aux_lemma => kernel_rfl) (by as_aux_lemma => kernel_rfl) (by as_aux_lemma => kernel_rfl) (fun _ _ _ h => h) (Or.inl ⟨(by as_aux_lemma => kernel_rfl), by (intro wz hSz; go_simp; try with_reducible rfl)⟩) hV15 ?_
          go_simp
          refine wpAnyH_take (i := 56) (v := ?_) rfl (by as_aux_lemma => kernel_rfl) (by as_aux_lemma => kernel_rfl) (by as_aux_lemma => kernel_rfl) (fun _ _ _ h => h) (Or.inl ⟨(by as_aux_lemma => kernel_rfl), by (intro wz hSz; go_simp; try with_reducible rfl)⟩) hV15 ?_
          go_simp
          refine wpAnyH_take (i := 57) (v := ?_) rfl (by as_aux_lemma => kernel_rfl) (by as_aux_lemma => kernel_rfl) (by as_aux_lemma => kernel_rfl) (fun _ _ _ h => h) (Or.inl ⟨(by as_aux_lemma => kernel_rfl), by (intro wz hSz; go_simp; try with_reducible rfl)⟩) hV15 ?_
          go_simp
          refine wpAnyH_take (i := 58) (v := vX) rfl (by as_aux_lemma => kernel_rfl) (by as_aux_lemma => kernel_rfl) (by as_aux_lemma => kernel_rfl) (fun _ _ _ h => h) (by rw [HVX.out]; exact yieldsIf_load_mid (by as_aux_lemma => kernel_rfl) 73 (.tmp 88) rfl gi 0 rfl [.int .i64 (L 0), .int .i64 (L 1), .int .i64 (L 2), .int .i64 (L 3), .int .i64 (L 4), .int .i64 (L 5)] _ HRX.out Try.underlying73 rfl HZBX.out) hV15 ?_
          go_simp
          refine wpAnyH_take (i := 60) (v := ?_) rfl (by as_aux_lemma => kernel_rfl) (by as_aux_lemma => kernel_rfl) (by as_aux_lemma => kernel_rfl) (fun _ _ _ h => h) (Or.inl ⟨(by as_aux_lemma => kernel_rfl), by (intro wz hSz; go_simp; try with_reducible rfl)⟩) hV15 ?_
          go_simp
          refine wpAnyH_take (i := 61) (v := ?_) rfl (by as_aux_lemma => kernel_rfl) (by as_aux_lemma => kernel_rfl) (by as_aux_lemma => kernel_rfl) (fun _ _ _ h => h) (Or.inl ⟨(by as_aux_lemma => kernel_rfl), by (intro wz hSz; go_simp; try with_reducible rfl)⟩) hV15 ?_
          go_simp
          refine wpAnyH_take (i := 62) (v := ?_) rfl (by as_aux_lemma => kernel_rfl) (by as_aux_lemma => kernel_rfl) (by as_aux_lemma => kernel_rfl) (fun _ _ _ h => h) (Or.inl ⟨(by as_aux_lemma => kernel_rfl), by (intro wz hSz; go_simp; try with_reducible rfl)⟩) hV15 ?_
          go_simp
          refine wpAnyH_take (i := 63) (v := vX) rfl (by as_aux_lemma => kernel_rfl) (by as_aux_lemma => kernel_rfl) (by as_aux_lemma => kernel_rfl) (fun _ _ _ h => h) (by rw [HVX.out]; exact yieldsIf_load_mid (by as_aux_lemma => kernel_rfl) 73 (.tmp 93) rfl gi 0 rfl [.int .i64 (L 0), .int .i64 (L 1), .int .i64 (L 2), .int .i64 (L 3), .int .i64 (L 4), .int .i64 (L 5)] _ HRX.out Try.underlying73 rfl HZBX.out) hV15 ?_
          go_simp
          refine wpAnyH_ready (rs := [59]) (by as_aux_lemma => kernel_rfl) (by simp) ?_
          refine AllReadyH.cons rfl (fun K hK => ?_) AllReadyH.nil
          go_simp
          go_wp2_with (go_at_call 27; with_reducible refine (H14.out _).mono ?_; rintro e u16 ⟨rfl, hu16⟩)
          have hq16 := (hu16.block _ (lt_heap hq15)).trans hq15
          refine hK.out _ _ (hV15.trans (hu16.mono hV15.size)) (fun hV16 => ?_)
          clear hK K
          refine wpAnyH_ready (rs := [64]) (by as_aux_lemma => kernel_rfl) (by simp) ?_
          refine AllReadyH.cons rfl (fun K hK => ?_) AllReadyH.nil
          go_simp
          go_wp2_with (go_at_call 27; with_reducible refine (H14.out _).mono ?_; rintro e u17 ⟨rfl, hu17⟩)
          have hq17 := (hu17.block _ (lt_heap hq16)).trans hq16
          refine hK.out _ _ (hV16.trans (hu17.mono hV16.size)) (fun hV17 => ?_)
          clear hK K
          refine wpAnyH_take (i := 65) (v := ?_) rfl (by as_aux_lemma => kernel_rfl) (by as_aux_lemma => kernel_rfl) (by as_aux_lemma => kernel_rfl) (fun _ _ _ h => h) (Or.inl ⟨(by as_aux_lemma => kernel_rfl), by (intro wz hSz; go_simp; try with_reducible rfl)⟩) hV17 ?_
          go_simp
          refine wpAnyH_take (i := 66) (v := ?_) rfl (by as_aux_lemma => kernel_rfl) (by as_aux_lemma => kernel_rfl) (by as_aux_lemma => kernel_rfl) (fun _ _ _ h => h) (Or.inl ⟨(by as_aux_lemma => kernel_rfl), by (intro wz hSz; go_simp; try with_reducible rfl)⟩) hV17 ?_
          go_simp
          refine wpAnyH_take (i := 67) (v := ?_) rfl (by as_aux_lemma => kernel_rfl) (by as_aux_lemma => kernel_rfl) (by as_aux_lemma => kernel_rfl) (fun _ _ _ h => h) (Or.inl ⟨(by as_aux_lemma => kernel_rfl), by (intro wz hSz; go_simp; try with_reducible rfl)⟩) hV17 ?_
          go_simp
          refine wpAnyH_done (by as_aux_lemma => kernel_rfl) ?_ _
          go_wp2
          go_ret
          exact ⟨rfl, HW.out.trans ((HU.out.trans (hV17.mono HU.out.size)).mono HW.out.size)⟩
      · skip
        go_simp
        have hu5 := below_n1 u4 (.cells #[.int .i64 (L 0), .int .i64 (L 1), .int .i64 (L 2), .int .i64 (L 3), .int .i64 (L 4), .int .i64 (L 5), .int .i64 (L 6), .int .i64 (L 7), .int .i64 (L 8), .int .i64 (L 9), .int .i64 (L 10), .int .i64 (L 11)] 67)
        have hq5 := heap_alloc_last u4 (.cells #[.int .i64 (L 0), .int .i64 (L 1), .int .i64 (L 2), .int .i64 (L 3), .int .i64 (L 4), .int .i64 (L 5), .int .i64 (L 6), .int .i64 (L 7), .int .i64 (L 8), .int .i64 (L 9), .int .i64 (L 10), .int .i64 (L 11)] 67)
        obtain ⟨u5, hy5⟩ : ∃ u5, u4.alloc (.cells #[.int .i64 (L 0), .int .i64 (L 1), .int .i64 (L 2), .int .i64 (L 3), .int .i64 (L 4), .int .i64 (L 5), .int .i64 (L 6), .int .i64 (L 7), .int .i64 (L 8), .int .i64 (L 9), .int .i64 (L 10), .int .i64 (L 11)] 67) = u5 := ⟨_, rfl⟩
        rw [hy5] at hu5 hq5 ⊢
        clear hy5
        refine hK.out _ _ (hV4.trans (hu5.mono hV4.size)) (fun hV5 => ?_)
        clear hK K
        refine wpAnyH_ready (rs := [19]) (by as_aux_lemma => kernel_rfl) (by simp) ?_
        refine AllReadyH.cons rfl (fun K hK => ?_) AllReadyH.nil
        go_simp
        go_wp2_with (go_at_call 19; with_reducible refine (H4.out _).mono ?_; rintro e u6 ⟨rfl, hu6⟩)
        have hq6 := (hu6.block _ (lt_heap hq5)).trans hq5
        refine hK.out _ _ (hV5.trans (hu6.mono hV5.size)) (fun hV6 => ?_)
        clear hK K
        refine wpAnyH_ready (rs := [20]) (by as_aux_lemma => kernel_rfl) (by simp) ?_
        refine AllReadyH.cons rfl (fun K hK => ?_) AllReadyH.nil
        go_simp
        go_wp2_with (go_at_call 16; with_reducible refine (H5.out _).mono ?_; rintro e u7 ⟨rfl, hu7⟩)
        have hq7 := (hu7.block _ (lt_heap hq6)).trans hq6
        refine hK.out _ _ (hV6.trans (hu7.mono hV6.size)) (fun hV7 => ?_)
        clear hK K
        refine wpAnyH_ready (rs := [30]) (by as_aux_lemma => kernel_rfl) (by simp) ?_
        refine AllReadyH.cons rfl (fun K hK => ?_) AllReadyH.nil
        go_simp
        go_wp2_with (go_at_call 20; with_reducible refine (H6.out _ _ hq7).mono ?_; rintro e u8 ⟨rfl, hu8⟩)
        have hq8 := (hu8.block _ (lt_heap hq7)).trans hq7
        refine hK.out _ _ (hV7.trans (hu8.mono hV7.size)) (fun hV8 => ?_)
        clear hK K
        refine wpAnyH_take (i := 31) (v := .bool true) rfl (by as_aux_lemma => kernel_rfl) (by as_aux_lemma => kernel_rfl) (by as_aux_lemma => kernel_rfl) (fun _ _ _ h => h) (Or.inl ⟨(by as_aux_lemma => kernel_rfl), by (intro wz hSz; have heq := eq_b6; rw [HVWR.out]; go_simp; try with_reducible rfl)⟩) hV8 ?_
        go_simp
        refine wpAnyH_take (i := 32) (v := ?_) rfl (by as_aux_lemma => kernel_rfl) (by as_aux_lemma => kernel_rfl) (by as_aux_lemma => kernel_rfl) (fun _ _ _ h => h) (Or.inl ⟨(by as_aux_lemma => kernel_rfl), by (intro wz hSz; go_simp; try with_reducible rfl)⟩) hV8 ?_
        go_simp
        refine wpAnyH_take (i := 33) (v := ?_) rfl (by as_aux_lemma => kernel_rfl) (by as_aux_lemma => kernel_rfl) (by as_aux_lemma => kernel_rfl) (fun _ _ _ h => h) (Or.inl ⟨(by as_aux_lemma => kernel_rfl), by (intro wz hSz; go_simp; try with_reducible rfl)⟩) hV8 ?_
        go_simp
        refine wpAnyH_take (i := 34) (v := ?_) rfl (by as_aux_lemma => kernel_rfl) (by as_aux_lemma => kernel_rfl) (by as_aux_lemma => kernel_rfl) (fun _ _ _ h => h) (Or.inl ⟨(by as_aux_lemma => kernel_rfl), by (intro wz hSz; go_simp; try with_reducible rfl)⟩) hV8 ?_
        go_simp
        refine wpAnyH_take (i := 35) (v := ?_) rfl (by as_aux_lemma => kernel_rfl) (by as_aux_lemma => kernel_rfl) (by as_aux_lemma => kernel_rfl) (fun _ _ _ h => h) (Or.inl ⟨(by as_aux_lemma => kernel_rfl), by (intro wz hSz; go_simp; try with_reducible rfl)⟩) hV8 ?_
        go_simp
        refine wpAnyH_take (i := 36) (v := vI) rfl (by as_aux_lemma => kernel_rfl) (by as_aux_lemma => kernel_rfl) (by as_aux_lemma => kernel_rfl) (fun _ _ _ h => h) (by rw [HVI.out]; exact yieldsIf_load_mid (by as_aux_lemma => kernel_rfl) 75 (.tmp 66) rfl gi 0 rfl [.int .i64 (L 0), .int .i64 (L 1), .int .i64 (L 2), .int .i64 (L 3), .int .i64 (L 4), .int .i64 (L 5), .int .i64 (L 6), .int .i64 (L 7), .int .i64 (L 8), .int .i64 (L 9), .int .i64 (L 10), .int .i64 (L 11)] _ HRI.out Try.underlying75 rfl HZBP.out) hV8 ?_
        go_simp
        refine wpAnyH_take (i := 37) (v := ?_) rfl (by as_aux_lemma => kernel_rfl) (by as_aux_lemma => kernel_rfl) (by as_aux_lemma => kernel_rfl) (fun _ _ _ h => h) (Or.inl ⟨(by as_aux_lemma => kernel_rfl), by (intro wz hSz; go_simp; try with_reducible rfl)⟩) hV8 ?_
        go_simp
        refine wpAnyH_take (i := 38) (v := .slice (some ⟨gi, off, none⟩) (k - 1) (ci - 1)) rfl (by as_aux_lemma => kernel_rfl) (by as_aux_lemma => kernel_rfl) (by as_aux_lemma => kernel_rfl) (fun _ _ _ h => h) (Or.inl ⟨(by as_aux_lemma => kernel_rfl), by (intro wz hSz; rcases HOF.out with ⟨x1, x2⟩ | ⟨x1, x2⟩; (subst x2; subst x1; clear kci HO1 H7; go_simp; try with_reducible rfl); (subst x2; clear HO1 H7; go_simp; try with_reducible rfl))⟩) hV8 ?_
        go_simp
        refine wpAnyH_take (i := 41) (v := ?_) rfl (by as_aux_lemma => kernel_rfl) (by as_aux_lemma => kernel_rfl) (by as_aux_lemma => kernel_rfl) (fun _ _ _ h => h) (Or.inl ⟨(by as_aux_lemma => kernel_rfl), by (intro wz hSz; go_simp; try with_reducible rfl)⟩) hV8 ?_
        go_simp
        refine wpAnyH_ready (rs := [39]) (by as_aux_lemma => kernel_rfl) (by simp) ?_
        refine AllReadyH.cons rfl (fun K hK => ?_) AllReadyH.nil
        go_simp
        go_wp2_with (go_at_call 22; with_reducible refine (H7.out _ hV8).mono ?_; rintro e u9 ⟨rfl, hu9⟩)
        have hq9 := (hu9.block _ (lt_heap hq8)).trans hq8
        refine hK.out _ _ (hV8.trans (hu9.mono hV8.size)) (fun hV9 => ?_)
        clear hK K
        refine wpAnyH_ready (rs := [40]) (by as_aux_lemma => kernel_rfl) (by simp) ?_
        refine AllReadyH.cons rfl (fun K hK => ?_) AllReadyH.nil
        go_simp
        go_wp2_with (go_at_call 21; with_reducible refine (H8.out _).mono ?_; rintro e u10 ⟨rfl, hu10⟩)
        have hq10 := (hu10.block _ (lt_heap hq9)).trans hq9
        refine hK.out _ _ (hV9.trans (hu10.mono hV9.size)) (fun hV10 => ?_)
        clear hK K
        refine wpAnyH_ready (rs := [42]) (by as_aux_lemma => kernel_rfl) (by simp) ?_
        refine AllReadyH.cons rfl (fun K hK => ?_) AllReadyH.nil
        go_simp
        go_wp2_with (go_at_call 23; with_reducible refine (H9.out _ hV10).mono ?_; rintro e u11 ⟨rfl, hu11⟩)
        have hq11 := (hu11.block _ (lt_heap hq10)).trans hq10
        refine hK.out _ _ (hV10.trans (hu11.mono hV10.size)) (fun hV11 => ?_)
        clear hK K
        refine wpAnyH_take (i := 43) (v := .bool true) rfl (by as_aux_lemma => kernel_rfl) (by as_aux_lemma => kernel_rfl) (by as_aux_lemma => kernel_rfl) (fun _ _ _ h => h) (Or.inl ⟨(by as_aux_lemma => kernel_rfl), by (intro wz hSz; have heq := eq_b12; rw [HVOR.out]; go_simp; try with_reducible rfl)⟩) hV11 ?_
        go_simp
        refine wpAnyH_take (i := 44) (v := ?_) rfl (by as_aux_lemma => kernel_rfl) (by as_aux_lemma => kernel_rfl) (by as_aux_lemma => kernel_rfl) (fun _ _ _ h => h) (Or.inl ⟨(by as_aux_lemma => kernel_rfl), by (intro wz hSz; go_simp; try with_reducible rfl)⟩) hV11 ?_
        go_simp
        refine wpAnyH_take (i := 45) (v := ?_) rfl (by as_aux_lemma => kernel_rfl) (by as_aux_lemma => kernel_rfl) (by as_aux_lemma => kernel_rfl) (fun _ _ _ h => h) (Or.inl ⟨(by as_aux_lemma => kernel_rfl), by (intro wz hSz; go_simp; try with_reducible rfl)⟩) hV11 ?_
        go_simp
        refine wpAnyH_take (i := 46) (v := vM) rfl (by as_aux_lemma => kernel_rfl) (by as_aux_lemma => kernel_rfl) (by as_aux_lemma => kernel_rfl) (fun _ _ _ h => h) (by rw [HVM.out]; exact yieldsIf_load_mid (by as_aux_lemma => kernel_rfl) 64 (.tmp 5) rfl w.heap.size 0 rfl [.int .i64 m0, .int .i64 m1, .int .i64 m2, .int .i64 m3, .int .i64 m4, .int .i64 m5, .int .i64 m6, .int .i64 m7, .int .i64 m8, .int .i64 m9, .int .i64 m10, .int .i64 m11, .int .i64 m12, .int .i64 m13, .int .i64 m14, .int .i64 m15, .int .i64 m16, .int .i64 m17, .int .i64 m18, .int .i64 m19, .int .i64 m20, .int .i64 m21, .int .i64 m22, .int .i64 m23] _ HRM.out Try.underlying64 rfl HZRMV.out) hV11 ?_
        go_simp
        refine wpAnyH_take (i := 50) (v := vM) rfl (by as_aux_lemma => kernel_rfl) (by as_aux_lemma => kernel_rfl) (by as_aux_lemma => kernel_rfl) (fun _ _ _ h => h) (by rw [HVM.out]; exact yieldsIf_load_mid (by as_aux_lemma => kernel_rfl) 64 (.tmp 5) rfl w.heap.size 0 rfl [.int .i64 m0, .int .i64 m1, .int .i64 m2, .int .i64 m3, .int .i64 m4, .int .i64 m5, .int .i64 m6, .int .i64 m7, .int .i64 m8, .int .i64 m9, .int .i64 m10, .int .i64 m11, .int .i64 m12, .int .i64 m13, .int .i64 m14, .int .i64 m15, .int .i64 m16, .int .i64 m17, .int .i64 m18, .int .i64 m19, .int .i64 m20, .int .i64 m21, .int .i64 m22, .int .i64 m23] _ HRM.out Try.underlying64 rfl HZRMV.out) hV11 ?_
        go_simp
        refine wpAnyH_ready (rs := [47]) (by as_aux_lemma => kernel_rfl) (by simp) ?_
        refine AllReadyH.cons rfl (fun K hK => ?_) AllReadyH.nil
        go_simp
        go_wp2_with (go_at_call 25; with_reducible refine (H10.out _).mono ?_; rintro e u12 ⟨rfl, hu12⟩)
        have hq12 := (hu12.block _ (lt_heap hq11)).trans hq11
        refine hK.out _ _ (hV11.trans (hu12.mono hV11.size)) (fun hV12 => ?_)
        clear hK K
        refine wpAnyH_ready (rs := [48]) (by as_aux_lemma => kernel_rfl) (by simp) ?_
        refine AllReadyH.cons rfl (fun K hK => ?_) AllReadyH.nil
        go_simp
        go_wp2_with (go_at_call 24; with_reducible refine (H11.out _).mono ?_; rintro e u13 ⟨rfl, hu13⟩)
        have hq13 := (hu13.block _ (lt_heap hq12)).trans hq12
        refine hK.out _ _ (hV12.trans (hu13.mono hV12.size)) (fun hV13 => ?_)
        clear hK K
        refine wpAnyH_ready (rs := [49]) (by as_aux_lemma => kernel_rfl) (by simp) ?_
        refine AllReadyH.cons rfl (fun K hK => ?_) AllReadyH.nil
        go_simp
        go_wp2_with (go_at_call 21; with_reducible refine (H12.out _).mono ?_; rintro e u14 ⟨rfl, hu14⟩)
        have hq14 := (hu14.block _ (lt_heap hq13)).trans hq13
        refine hK.out _ _ (hV13.trans (hu14.mono hV13.size)) (fun hV14 => ?_)
        clear hK K
        refine wpAnyH_ready (rs := [51]) (by as_aux_lemma => kernel_rfl) (by simp) ?_
        refine AllReadyH.cons rfl (fun K hK => ?_) AllReadyH.nil
        go_simp
        go_wp2_with (go_at_call 26; with_reducible refine (H13.out _).mono ?_; rintro e u15 ⟨rfl, hu15⟩)
        have hq15 := (hu15.block _ (lt_heap hq14)).trans hq14
        refine hK.out _ _ (hV14.trans (hu15.mono hV14.size)) (fun hV15 => ?_)
        clear hK K
        refine wpAnyH_take (i := 52) (v := .bool true) rfl (by as_aux_lemma => kernel_rfl) (by as_aux_lemma => kernel_rfl) (by as_aux_lemma => kernel_rfl) (fun _ _ _ h => h) (Or.inl ⟨(by as_aux_lemma => kernel_rfl), by (intro wz hSz; have heq := eq_b12; rw [HVQR.out]; go_simp; try with_reducible rfl)⟩) hV15 ?_
        go_simp
        refine wpAnyH_take (i := 53) (v := ?_) rfl (by as_aux_lemma => kernel_rfl) (by as_aux_lemma => kernel_rfl) (by as_aux_lemma => kernel_rfl) (fun _ _ _ h => h) (Or.inl ⟨(by as_aux_lemma => kernel_rfl), by (intro wz hSz; go_simp; try with_reducible rfl)⟩) hV15 ?_
        go_simp
        refine wpAnyH_take (i := 54) (v := ?_) rfl (by as_aux_lemma => kernel_rfl) (by as_aux_lemma => kernel_rfl) (by as_aux_lemma => kernel_rfl) (fun _ _ _ h => h) (Or.inl ⟨(by as_aux_lemma => kernel_rfl), by (intro wz hSz; go_simp; try with_reducible rfl)⟩) hV15 ?_
        go_simp
        refine wpAnyH_take (i := 55) (v := ?_) rfl (by as_aux_lemma => kernel_rfl) (by as_aux_lemma => kernel_rfl) (by as_aux_lemma => kernel_rfl) (fun _ _ _ h => h) (Or.inl ⟨(by as_aux_lemma => kernel_rfl), by (intro wz hSz; go_simp; try with_reducible rfl)⟩) hV15 ?_
        go_simp
        refine wpAnyH_take (i := 56) (v := ?_) rfl (by as_aux_lemma => kernel_rfl) (by as_aux_lemma => kernel_rfl) (by as_aux_lemma => kernel_rfl) (fun _ _ _ h => h) (Or.inl ⟨(by as_aux_lemma => kernel_rfl), by (intro wz hSz; go_simp; try with_reducible rfl)⟩) hV15 ?_
        go_simp
        refine wpAnyH_take (i := 57) (v := ?_) rfl (by as_aux_lemma => kernel_rfl) (by as_aux_lemma => kernel_rfl) (by as_aux_lemma => kernel_rfl) (fun _ _ _ h => h) (Or.inl ⟨(by as_aux_lemma => kernel_rfl), by (intro wz hSz; go_simp; try with_reducible rfl)⟩) hV15 ?_
        go_simp
        refine wpAnyH_take (i := 58) (v := vX) rfl (by as_aux_lemma => kernel_rfl) (by as_aux_lemma => kernel_rfl) (by as_aux_lemma => kernel_rfl) (fun _ _ _ h => h) (by rw [HVX.out]; exact yieldsIf_load_mid (by as_aux_lemma => kernel_rfl) 73 (.tmp 88) rfl gi 0 rfl [.int .i64 (L 0), .int .i64 (L 1), .int .i64 (L 2), .int .i64 (L 3), .int .i64 (L 4), .int .i64 (L 5)] _ HRX.out Try.underlying73 rfl HZBX.out) hV15 ?_
        go_simp
        refine wpAnyH_take (i := 60) (v := ?_) rfl (by as_aux_lemma => kernel_rfl) (by as_aux_lemma => kernel_rfl) (by as_aux_lemma => kernel_rfl) (fun _ _ _ h => h) (Or.inl ⟨(by as_aux_lemma => kernel_rfl), by (intro wz hSz; go_simp; try with_reducible rfl)⟩) hV15 ?_
        go_simp
        refine wpAnyH_take (i := 61) (v := ?_) rfl (by as_aux_lemma => kernel_rfl) (by as_aux_lemma => kernel_rfl) (by as_aux_lemma => kernel_rfl) (fun _ _ _ h => h) (Or.inl ⟨(by as_aux_lemma => kernel_rfl), by (intro wz hSz; go_simp; try with_reducible rfl)⟩) hV15 ?_
        go_simp
        refine wpAnyH_take (i := 62) (v := ?_) rfl (by as_aux_lemma => kernel_rfl) (by as_aux_lemma => kernel_rfl) (by as_aux_lemma => kernel_rfl) (fun _ _ _ h => h) (Or.inl ⟨(by as_aux_lemma => kernel_rfl), by (intro wz hSz; go_simp; try with_reducible rfl)⟩) hV15 ?_
        go_simp
        refine wpAnyH_take (i := 63) (v := vX) rfl (by as_aux_lemma => kernel_rfl) (by as_aux_lemma => kernel_rfl) (by as_aux_lemma => kernel_rfl) (fun _ _ _ h => h) (by rw [HVX.out]; exact yieldsIf_load_mid (by as_aux_lemma => kernel_rfl) 73 (.tmp 93) rfl gi 0 rfl [.int .i64 (L 0), .int .i64 (L 1), .int .i64 (L 2), .int .i64 (L 3), .int .i64 (L 4), .int .i64 (L 5)] _ HRX.out Try.underlying73 rfl HZBX.out) hV15 ?_
        go_simp
        refine wpAnyH_ready (rs := [59]) (by as_aux_lemma => kernel_rfl) (by simp) ?_
        refine AllReadyH.cons rfl (fun K hK => ?_) AllReadyH.nil
        go_simp
        go_wp2_with (go_at_call 27; with_reducible refine (H14.out _).mono ?_; rintro e u16 ⟨rfl, hu16⟩)
        have hq16 := (hu16.block _ (lt_heap hq15)).trans hq15
        refine hK.out _ _ (hV15.trans (hu16.mono hV15.size)) (fun hV16 => ?_)
        clear hK K
        refine wpAnyH_ready (rs := [64]) (by as_aux_lemma => kernel_rfl) (by simp) ?_
        refine AllReadyH.cons rfl (fun K hK => ?_) AllReadyH.nil
        go_simp
        go_wp2_with (go_at_call 27; with_reducible refine (H14.out _).mono ?_; rintro e u17 ⟨rfl, hu17⟩)
        have hq17 := (hu17.block _ (lt_heap hq16)).trans hq16
        refine hK.out _ _ (hV16.trans (hu17.mono hV16.size)) (fun hV17 => ?_)
        clear hK K
        refine wpAnyH_take (i := 65) (v := ?_) rfl (by as_aux_lemma => kernel_rfl) (by as_aux_lemma => kernel_rfl) (by as_aux_lemma => kernel_rfl) (fun _ _ _ h => h) (Or.inl ⟨(by as_aux_lemma => kernel_rfl), by (intro wz hSz; go_simp; try with_reducible rfl)⟩) hV17 ?_
        go_simp
        refine wpAnyH_take (i := 66) (v := ?_) rfl (by as_aux_lemma => kernel_rfl) (by as_aux_lemma => kernel_rfl) (by as_aux_lemma => kernel_rfl) (fun _ _ _ h => h) (Or.inl ⟨(by as_aux_lemma => kernel_rfl), by (intro wz hSz; go_simp; try with_reducible rfl)⟩) hV17 ?_
        go_simp
        refine wpAnyH_take (i := 67) (v := ?_) rfl (by as_aux_lemma => kernel_rfl) (by as_aux_lemma => kernel_rfl) (by as_aux_lemma => kernel_rfl) (fun _ _ _ h => h) (Or.inl ⟨(by as_aux_lemma => kernel_rfl), by (intro wz hSz; go_simp; try with_reducible rfl)⟩) hV17 ?_
        go_simp
        refine wpAnyH_done (by as_aux_lemma => kernel_rfl) ?_ _
        go_wp2
        go_ret
        exact ⟨rfl, HW.out.trans ((HU.out.trans (hV17.mono HU.out.size)).mono HW.out.size)⟩

end Go.Proofs.Ythlcfhnlkpobhaa.boxPairsW
