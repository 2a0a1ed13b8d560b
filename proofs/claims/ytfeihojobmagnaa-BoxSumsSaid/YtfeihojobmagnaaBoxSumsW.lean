/- BoxSums: the walk: the law returns true, whatever points, whatever boxes and whatever number come in; nothing that was there is written. -/
import Derived.Test.YtfeihojobmagnaaBl
import Derived.Test.YtfeihojobmagnaaLs
namespace Go.Proofs.Ytfeihojobmagnaa.boxSumsW
open Go.RowKit Go.Proofs.Ytfeihojobmagnaa Go.Proofs.Ytfeihojobmagnaa.Wa Go.Proofs.Ytfeihojobmagnaa.Ve Go.Proofs.Ytfeihojobmagnaa.Au Go.Proofs.Ytfeihojobmagnaa.Bx Go.Proofs.Ytfeihojobmagnaa.Ls
set_option linter.unusedVariables false
set_option linter.unusedSimpArgs false

theorem infoVec : (Try.prog.info? 55).map (fun i => (i.zero, i.size, i.bytes)) = some (some (.agg #[.int .i64 0, .int .i64 0, .int .i64 0]), 3, 24) := by kernel_rfl

theorem infoBox : (Try.prog.info? 84).map (fun i => (i.zero, i.size, i.bytes)) = some (some (.agg #[.int .i64 0, .int .i64 0, .int .i64 0, .int .i64 0, .int .i64 0, .int .i64 0]), 6, 48) := by kernel_rfl

def flat (L : Nat → Int) (k : Nat) : List Value := (List.range (k * 3)).map fun j => .int .i64 (L j)

theorem flat_len (L : Nat → Int) (k : Nat) : (flat L k).length = k * 3 := by simp [flat]

theorem flat_step (L : Nat → Int) (k : Nat) : flat L (k + 1) = flat L k ++ [.int .i64 (L (k * 3)), .int .i64 (L (k * 3 + 1)), .int .i64 (L (k * 3 + 2))] := by
  simp [flat, show (k + 1) * 3 = k * 3 + 1 + 1 + 1 by omega, List.range_succ]

theorem flat_at (L : Nat → Int) (k j : Nat) (h : j < k * 3) : (flat L k)[j]? = some (.int .i64 (L j)) := by
  simp [flat, h]

theorem own_ne {w : World} {b1 b2 : Nat} {e1 e2 : TypeId} {s1 s2 n1 n2 : Nat} {v1 v2 : Value} {x1 x2 : List Value} (he : e1 ≠ e2) (h1 : w.ownsRow b1 e1 s1 v1 n1 x1) (h2 : w.ownsRow b2 e2 s2 v2 n2 x2) :
    v1.ownBlock = none ∨ v1.ownBlock ≠ v2.ownBlock := by
  rcases h1.2 with ⟨rfl, -⟩ | ⟨g1, c1, u1, rfl, -, g, -, -, -, -⟩
  · exact .inl rfl
  · rcases h2.2 with ⟨rfl, -⟩ | ⟨g2, c2, u2, rfl, -, g', -, -, -, -⟩
    · exact .inr (by simp [Value.ownBlock])
    · refine .inr fun e => ?_
      simp [Value.ownBlock] at e
      subst e
      rw [g] at g'
      simp at g'
      exact he g'.2

/-- the values of a row's numbers, six a thing -/
def flat6 (L : Nat → Int) (k : Nat) : List Value := (List.range (k * 6)).map fun j => .int .i64 (L j)

theorem flat6_step (L : Nat → Int) (k : Nat) : flat6 L (k + 1) = flat6 L k ++ [.int .i64 (L (k * 6)), .int .i64 (L (k * 6 + 1)), .int .i64 (L (k * 6 + 2)), .int .i64 (L (k * 6 + 3)), .int .i64 (L (k * 6 + 4)), .int .i64 (L (k * 6 + 5))] := by
  simp [flat6, show (k + 1) * 6 = k * 6 + 1 + 1 + 1 + 1 + 1 + 1 by omega, List.range_succ]

theorem flat6_at (L : Nat → Int) (k j : Nat) (h : j < k * 6) : (flat6 L k)[j]? = some (.int .i64 (L j)) := by
  simp [flat6, h]

set_option maxHeartbeats 8000000 in
set_option maxRecDepth 100000 in
theorem walk (a1 : Option Addr) (n1 c1 : Nat) (L : Nat → Int) (a2 : Option Addr) (n2 c2 : Nat) (M : Nat → Int) (by_ : Int) (w : World) (hl : Ni.Nums 3 w a1 n1 L) (hm : Ni.Nums 6 w a2 n2 M) :
    Calls Try.prog 5 #[.slice a1 n1 c1, .slice a2 n2 c2, .int .i64 by_] w fun e w' => e = .returned (.bool true) ∧ Below w.heap.size w w' := by
  obtain ⟨i0, hi, hz0, hz1, hz2⟩ := info_parts infoVec
  obtain ⟨j0, hj, hy0, hy1, hy2⟩ := info_parts infoBox
  have HL := Lib.hid hl
  have HM := Lib.hid hm
  have heq := eq_b6
  clear hl hm
  go_enter Try.func5, Try.ntmps5
  by_cases e1 : n1 = 0
  · subst e1
    go_wp2_with fail
    refine (awake_any _).mono ?_
    rintro e w1 ⟨rfl, hb⟩
    go_wp2
    go_ret
    exact ⟨rfl, hb⟩
  have f1 : ¬ ((n1 : Int) = 0) := by omega
  have g1 : ((n1 : Int) == 0) = false := by simpa using e1
  by_cases e2 : n2 = 0
  · subst e2
    go_wp2_with fail
    refine (awake_any _).mono ?_
    rintro e w1 ⟨rfl, hb⟩
    go_wp2
    go_ret
    exact ⟨rfl, hb⟩
  have f2 : ¬ ((n2 : Int) = 0) := by omega
  have g2 : ((n2 : Int) == 0) = false := by simpa using e2
  by_cases e3 : (40 : Int) < n1
  · have g3 := decide_eq_true e3
    go_wp2_with fail
    refine (awake_any _).mono ?_
    rintro e w1 ⟨rfl, hb⟩
    go_wp2
    go_ret
    exact ⟨rfl, hb⟩
  have g3 := decide_eq_false e3
  by_cases e4 : (40 : Int) < n2
  · have g4 := decide_eq_true e4
    go_wp2_with fail
    refine (awake_any _).mono ?_
    rintro e w1 ⟨rfl, hb⟩
    go_wp2
    go_ret
    exact ⟨rfl, hb⟩
  have g4 := decide_eq_false e4
  go_wp2_with fail
  clear g1 g2 g3 g4
  go_loopw [7, 34] (fun s7 s34 wr => ∃ k : Nat, k ≤ n1 ∧ s34 = .int .i64 k ∧ wr.ownsRow w.heap.size 55 3 s7 k (flat L k) ∧ Hid (Below w.heap.size w wr)) (fun _ s34 _ => n1 - (intOf s34).toNat)
  case atStart => exact ⟨0, by omega, rfl, World.ownsRow_nil _ _ _ _, Lib.hid (Below.refl _ _)⟩
  case round =>
    obtain ⟨k, hk, rfl, hin, HU⟩ := hrel
    obtain ⟨y0, rfl⟩ : ∃ y : World, y = wr := ⟨_, rfl⟩
    by_cases hlt : k < n1
    · have hlt' : (k : Int) < n1 := by omega
      obtain ⟨-, h0 | ⟨b, off, rfl, hb, hc⟩⟩ := HL.out
      · exact absurd hlt (by omega)
      have C0 : y0.cell? ⟨b, off + k * 3, none⟩ = some (.int .i64 (L (k * 3))) := (HU.out.cell (p := ⟨b, off + k * 3, none⟩) hb).trans (hc (k * 3) (by omega))
      have C1 : y0.cell? ⟨b, off + k * 3 + 1, none⟩ = some (.int .i64 (L (k * 3 + 1))) := (HU.out.cell (p := ⟨b, off + (k * 3 + 1), none⟩) hb).trans (hc (k * 3 + 1) (by omega))
      have C2 : y0.cell? ⟨b, off + k * 3 + 2, none⟩ = some (.int .i64 (L (k * 3 + 2))) := (HU.out.cell (p := ⟨b, off + (k * 3 + 2), none⟩) hb).trans (hc (k * 3 + 2) (by omega))
      have HI := Lib.hid hin
      clear hc hin
      go_wp2_with fail
      refine (to_any _ _ _ _).mono ?_
      rintro e y1 ⟨rfl, hb1⟩
      have hb1' := below_c1 hb1
      have HI1 := Lib.hid (own_below HI.out hb1')
      have HU1 := Lib.hid (HU.out.trans (hb1'.mono HU.out.size))
      have hsz := HU1.out.size
      clear HI HU C0 C1 C2 hb1
      go_wp2_with (first | (at_builtin; refine wpList_append_own _ rfl _ _ 58 rfl w.heap.size 55 i0 (.agg #[.int .i64 0, .int .i64 0, .int .i64 0]) 3 24 Try.underlying58 hi hz0 hz1 hz2 rfl (by decide) _ _ _ rfl (HI1.out.alloc _) ⟨y1.heap.size, 0, none⟩ 1 1 [.int .i64 (L (k * 3)), .int .i64 (L (k * 3 + 1)), .int .i64 (L (k * 3 + 2))] rfl rfl ?c1 ?c2 ?c3 ?c4 ?c5 ?_))
      case c1 =>
        intro j u hj
        match j, hj with
        | 0, hj => simp at hj; subst hj; simp [Addr.add]
        | 1, hj => simp at hj; subst hj; simp [Addr.add]
        | 2, hj => simp at hj; subst hj; simp [Addr.add]
      case c2 => intro u hu; simp at hu; rcases hu with rfl | rfl | rfl <;> rfl
      case c3 => unfold maxLen; omega
      case c4 => omega
      case c5 => simp; omega
      intro v5 y2 hin2 hgrow _
      rw [← flat_step] at hin2
      have HU2 := Lib.hid ((HU1.out.trans ((below_n1 y1 _).mono HU1.out.size)).grown hgrow (by simp; omega) (fun q hq => (HI1.out.lt q hq).1))
      go_wp2_with fail
      go_roundw
      case rel => exact ⟨k + 1, by omega, by go_num, hin2, HU2⟩
      case measure => simp [intOf]; omega
    · obtain rfl : k = n1 := by omega
      clear hlt
      have HI := Lib.hid hin
      clear hin
      go_wp2_with fail
      go_loopw [10, 46] (fun s10 s46 wr => ∃ k2 : Nat, k2 ≤ n2 ∧ s46 = .int .i64 k2 ∧ wr.ownsRow w.heap.size 84 6 s10 k2 (flat6 M k2) ∧ wr.ownsRow w.heap.size 55 3 u7 k (flat L k) ∧ Hid (Below w.heap.size w wr)) (fun _ s46 _ => n2 - (intOf s46).toNat)
      case atStart => exact ⟨0, by omega, rfl, World.ownsRow_nil _ _ _ _, HI.out, HU⟩
      case round =>
        clear HI HU
        obtain ⟨k2, hk2, rfl, hib, hin, HU⟩ := hrel
        obtain ⟨z0, rfl⟩ : ∃ y : World, y = wr := ⟨_, rfl⟩
        by_cases hlt : k2 < n2
        · have hlt' : (k2 : Int) < n2 := by omega
          obtain ⟨-, h0 | ⟨b, off, rfl, hb, hc⟩⟩ := HM.out
          · exact absurd hlt (by omega)
          have C0 : z0.cell? ⟨b, off + k2 * 6, none⟩ = some (.int .i64 (M (k2 * 6))) := (HU.out.cell (p := ⟨b, off + (k2 * 6 + 0), none⟩) hb).trans (hc (k2 * 6 + 0) (by omega))
          have C1 : z0.cell? ⟨b, off + k2 * 6 + 1, none⟩ = some (.int .i64 (M (k2 * 6 + 1))) := (HU.out.cell (p := ⟨b, off + (k2 * 6 + 1), none⟩) hb).trans (hc (k2 * 6 + 1) (by omega))
          have C2 : z0.cell? ⟨b, off + k2 * 6 + 2, none⟩ = some (.int .i64 (M (k2 * 6 + 2))) := (HU.out.cell (p := ⟨b, off + (k2 * 6 + 2), none⟩) hb).trans (hc (k2 * 6 + 2) (by omega))
          have C3 : z0.cell? ⟨b, off + k2 * 6 + 3, none⟩ = some (.int .i64 (M (k2 * 6 + 3))) := (HU.out.cell (p := ⟨b, off + (k2 * 6 + 3), none⟩) hb).trans (hc (k2 * 6 + 3) (by omega))
          have C4 : z0.cell? ⟨b, off + k2 * 6 + 4, none⟩ = some (.int .i64 (M (k2 * 6 + 4))) := (HU.out.cell (p := ⟨b, off + (k2 * 6 + 4), none⟩) hb).trans (hc (k2 * 6 + 4) (by omega))
          have C5 : z0.cell? ⟨b, off + k2 * 6 + 5, none⟩ = some (.int .i64 (M (k2 * 6 + 5))) := (HU.out.cell (p := ⟨b, off + (k2 * 6 + 5), none⟩) hb).trans (hc (k2 * 6 + 5) (by omega))
          have HI := Lib.hid hin
          have HJ := Lib.hid hib
          clear hc hin hib
          go_wp2_with fail
          refine (bto_any _ _ _ _ _ _ _).mono ?_
          rintro e y1 ⟨rfl, hb1⟩
          have hb1' := below_c1 hb1
          have HI1 := Lib.hid (own_below HI.out hb1')
          have HJ1 := Lib.hid (own_below HJ.out hb1')
          have HU1 := Lib.hid (HU.out.trans (hb1'.mono HU.out.size))
          have hsz := HU1.out.size
          clear HI HJ HU C0 C1 C2 C3 C4 C5 hb1
          go_wp2_with (first | (at_builtin; refine wpList_append_own _ rfl _ _ 80 rfl w.heap.size 84 j0 (.agg #[.int .i64 0, .int .i64 0, .int .i64 0, .int .i64 0, .int .i64 0, .int .i64 0]) 6 48 Try.underlying80 hj hy0 hy1 hy2 rfl (by decide) _ _ _ rfl (HJ1.out.alloc _) ⟨y1.heap.size, 0, none⟩ 1 1 [.int .i64 (M (k2 * 6)), .int .i64 (M (k2 * 6 + 1)), .int .i64 (M (k2 * 6 + 2)), .int .i64 (M (k2 * 6 + 3)), .int .i64 (M (k2 * 6 + 4)), .int .i64 (M (k2 * 6 + 5))] rfl rfl ?c1 ?c2 ?c3 ?c4 ?c5 ?_))
          case c1 =>
            intro j u hj
            match j, hj with
            | 0, hj => simp at hj; subst hj; simp [Addr.add]
            | 1, hj => simp at hj; subst hj; simp [Addr.add]
            | 2, hj => simp at hj; subst hj; simp [Addr.add]
            | 3, hj => simp at hj; subst hj; simp [Addr.add]
            | 4, hj => simp at hj; subst hj; simp [Addr.add]
            | 5, hj => simp at hj; subst hj; simp [Addr.add]
          case c2 => intro u hu; simp at hu; rcases hu with rfl | rfl | rfl | rfl | rfl | rfl <;> rfl
          case c3 => unfold maxLen; omega
          case c4 => omega
          case c5 => simp; omega
          intro v5 y2 hin2 hgrow _
          rw [← flat6_step] at hin2
          have HU2 := Lib.hid ((HU1.out.trans ((below_n1 y1 _).mono HU1.out.size)).grown hgrow (by simp; omega) (fun q hq => (HJ1.out.lt q hq).1))
          have HI2 := (HI1.out.alloc _).kept hgrow (own_ne (by decide) HI1.out HJ1.out)
          go_wp2_with fail
          go_roundw
          case rel => exact ⟨k2 + 1, by omega, by go_num, hin2, HI2, HU2⟩
          case measure => simp [intOf]; omega
        · obtain rfl : k2 = n2 := by omega
          clear hlt
          obtain ⟨gi, ci, rfl, kci, hgi, hci⟩ : ∃ g cap, u7 = .slice (some ⟨g, 0, none⟩) k cap ∧ k ≤ cap ∧ g < z0.heap.size ∧ ∀ j, j < k * 3 → z0.cell? ⟨g, j, none⟩ = some (.int .i64 (L j)) := by
            rcases hin.2 with ⟨hv, hn⟩ | ⟨g, cap, cur, hv, -, -, hle, -, -, -⟩
            · exact absurd hn e1
            · exact ⟨g, cap, hv, hle, (hin.lt g (by rw [hv]; rfl)).2, fun j hj => by have h9 := hin; rw [hv] at h9; exact (h9.cellAt j hj).trans (flat_at L k j hj)⟩
          obtain ⟨gb, cb, rfl, kcb, hgb, hcb⟩ : ∃ g cap, u10 = .slice (some ⟨g, 0, none⟩) k2 cap ∧ k2 ≤ cap ∧ g < z0.heap.size ∧ ∀ j, j < k2 * 6 → z0.cell? ⟨g, j, none⟩ = some (.int .i64 (M j)) := by
            rcases hib.2 with ⟨hv, hn⟩ | ⟨g, cap, cur, hv, -, -, hle, -, -, -⟩
            · exact absurd hn e2
            · exact ⟨g, cap, hv, hle, (hib.lt g (by rw [hv]; rfl)).2, fun j hj => by have h9 := hib; rw [hv] at h9; exact (h9.cellAt j hj).trans (flat6_at M k2 j hj)⟩
          clear hin hib
          obtain ⟨-, h0 | ⟨bl, ol, rfl, hbl, hcl⟩⟩ := HL.out
          · exact absurd h0 e1
          obtain ⟨-, h0 | ⟨bm, om, rfl, hbm, hcm⟩⟩ := HM.out
          · exact absurd h0 e2
          have hbl' := Nat.lt_of_lt_of_le hbl HU.out.size
          have hbm' := Nat.lt_of_lt_of_le hbm HU.out.size
          have HCI := Lib.hid hci
          have HCB := Lib.hid hcb
          have HCL := Lib.hid (show ∀ j, j < k * 3 → z0.cell? ⟨bl, ol + j, none⟩ = some (.int .i64 (L j)) from fun j h => (HU.out.cell (p := ⟨bl, ol + j, none⟩) hbl).trans (hcl j h))
          have HCM := Lib.hid (show ∀ j, j < k2 * 6 → z0.cell? ⟨bm, om + j, none⟩ = some (.int .i64 (M j)) from fun j h => (HU.out.cell (p := ⟨bm, om + j, none⟩) hbm).trans (hcm j h))
          clear hci hcb hcl hcm HL HM
          have XI0 : ∀ y, Below z0.heap.size z0 y → y.cell? ⟨gi, 0, none⟩ = some (.int .i64 (L 0)) := fun y h => (h.cell (p := ⟨gi, 0, none⟩) hgi).trans (HCI.out 0 (by omega))
          have XI1 : ∀ y, Below z0.heap.size z0 y → y.cell? ⟨gi, 1, none⟩ = some (.int .i64 (L 1)) := fun y h => (h.cell (p := ⟨gi, 1, none⟩) hgi).trans (HCI.out 1 (by omega))
          have XI2 : ∀ y, Below z0.heap.size z0 y → y.cell? ⟨gi, 2, none⟩ = some (.int .i64 (L 2)) := fun y h => (h.cell (p := ⟨gi, 2, none⟩) hgi).trans (HCI.out 2 (by omega))
          have XB0 : ∀ y, Below z0.heap.size z0 y → y.cell? ⟨gb, 0, none⟩ = some (.int .i64 (M 0)) := fun y h => (h.cell (p := ⟨gb, 0, none⟩) hgb).trans (HCB.out 0 (by omega))
          have XB1 : ∀ y, Below z0.heap.size z0 y → y.cell? ⟨gb, 1, none⟩ = some (.int .i64 (M 1)) := fun y h => (h.cell (p := ⟨gb, 1, none⟩) hgb).trans (HCB.out 1 (by omega))
          have XB2 : ∀ y, Below z0.heap.size z0 y → y.cell? ⟨gb, 2, none⟩ = some (.int .i64 (M 2)) := fun y h => (h.cell (p := ⟨gb, 2, none⟩) hgb).trans (HCB.out 2 (by omega))
          have XB3 : ∀ y, Below z0.heap.size z0 y → y.cell? ⟨gb, 3, none⟩ = some (.int .i64 (M 3)) := fun y h => (h.cell (p := ⟨gb, 3, none⟩) hgb).trans (HCB.out 3 (by omega))
          have XB4 : ∀ y, Below z0.heap.size z0 y → y.cell? ⟨gb, 4, none⟩ = some (.int .i64 (M 4)) := fun y h => (h.cell (p := ⟨gb, 4, none⟩) hgb).trans (HCB.out 4 (by omega))
          have XB5 : ∀ y, Below z0.heap.size z0 y → y.cell? ⟨gb, 5, none⟩ = some (.int .i64 (M 5)) := fun y h => (h.cell (p := ⟨gb, 5, none⟩) hgb).trans (HCB.out 5 (by omega))
          have XM0 : ∀ y, Below z0.heap.size z0 y → y.cell? ⟨bm, om, none⟩ = some (.int .i64 (M 0)) := fun y h => (h.cell (p := ⟨bm, om + 0, none⟩) hbm').trans (HCM.out 0 (by omega))
          have XM1 : ∀ y, Below z0.heap.size z0 y → y.cell? ⟨bm, om + 1, none⟩ = some (.int .i64 (M 1)) := fun y h => (h.cell (p := ⟨bm, om + 1, none⟩) hbm').trans (HCM.out 1 (by omega))
          have XM2 : ∀ y, Below z0.heap.size z0 y → y.cell? ⟨bm, om + 2, none⟩ = some (.int .i64 (M 2)) := fun y h => (h.cell (p := ⟨bm, om + 2, none⟩) hbm').trans (HCM.out 2 (by omega))
          have XM3 : ∀ y, Below z0.heap.size z0 y → y.cell? ⟨bm, om + 3, none⟩ = some (.int .i64 (M 3)) := fun y h => (h.cell (p := ⟨bm, om + 3, none⟩) hbm').trans (HCM.out 3 (by omega))
          have XM4 : ∀ y, Below z0.heap.size z0 y → y.cell? ⟨bm, om + 4, none⟩ = some (.int .i64 (M 4)) := fun y h => (h.cell (p := ⟨bm, om + 4, none⟩) hbm').trans (HCM.out 4 (by omega))
          have XM5 : ∀ y, Below z0.heap.size z0 y → y.cell? ⟨bm, om + 5, none⟩ = some (.int .i64 (M 5)) := fun y h => (h.cell (p := ⟨bm, om + 5, none⟩) hbm').trans (HCM.out 5 (by omega))
          have p1 : 1 ≤ k := by omega
          have p2 : 1 ≤ k2 := by omega
          have q1 : k ≤ 1000000 := by omega
          have q2 : k2 ≤ 1000000 := by omega
          have q3 : k ≤ 4611686018427387904 := by omega
          have r1 : 0 < k := by omega
          have r2 : 0 < k2 := by omega
          have q4 : (0 : Int) < k := by omega
          have q5 : (0 : Int) < k2 := by omega
          have q6 : (1 : Int) ≤ k := by omega
          have q7 : (1 : Int) ≤ k2 := by omega
          by_cases x1 : ci = 1
          · have HO1 : Hid (k = 1 ∨ (0 : Nat) = 3) := Lib.hid (.inl (by omega))
            clear kci
            subst x1
            by_cases x2 : cb = 1
            · have HO2 : Hid (k2 = 1 ∨ (0 : Nat) = 6) := Lib.hid (.inl (by omega))
              clear kcb
              subst x2
              go_wp2_with fail
              refine wp_region_held_drew (S := fun y => Below z0.heap.size z0 y) (by kernel_rfl) ((Below.refl z0.heap.size z0).drew) (fun hV0 => ?_)
              obtain ⟨u0, hu0⟩ : ∃ u0, z0.drew = u0 := ⟨_, rfl⟩
              rw [hu0] at hV0 ⊢
              clear hu0
              refine wpAnyH_ready (rs := [0]) (by kernel_rfl) (by simp) ?_
              refine AllReadyH.cons rfl (fun K hK => ?_) AllReadyH.nil
              go_simp
              go_wp2_with (go_at_call 24; with_reducible refine (awake_any _).mono ?_; rintro e u1 ⟨rfl, hu1⟩)
              refine hK.out _ _ (hV0.trans (hu1.mono hV0.size)) (fun hV1 => ?_)
              clear hK K
              refine wpAnyH_take (i := 1) (v := ?_) rfl (by kernel_rfl) (by kernel_rfl) (by kernel_rfl) (fun _ _ _ h => h) (Or.inl ⟨by kernel_rfl, by (intro wz hSz; go_simp; try with_reducible rfl)⟩) hV1 ?_
              go_simp
              refine wpAnyH_take (i := 2) (v := ?_) rfl (by kernel_rfl) (by kernel_rfl) (by kernel_rfl) (fun _ _ _ h => h) (Or.inl ⟨by kernel_rfl, by (intro wz hSz; go_simp; try with_reducible rfl)⟩) hV1 ?_
              go_simp
              refine wpAnyH_take (i := 3) (v := ?_) rfl (by kernel_rfl) (by kernel_rfl) (by kernel_rfl) (fun _ _ _ h => h) (Or.inl ⟨by kernel_rfl, by (intro wz hSz; go_simp; try with_reducible rfl)⟩) hV1 ?_
              go_simp
              refine wpAnyH_take (i := 4) (v := ?_) rfl (by kernel_rfl) (by kernel_rfl) (by kernel_rfl) (fun _ _ _ h => h) (Or.inl ⟨by kernel_rfl, by (intro wz hSz; have x0 := XI0 _ hSz; have x1 := XI1 _ hSz; have x2 := XI2 _ hSz; have y0 := XB0 _ hSz; have z0 := XM0 _ hSz; have y1 := XB1 _ hSz; have z1 := XM1 _ hSz; have y2 := XB2 _ hSz; have z2 := XM2 _ hSz; have y3 := XB3 _ hSz; have z3 := XM3 _ hSz; have y4 := XB4 _ hSz; have z4 := XM4 _ hSz; have y5 := XB5 _ hSz; have z5 := XM5 _ hSz; go_simp; try with_reducible rfl)⟩) hV1 ?_
              go_simp
              refine wpAnyH_take (i := 5) (v := ?_) rfl (by kernel_rfl) (by kernel_rfl) (by kernel_rfl) (fun _ _ _ h => h) (Or.inl ⟨by kernel_rfl, by (intro wz hSz; go_simp; try with_reducible rfl)⟩) hV1 ?_
              go_simp
              refine wpAnyH_take (i := 6) (v := ?_) rfl (by kernel_rfl) (by kernel_rfl) (by kernel_rfl) (fun _ _ _ h => h) (Or.inl ⟨by kernel_rfl, by (intro wz hSz; go_simp; try with_reducible rfl)⟩) hV1 ?_
              go_simp
              refine wpAnyH_take (i := 9) (v := ?_) rfl (by kernel_rfl) (by kernel_rfl) (by kernel_rfl) (fun _ _ _ h => h) (Or.inl ⟨by kernel_rfl, by (intro wz hSz; go_simp; try with_reducible rfl)⟩) hV1 ?_
              go_simp
              refine wpAnyH_ready (rs := [7]) (by kernel_rfl) (by simp) ?_
              refine AllReadyH.cons rfl (fun K hK => ?_) AllReadyH.nil
              go_simp
              go_wp2_with (go_at_call 28; with_reducible refine (of_list gi 0 k _ HO1.out L p1 q1 _ (Nat.lt_of_lt_of_le hgi hV1.size) (fun j h => (hV1.cell (p := ⟨gi, j, none⟩) hgi).trans (HCI.out j h))).mono ?_; rintro e u2 ⟨rfl, hu2⟩)
              refine hK.out _ _ (hV1.trans (hu2.mono hV1.size)) (fun hV2 => ?_)
              clear hK K
              refine wpAnyH_ready (rs := [8]) (by kernel_rfl) (by simp) ?_
              refine AllReadyH.cons rfl (fun K hK => ?_) AllReadyH.nil
              go_simp
              go_wp2_with (go_at_call 27; with_reducible refine (bfrom_any _ _ _ _ _ _ _).mono ?_; rintro e u3 ⟨rfl, hu3⟩)
              refine hK.out _ _ (hV2.trans (hu3.mono hV2.size)) (fun hV3 => ?_)
              clear hK K
              refine wpAnyH_ready (rs := [10]) (by kernel_rfl) (by simp) ?_
              refine AllReadyH.cons rfl (fun K hK => ?_) AllReadyH.nil
              go_simp
              go_wp2_with (go_at_call 29; with_reducible refine (rof_row bl ol k _ L p1 q3 _ (numsF_mk (Nat.lt_of_lt_of_le hbl' hV3.size) (fun j h => (hV3.cell (p := ⟨bl, ol + j, none⟩) hbl').trans (HCL.out j h)))).mono ?_; rintro e u4 ⟨rfl, hu4⟩)
              refine hK.out _ _ (hV3.trans (hu4.mono hV3.size)) (fun hV4 => ?_)
              clear hK K
              refine wpAnyH_take (i := 11) (v := ?_) rfl (by kernel_rfl) (by kernel_rfl) (by kernel_rfl) (fun _ _ _ h => h) (Or.inl ⟨by kernel_rfl, by (intro wz hSz; go_simp; try with_reducible rfl)⟩) hV4 ?_
              go_simp
              refine wpAnyH_take (i := 12) (v := ?_) rfl (by kernel_rfl) (by kernel_rfl) (by kernel_rfl) (fun _ _ _ h => h) (Or.inl ⟨by kernel_rfl, by (intro wz hSz; go_simp; try with_reducible rfl)⟩) hV4 ?_
              go_simp
              refine wpAnyH_take (i := 13) (v := ?_) rfl (by kernel_rfl) (by kernel_rfl) (by kernel_rfl) (fun _ _ _ h => h) (Or.inl ⟨by kernel_rfl, by (intro wz hSz; go_simp; try with_reducible rfl)⟩) hV4 ?_
              go_simp
              refine wpAnyH_take (i := 14) (v := ?_) rfl (by kernel_rfl) (by kernel_rfl) (by kernel_rfl) (fun _ _ _ h => h) (Or.inl ⟨by kernel_rfl, by (intro wz hSz; go_simp; try with_reducible rfl)⟩) hV4 ?_
              go_simp
              refine wpAnyH_take (i := 15) (v := ?_) rfl (by kernel_rfl) (by kernel_rfl) (by kernel_rfl) (fun _ _ _ h => h) (Or.inl ⟨by kernel_rfl, by (intro wz hSz; go_simp; try with_reducible rfl)⟩) hV4 ?_
              go_simp
              refine wpAnyH_take (i := 16) (v := ?_) rfl (by kernel_rfl) (by kernel_rfl) (by kernel_rfl) (fun _ _ _ h => h) (Or.inl ⟨by kernel_rfl, by (intro wz hSz; have x0 := XI0 _ hSz; have x1 := XI1 _ hSz; have x2 := XI2 _ hSz; have y0 := XB0 _ hSz; have z0 := XM0 _ hSz; have y1 := XB1 _ hSz; have z1 := XM1 _ hSz; have y2 := XB2 _ hSz; have z2 := XM2 _ hSz; have y3 := XB3 _ hSz; have z3 := XM3 _ hSz; have y4 := XB4 _ hSz; have z4 := XM4 _ hSz; have y5 := XB5 _ hSz; have z5 := XM5 _ hSz; go_simp; try with_reducible rfl)⟩) hV4 ?_
              go_simp
              refine wpAnyH_take (i := 17) (v := ?_) rfl (by kernel_rfl) (by kernel_rfl) (by kernel_rfl) (fun _ _ _ h => h) (Or.inl ⟨by kernel_rfl, by (intro wz hSz; go_simp; try with_reducible rfl)⟩) hV4 ?_
              go_simp
              refine wpAnyH_take (i := 18) (v := ?_) rfl (by kernel_rfl) (by kernel_rfl) (by kernel_rfl) (fun _ _ _ h => h) (Or.inl ⟨by kernel_rfl, by (intro wz hSz; go_simp; try with_reducible rfl)⟩) hV4 ?_
              go_simp
              refine wpAnyH_take (i := 21) (v := ?_) rfl (by kernel_rfl) (by kernel_rfl) (by kernel_rfl) (fun _ _ _ h => h) (Or.inl ⟨by kernel_rfl, by (intro wz hSz; go_simp; try with_reducible rfl)⟩) hV4 ?_
              go_simp
              refine wpAnyH_ready (rs := [19]) (by kernel_rfl) (by simp) ?_
              refine AllReadyH.cons rfl (fun K hK => ?_) AllReadyH.nil
              go_simp
              go_wp2_with (go_at_call 30; with_reducible refine (join_list gb 0 k2 _ HO2.out M p2 q2 _ (Nat.lt_of_lt_of_le hgb hV4.size) (fun j h => (hV4.cell (p := ⟨gb, j, none⟩) hgb).trans (HCB.out j h))).mono ?_; rintro e u5 ⟨rfl, hu5⟩)
              refine hK.out _ _ (hV4.trans (hu5.mono hV4.size)) (fun hV5 => ?_)
              clear hK K
              refine wpAnyH_ready (rs := [20]) (by kernel_rfl) (by simp) ?_
              refine AllReadyH.cons rfl (fun K hK => ?_) AllReadyH.nil
              go_simp
              go_wp2_with (go_at_call 27; with_reducible refine (bfrom_any _ _ _ _ _ _ _).mono ?_; rintro e u6 ⟨rfl, hu6⟩)
              refine hK.out _ _ (hV5.trans (hu6.mono hV5.size)) (fun hV6 => ?_)
              clear hK K
              refine wpAnyH_ready (rs := [22]) (by kernel_rfl) (by simp) ?_
              refine AllReadyH.cons rfl (fun K hK => ?_) AllReadyH.nil
              go_simp
              go_wp2_with (go_at_call 31; with_reducible refine (rjoin_row bm om k2 _ M p2 q2 _ (Nat.lt_of_lt_of_le hbm' hV6.size) (fun j h => (hV6.cell (p := ⟨bm, om + j, none⟩) hbm').trans (HCM.out j h))).mono ?_; rintro e u7 ⟨rfl, hu7⟩)
              refine hK.out _ _ (hV6.trans (hu7.mono hV6.size)) (fun hV7 => ?_)
              clear hK K
              refine wpAnyH_take (i := 23) (v := ?_) rfl (by kernel_rfl) (by kernel_rfl) (by kernel_rfl) (fun _ _ _ h => h) (Or.inl ⟨by kernel_rfl, by (intro wz hSz; go_simp; try with_reducible rfl)⟩) hV7 ?_
              go_simp
              refine wpAnyH_take (i := 24) (v := ?_) rfl (by kernel_rfl) (by kernel_rfl) (by kernel_rfl) (fun _ _ _ h => h) (Or.inl ⟨by kernel_rfl, by (intro wz hSz; go_simp; try with_reducible rfl)⟩) hV7 ?_
              go_simp
              refine wpAnyH_take (i := 25) (v := ?_) rfl (by kernel_rfl) (by kernel_rfl) (by kernel_rfl) (fun _ _ _ h => h) (Or.inl ⟨by kernel_rfl, by (intro wz hSz; go_simp; try with_reducible rfl)⟩) hV7 ?_
              go_simp
              refine wpAnyH_take (i := 26) (v := ?_) rfl (by kernel_rfl) (by kernel_rfl) (by kernel_rfl) (fun _ _ _ h => h) (Or.inl ⟨by kernel_rfl, by (intro wz hSz; go_simp; try with_reducible rfl)⟩) hV7 ?_
              go_simp
              refine wpAnyH_take (i := 27) (v := ?_) rfl (by kernel_rfl) (by kernel_rfl) (by kernel_rfl) (fun _ _ _ h => h) (Or.inl ⟨by kernel_rfl, by (intro wz hSz; go_simp; try with_reducible rfl)⟩) hV7 ?_
              go_simp
              refine wpAnyH_take (i := 28) (v := ?_) rfl (by kernel_rfl) (by kernel_rfl) (by kernel_rfl) (fun _ _ _ h => h) (Or.inl ⟨by kernel_rfl, by (intro wz hSz; have x0 := XI0 _ hSz; have x1 := XI1 _ hSz; have x2 := XI2 _ hSz; have y0 := XB0 _ hSz; have z0 := XM0 _ hSz; have y1 := XB1 _ hSz; have z1 := XM1 _ hSz; have y2 := XB2 _ hSz; have z2 := XM2 _ hSz; have y3 := XB3 _ hSz; have z3 := XM3 _ hSz; have y4 := XB4 _ hSz; have z4 := XM4 _ hSz; have y5 := XB5 _ hSz; have z5 := XM5 _ hSz; go_simp; try with_reducible rfl)⟩) hV7 ?_
              go_simp
              refine wpAnyH_take (i := 29) (v := ?_) rfl (by kernel_rfl) (by kernel_rfl) (by kernel_rfl) (fun _ _ _ h => h) (Or.inl ⟨by kernel_rfl, by (intro wz hSz; go_simp; try with_reducible rfl)⟩) hV7 ?_
              go_simp
              refine wpAnyH_take (i := 32) (v := ?_) rfl (by kernel_rfl) (by kernel_rfl) (by kernel_rfl) (fun _ _ _ h => h) (Or.inl ⟨by kernel_rfl, by (intro wz hSz; go_simp; try with_reducible rfl)⟩) hV7 ?_
              go_simp
              refine wpAnyH_take (i := 33) (v := ?_) rfl (by kernel_rfl) (by kernel_rfl) (by kernel_rfl) (fun _ _ _ h => h) (Or.inl ⟨by kernel_rfl, by (intro wz hSz; go_simp; try with_reducible rfl)⟩) hV7 ?_
              go_simp
              refine wpAnyH_take (i := 34) (v := ?_) rfl (by kernel_rfl) (by kernel_rfl) (by kernel_rfl) (fun _ _ _ h => h) (Or.inl ⟨by kernel_rfl, by (intro wz hSz; have x0 := XI0 _ hSz; have x1 := XI1 _ hSz; have x2 := XI2 _ hSz; have y0 := XB0 _ hSz; have z0 := XM0 _ hSz; have y1 := XB1 _ hSz; have z1 := XM1 _ hSz; have y2 := XB2 _ hSz; have z2 := XM2 _ hSz; have y3 := XB3 _ hSz; have z3 := XM3 _ hSz; have y4 := XB4 _ hSz; have z4 := XM4 _ hSz; have y5 := XB5 _ hSz; have z5 := XM5 _ hSz; go_simp; try with_reducible rfl)⟩) hV7 ?_
              go_simp
              refine wpAnyH_take (i := 35) (v := ?_) rfl (by kernel_rfl) (by kernel_rfl) (by kernel_rfl) (fun _ _ _ h => h) (Or.inl ⟨by kernel_rfl, by (intro wz hSz; go_simp; try with_reducible rfl)⟩) hV7 ?_
              go_simp
              refine wpAnyH_ready (rs := [30]) (by kernel_rfl) (by simp) ?_
              refine AllReadyH.cons rfl (fun K hK => ?_) AllReadyH.nil
              go_simp
              go_wp2_with (go_at_call 32; with_reducible refine (bwider_any _ _ _ _ _ _ _ _).mono ?_; rintro e u8 ⟨rfl, hu8⟩)
              refine hK.out _ _ (hV7.trans (hu8.mono hV7.size)) (fun hV8 => ?_)
              clear hK K
              refine wpAnyH_ready (rs := [31]) (by kernel_rfl) (by simp) ?_
              refine AllReadyH.cons rfl (fun K hK => ?_) AllReadyH.nil
              go_simp
              go_wp2_with (go_at_call 27; with_reducible refine (bfrom_any _ _ _ _ _ _ _).mono ?_; rintro e u9 ⟨rfl, hu9⟩)
              refine hK.out _ _ (hV8.trans (hu9.mono hV8.size)) (fun hV9 => ?_)
              clear hK K
              refine wpAnyH_ready (rs := [36]) (by kernel_rfl) (by simp) ?_
              refine AllReadyH.cons rfl (fun K hK => ?_) AllReadyH.nil
              go_simp
              go_wp2_with (go_at_call 33; with_reducible refine (rwider_any _ _ _ _ _ _ _ _).mono ?_; rintro e u10 ⟨rfl, hu10⟩)
              refine hK.out _ _ (hV9.trans (hu10.mono hV9.size)) (fun hV10 => ?_)
              clear hK K
              refine wpAnyH_take (i := 37) (v := ?_) rfl (by kernel_rfl) (by kernel_rfl) (by kernel_rfl) (fun _ _ _ h => h) (Or.inl ⟨by kernel_rfl, by (intro wz hSz; go_simp; try with_reducible rfl)⟩) hV10 ?_
              go_simp
              refine wpAnyH_take (i := 38) (v := ?_) rfl (by kernel_rfl) (by kernel_rfl) (by kernel_rfl) (fun _ _ _ h => h) (Or.inl ⟨by kernel_rfl, by (intro wz hSz; go_simp; try with_reducible rfl)⟩) hV10 ?_
              go_simp
              refine wpAnyH_take (i := 39) (v := ?_) rfl (by kernel_rfl) (by kernel_rfl) (by kernel_rfl) (fun _ _ _ h => h) (Or.inl ⟨by kernel_rfl, by (intro wz hSz; go_simp; try with_reducible rfl)⟩) hV10 ?_
              go_simp
              refine wpAnyH_done (by kernel_rfl) ?_ _
              go_wp2
              go_ret
              exact ⟨rfl, HU.out.trans (hV10.mono HU.out.size)⟩
            · have HO2 : Hid (k2 = 1 ∨ (6 : Nat) = 6) := Lib.hid (.inr rfl)
              go_wp2_with fail
              refine wp_region_held_drew (S := fun y => Below z0.heap.size z0 y) (by kernel_rfl) ((Below.refl z0.heap.size z0).drew) (fun hV0 => ?_)
              obtain ⟨u0, hu0⟩ : ∃ u0, z0.drew = u0 := ⟨_, rfl⟩
              rw [hu0] at hV0 ⊢
              clear hu0
              refine wpAnyH_ready (rs := [0]) (by kernel_rfl) (by simp) ?_
              refine AllReadyH.cons rfl (fun K hK => ?_) AllReadyH.nil
              go_simp
              go_wp2_with (go_at_call 24; with_reducible refine (awake_any _).mono ?_; rintro e u1 ⟨rfl, hu1⟩)
              refine hK.out _ _ (hV0.trans (hu1.mono hV0.size)) (fun hV1 => ?_)
              clear hK K
              refine wpAnyH_take (i := 1) (v := ?_) rfl (by kernel_rfl) (by kernel_rfl) (by kernel_rfl) (fun _ _ _ h => h) (Or.inl ⟨by kernel_rfl, by (intro wz hSz; go_simp; try with_reducible rfl)⟩) hV1 ?_
              go_simp
              refine wpAnyH_take (i := 2) (v := ?_) rfl (by kernel_rfl) (by kernel_rfl) (by kernel_rfl) (fun _ _ _ h => h) (Or.inl ⟨by kernel_rfl, by (intro wz hSz; go_simp; try with_reducible rfl)⟩) hV1 ?_
              go_simp
              refine wpAnyH_take (i := 3) (v := ?_) rfl (by kernel_rfl) (by kernel_rfl) (by kernel_rfl) (fun _ _ _ h => h) (Or.inl ⟨by kernel_rfl, by (intro wz hSz; go_simp; try with_reducible rfl)⟩) hV1 ?_
              go_simp
              refine wpAnyH_take (i := 4) (v := ?_) rfl (by kernel_rfl) (by kernel_rfl) (by kernel_rfl) (fun _ _ _ h => h) (Or.inl ⟨by kernel_rfl, by (intro wz hSz; have x0 := XI0 _ hSz; have x1 := XI1 _ hSz; have x2 := XI2 _ hSz; have y0 := XB0 _ hSz; have z0 := XM0 _ hSz; have y1 := XB1 _ hSz; have z1 := XM1 _ hSz; have y2 := XB2 _ hSz; have z2 := XM2 _ hSz; have y3 := XB3 _ hSz; have z3 := XM3 _ hSz; have y4 := XB4 _ hSz; have z4 := XM4 _ hSz; have y5 := XB5 _ hSz; have z5 := XM5 _ hSz; go_simp; try with_reducible rfl)⟩) hV1 ?_
              go_simp
              refine wpAnyH_take (i := 5) (v := ?_) rfl (by kernel_rfl) (by kernel_rfl) (by kernel_rfl) (fun _ _ _ h => h) (Or.inl ⟨by kernel_rfl, by (intro wz hSz; go_simp; try with_reducible rfl)⟩) hV1 ?_
              go_simp
              refine wpAnyH_take (i := 6) (v := ?_) rfl (by kernel_rfl) (by kernel_rfl) (by kernel_rfl) (fun _ _ _ h => h) (Or.inl ⟨by kernel_rfl, by (intro wz hSz; go_simp; try with_reducible rfl)⟩) hV1 ?_
              go_simp
              refine wpAnyH_take (i := 9) (v := ?_) rfl (by kernel_rfl) (by kernel_rfl) (by kernel_rfl) (fun _ _ _ h => h) (Or.inl ⟨by kernel_rfl, by (intro wz hSz; go_simp; try with_reducible rfl)⟩) hV1 ?_
              go_simp
              refine wpAnyH_ready (rs := [7]) (by kernel_rfl) (by simp) ?_
              refine AllReadyH.cons rfl (fun K hK => ?_) AllReadyH.nil
              go_simp
              go_wp2_with (go_at_call 28; with_reducible refine (of_list gi 0 k _ HO1.out L p1 q1 _ (Nat.lt_of_lt_of_le hgi hV1.size) (fun j h => (hV1.cell (p := ⟨gi, j, none⟩) hgi).trans (HCI.out j h))).mono ?_; rintro e u2 ⟨rfl, hu2⟩)
              refine hK.out _ _ (hV1.trans (hu2.mono hV1.size)) (fun hV2 => ?_)
              clear hK K
              refine wpAnyH_ready (rs := [8]) (by kernel_rfl) (by simp) ?_
              refine AllReadyH.cons rfl (fun K hK => ?_) AllReadyH.nil
              go_simp
              go_wp2_with (go_at_call 27; with_reducible refine (bfrom_any _ _ _ _ _ _ _).mono ?_; rintro e u3 ⟨rfl, hu3⟩)
              refine hK.out _ _ (hV2.trans (hu3.mono hV2.size)) (fun hV3 => ?_)
              clear hK K
              refine wpAnyH_ready (rs := [10]) (by kernel_rfl) (by simp) ?_
              refine AllReadyH.cons rfl (fun K hK => ?_) AllReadyH.nil
              go_simp
              go_wp2_with (go_at_call 29; with_reducible refine (rof_row bl ol k _ L p1 q3 _ (numsF_mk (Nat.lt_of_lt_of_le hbl' hV3.size) (fun j h => (hV3.cell (p := ⟨bl, ol + j, none⟩) hbl').trans (HCL.out j h)))).mono ?_; rintro e u4 ⟨rfl, hu4⟩)
              refine hK.out _ _ (hV3.trans (hu4.mono hV3.size)) (fun hV4 => ?_)
              clear hK K
              refine wpAnyH_take (i := 11) (v := ?_) rfl (by kernel_rfl) (by kernel_rfl) (by kernel_rfl) (fun _ _ _ h => h) (Or.inl ⟨by kernel_rfl, by (intro wz hSz; go_simp; try with_reducible rfl)⟩) hV4 ?_
              go_simp
              refine wpAnyH_take (i := 12) (v := ?_) rfl (by kernel_rfl) (by kernel_rfl) (by kernel_rfl) (fun _ _ _ h => h) (Or.inl ⟨by kernel_rfl, by (intro wz hSz; go_simp; try with_reducible rfl)⟩) hV4 ?_
              go_simp
              refine wpAnyH_take (i := 13) (v := ?_) rfl (by kernel_rfl) (by kernel_rfl) (by kernel_rfl) (fun _ _ _ h => h) (Or.inl ⟨by kernel_rfl, by (intro wz hSz; go_simp; try with_reducible rfl)⟩) hV4 ?_
              go_simp
              refine wpAnyH_take (i := 14) (v := ?_) rfl (by kernel_rfl) (by kernel_rfl) (by kernel_rfl) (fun _ _ _ h => h) (Or.inl ⟨by kernel_rfl, by (intro wz hSz; go_simp; try with_reducible rfl)⟩) hV4 ?_
              go_simp
              refine wpAnyH_take (i := 15) (v := ?_) rfl (by kernel_rfl) (by kernel_rfl) (by kernel_rfl) (fun _ _ _ h => h) (Or.inl ⟨by kernel_rfl, by (intro wz hSz; go_simp; try with_reducible rfl)⟩) hV4 ?_
              go_simp
              refine wpAnyH_take (i := 16) (v := ?_) rfl (by kernel_rfl) (by kernel_rfl) (by kernel_rfl) (fun _ _ _ h => h) (Or.inl ⟨by kernel_rfl, by (intro wz hSz; have x0 := XI0 _ hSz; have x1 := XI1 _ hSz; have x2 := XI2 _ hSz; have y0 := XB0 _ hSz; have z0 := XM0 _ hSz; have y1 := XB1 _ hSz; have z1 := XM1 _ hSz; have y2 := XB2 _ hSz; have z2 := XM2 _ hSz; have y3 := XB3 _ hSz; have z3 := XM3 _ hSz; have y4 := XB4 _ hSz; have z4 := XM4 _ hSz; have y5 := XB5 _ hSz; have z5 := XM5 _ hSz; go_simp; try with_reducible rfl)⟩) hV4 ?_
              go_simp
              refine wpAnyH_take (i := 17) (v := ?_) rfl (by kernel_rfl) (by kernel_rfl) (by kernel_rfl) (fun _ _ _ h => h) (Or.inl ⟨by kernel_rfl, by (intro wz hSz; go_simp; try with_reducible rfl)⟩) hV4 ?_
              go_simp
              refine wpAnyH_take (i := 18) (v := ?_) rfl (by kernel_rfl) (by kernel_rfl) (by kernel_rfl) (fun _ _ _ h => h) (Or.inl ⟨by kernel_rfl, by (intro wz hSz; go_simp; try with_reducible rfl)⟩) hV4 ?_
              go_simp
              refine wpAnyH_take (i := 21) (v := ?_) rfl (by kernel_rfl) (by kernel_rfl) (by kernel_rfl) (fun _ _ _ h => h) (Or.inl ⟨by kernel_rfl, by (intro wz hSz; go_simp; try with_reducible rfl)⟩) hV4 ?_
              go_simp
              refine wpAnyH_ready (rs := [19]) (by kernel_rfl) (by simp) ?_
              refine AllReadyH.cons rfl (fun K hK => ?_) AllReadyH.nil
              go_simp
              go_wp2_with (go_at_call 30; with_reducible refine (join_list gb 6 k2 _ (.inr rfl) M p2 q2 _ (Nat.lt_of_lt_of_le hgb hV4.size) (fun j h => (hV4.cell (p := ⟨gb, j, none⟩) hgb).trans (HCB.out j h))).mono ?_; rintro e u5 ⟨rfl, hu5⟩)
              refine hK.out _ _ (hV4.trans (hu5.mono hV4.size)) (fun hV5 => ?_)
              clear hK K
              refine wpAnyH_ready (rs := [20]) (by kernel_rfl) (by simp) ?_
              refine AllReadyH.cons rfl (fun K hK => ?_) AllReadyH.nil
              go_simp
              go_wp2_with (go_at_call 27; with_reducible refine (bfrom_any _ _ _ _ _ _ _).mono ?_; rintro e u6 ⟨rfl, hu6⟩)
              refine hK.out _ _ (hV5.trans (hu6.mono hV5.size)) (fun hV6 => ?_)
              clear hK K
              refine wpAnyH_ready (rs := [22]) (by kernel_rfl) (by simp) ?_
              refine AllReadyH.cons rfl (fun K hK => ?_) AllReadyH.nil
              go_simp
              go_wp2_with (go_at_call 31; with_reducible refine (rjoin_row bm om k2 _ M p2 q2 _ (Nat.lt_of_lt_of_le hbm' hV6.size) (fun j h => (hV6.cell (p := ⟨bm, om + j, none⟩) hbm').trans (HCM.out j h))).mono ?_; rintro e u7 ⟨rfl, hu7⟩)
              refine hK.out _ _ (hV6.trans (hu7.mono hV6.size)) (fun hV7 => ?_)
              clear hK K
              refine wpAnyH_take (i := 23) (v := ?_) rfl (by kernel_rfl) (by kernel_rfl) (by kernel_rfl) (fun _ _ _ h => h) (Or.inl ⟨by kernel_rfl, by (intro wz hSz; go_simp; try with_reducible rfl)⟩) hV7 ?_
              go_simp
              refine wpAnyH_take (i := 24) (v := ?_) rfl (by kernel_rfl) (by kernel_rfl) (by kernel_rfl) (fun _ _ _ h => h) (Or.inl ⟨by kernel_rfl, by (intro wz hSz; go_simp; try with_reducible rfl)⟩) hV7 ?_
              go_simp
              refine wpAnyH_take (i := 25) (v := ?_) rfl (by kernel_rfl) (by kernel_rfl) (by kernel_rfl) (fun _ _ _ h => h) (Or.inl ⟨by kernel_rfl, by (intro wz hSz; go_simp; try with_reducible rfl)⟩) hV7 ?_
              go_simp
              refine wpAnyH_take (i := 26) (v := ?_) rfl (by kernel_rfl) (by kernel_rfl) (by kernel_rfl) (fun _ _ _ h => h) (Or.inl ⟨by kernel_rfl, by (intro wz hSz; go_simp; try with_reducible rfl)⟩) hV7 ?_
              go_simp
              refine wpAnyH_take (i := 27) (v := ?_) rfl (by kernel_rfl) (by kernel_rfl) (by kernel_rfl) (fun _ _ _ h => h) (Or.inl ⟨by kernel_rfl, by (intro wz hSz; go_simp; try with_reducible rfl)⟩) hV7 ?_
              go_simp
              refine wpAnyH_take (i := 28) (v := ?_) rfl (by kernel_rfl) (by kernel_rfl) (by kernel_rfl) (fun _ _ _ h => h) (Or.inl ⟨by kernel_rfl, by (intro wz hSz; have x0 := XI0 _ hSz; have x1 := XI1 _ hSz; have x2 := XI2 _ hSz; have y0 := XB0 _ hSz; have z0 := XM0 _ hSz; have y1 := XB1 _ hSz; have z1 := XM1 _ hSz; have y2 := XB2 _ hSz; have z2 := XM2 _ hSz; have y3 := XB3 _ hSz; have z3 := XM3 _ hSz; have y4 := XB4 _ hSz; have z4 := XM4 _ hSz; have y5 := XB5 _ hSz; have z5 := XM5 _ hSz; go_simp; try with_reducible rfl)⟩) hV7 ?_
              go_simp
              refine wpAnyH_take (i := 29) (v := ?_) rfl (by kernel_rfl) (by kernel_rfl) (by kernel_rfl) (fun _ _ _ h => h) (Or.inl ⟨by kernel_rfl, by (intro wz hSz; go_simp; try with_reducible rfl)⟩) hV7 ?_
              go_simp
              refine wpAnyH_take (i := 32) (v := ?_) rfl (by kernel_rfl) (by kernel_rfl) (by kernel_rfl) (fun _ _ _ h => h) (Or.inl ⟨by kernel_rfl, by (intro wz hSz; go_simp; try with_reducible rfl)⟩) hV7 ?_
              go_simp
              refine wpAnyH_take (i := 33) (v := ?_) rfl (by kernel_rfl) (by kernel_rfl) (by kernel_rfl) (fun _ _ _ h => h) (Or.inl ⟨by kernel_rfl, by (intro wz hSz; go_simp; try with_reducible rfl)⟩) hV7 ?_
              go_simp
              refine wpAnyH_take (i := 34) (v := ?_) rfl (by kernel_rfl) (by kernel_rfl) (by kernel_rfl) (fun _ _ _ h => h) (Or.inl ⟨by kernel_rfl, by (intro wz hSz; have x0 := XI0 _ hSz; have x1 := XI1 _ hSz; have x2 := XI2 _ hSz; have y0 := XB0 _ hSz; have z0 := XM0 _ hSz; have y1 := XB1 _ hSz; have z1 := XM1 _ hSz; have y2 := XB2 _ hSz; have z2 := XM2 _ hSz; have y3 := XB3 _ hSz; have z3 := XM3 _ hSz; have y4 := XB4 _ hSz; have z4 := XM4 _ hSz; have y5 := XB5 _ hSz; have z5 := XM5 _ hSz; go_simp; try with_reducible rfl)⟩) hV7 ?_
              go_simp
              refine wpAnyH_take (i := 35) (v := ?_) rfl (by kernel_rfl) (by kernel_rfl) (by kernel_rfl) (fun _ _ _ h => h) (Or.inl ⟨by kernel_rfl, by (intro wz hSz; go_simp; try with_reducible rfl)⟩) hV7 ?_
              go_simp
              refine wpAnyH_ready (rs := [30]) (by kernel_rfl) (by simp) ?_
              refine AllReadyH.cons rfl (fun K hK => ?_) AllReadyH.nil
              go_simp
              go_wp2_with (go_at_call 32; with_reducible refine (bwider_any _ _ _ _ _ _ _ _).mono ?_; rintro e u8 ⟨rfl, hu8⟩)
              refine hK.out _ _ (hV7.trans (hu8.mono hV7.size)) (fun hV8 => ?_)
              clear hK K
              refine wpAnyH_ready (rs := [31]) (by kernel_rfl) (by simp) ?_
              refine AllReadyH.cons rfl (fun K hK => ?_) AllReadyH.nil
              go_simp
              go_wp2_with (go_at_call 27; with_reducible refine (bfrom_any _ _ _ _ _ _ _).mono ?_; rintro e u9 ⟨rfl, hu9⟩)
              refine hK.out _ _ (hV8.trans (hu9.mono hV8.size)) (fun hV9 => ?_)
              clear hK K
              refine wpAnyH_ready (rs := [36]) (by kernel_rfl) (by simp) ?_
              refine AllReadyH.cons rfl (fun K hK => ?_) AllReadyH.nil
              go_simp
              go_wp2_with (go_at_call 33; with_reducible refine (rwider_any _ _ _ _ _ _ _ _).mono ?_; rintro e u10 ⟨rfl, hu10⟩)
              refine hK.out _ _ (hV9.trans (hu10.mono hV9.size)) (fun hV10 => ?_)
              clear hK K
              refine wpAnyH_take (i := 37) (v := ?_) rfl (by kernel_rfl) (by kernel_rfl) (by kernel_rfl) (fun _ _ _ h => h) (Or.inl ⟨by kernel_rfl, by (intro wz hSz; go_simp; try with_reducible rfl)⟩) hV10 ?_
              go_simp
              refine wpAnyH_take (i := 38) (v := ?_) rfl (by kernel_rfl) (by kernel_rfl) (by kernel_rfl) (fun _ _ _ h => h) (Or.inl ⟨by kernel_rfl, by (intro wz hSz; go_simp; try with_reducible rfl)⟩) hV10 ?_
              go_simp
              refine wpAnyH_take (i := 39) (v := ?_) rfl (by kernel_rfl) (by kernel_rfl) (by kernel_rfl) (fun _ _ _ h => h) (Or.inl ⟨by kernel_rfl, by (intro wz hSz; go_simp; try with_reducible rfl)⟩) hV10 ?_
              go_simp
              refine wpAnyH_done (by kernel_rfl) ?_ _
              go_wp2
              go_ret
              exact ⟨rfl, HU.out.trans (hV10.mono HU.out.size)⟩
          · have HO1 : Hid (k = 1 ∨ (3 : Nat) = 3) := Lib.hid (.inr rfl)
            by_cases x2 : cb = 1
            · have HO2 : Hid (k2 = 1 ∨ (0 : Nat) = 6) := Lib.hid (.inl (by omega))
              clear kcb
              subst x2
              go_wp2_with fail
              refine wp_region_held_drew (S := fun y => Below z0.heap.size z0 y) (by kernel_rfl) ((Below.refl z0.heap.size z0).drew) (fun hV0 => ?_)
              obtain ⟨u0, hu0⟩ : ∃ u0, z0.drew = u0 := ⟨_, rfl⟩
              rw [hu0] at hV0 ⊢
              clear hu0
              refine wpAnyH_ready (rs := [0]) (by kernel_rfl) (by simp) ?_
              refine AllReadyH.cons rfl (fun K hK => ?_) AllReadyH.nil
              go_simp
              go_wp2_with (go_at_call 24; with_reducible refine (awake_any _).mono ?_; rintro e u1 ⟨rfl, hu1⟩)
              refine hK.out _ _ (hV0.trans (hu1.mono hV0.size)) (fun hV1 => ?_)
              clear hK K
              refine wpAnyH_take (i := 1) (v := ?_) rfl (by kernel_rfl) (by kernel_rfl) (by kernel_rfl) (fun _ _ _ h => h) (Or.inl ⟨by kernel_rfl, by (intro wz hSz; go_simp; try with_reducible rfl)⟩) hV1 ?_
              go_simp
              refine wpAnyH_take (i := 2) (v := ?_) rfl (by kernel_rfl) (by kernel_rfl) (by kernel_rfl) (fun _ _ _ h => h) (Or.inl ⟨by kernel_rfl, by (intro wz hSz; go_simp; try with_reducible rfl)⟩) hV1 ?_
              go_simp
              refine wpAnyH_take (i := 3) (v := ?_) rfl (by kernel_rfl) (by kernel_rfl) (by kernel_rfl) (fun _ _ _ h => h) (Or.inl ⟨by kernel_rfl, by (intro wz hSz; go_simp; try with_reducible rfl)⟩) hV1 ?_
              go_simp
              refine wpAnyH_take (i := 4) (v := ?_) rfl (by kernel_rfl) (by kernel_rfl) (by kernel_rfl) (fun _ _ _ h => h) (Or.inl ⟨by kernel_rfl, by (intro wz hSz; have x0 := XI0 _ hSz; have x1 := XI1 _ hSz; have x2 := XI2 _ hSz; have y0 := XB0 _ hSz; have z0 := XM0 _ hSz; have y1 := XB1 _ hSz; have z1 := XM1 _ hSz; have y2 := XB2 _ hSz; have z2 := XM2 _ hSz; have y3 := XB3 _ hSz; have z3 := XM3 _ hSz; have y4 := XB4 _ hSz; have z4 := XM4 _ hSz; have y5 := XB5 _ hSz; have z5 := XM5 _ hSz; go_simp; try with_reducible rfl)⟩) hV1 ?_
              go_simp
              refine wpAnyH_take (i := 5) (v := ?_) rfl (by kernel_rfl) (by kernel_rfl) (by kernel_rfl) (fun _ _ _ h => h) (Or.inl ⟨by kernel_rfl, by (intro wz hSz; go_simp; try with_reducible rfl)⟩) hV1 ?_
              go_simp
              refine wpAnyH_take (i := 6) (v := ?_) rfl (by kernel_rfl) (by kernel_rfl) (by kernel_rfl) (fun _ _ _ h => h) (Or.inl ⟨by kernel_rfl, by (intro wz hSz; go_simp; try with_reducible rfl)⟩) hV1 ?_
              go_simp
              refine wpAnyH_take (i := 9) (v := ?_) rfl (by kernel_rfl) (by kernel_rfl) (by kernel_rfl) (fun _ _ _ h => h) (Or.inl ⟨by kernel_rfl, by (intro wz hSz; go_simp; try with_reducible rfl)⟩) hV1 ?_
              go_simp
              refine wpAnyH_ready (rs := [7]) (by kernel_rfl) (by simp) ?_
              refine AllReadyH.cons rfl (fun K hK => ?_) AllReadyH.nil
              go_simp
              go_wp2_with (go_at_call 28; with_reducible refine (of_list gi 3 k _ (.inr rfl) L p1 q1 _ (Nat.lt_of_lt_of_le hgi hV1.size) (fun j h => (hV1.cell (p := ⟨gi, j, none⟩) hgi).trans (HCI.out j h))).mono ?_; rintro e u2 ⟨rfl, hu2⟩)
              refine hK.out _ _ (hV1.trans (hu2.mono hV1.size)) (fun hV2 => ?_)
              clear hK K
              refine wpAnyH_ready (rs := [8]) (by kernel_rfl) (by simp) ?_
              refine AllReadyH.cons rfl (fun K hK => ?_) AllReadyH.nil
              go_simp
              go_wp2_with (go_at_call 27; with_reducible refine (bfrom_any _ _ _ _ _ _ _).mono ?_; rintro e u3 ⟨rfl, hu3⟩)
              refine hK.out _ _ (hV2.trans (hu3.mono hV2.size)) (fun hV3 => ?_)
              clear hK K
              refine wpAnyH_ready (rs := [10]) (by kernel_rfl) (by simp) ?_
              refine AllReadyH.cons rfl (fun K hK => ?_) AllReadyH.nil
              go_simp
              go_wp2_with (go_at_call 29; with_reducible refine (rof_row bl ol k _ L p1 q3 _ (numsF_mk (Nat.lt_of_lt_of_le hbl' hV3.size) (fun j h => (hV3.cell (p := ⟨bl, ol + j, none⟩) hbl').trans (HCL.out j h)))).mono ?_; rintro e u4 ⟨rfl, hu4⟩)
              refine hK.out _ _ (hV3.trans (hu4.mono hV3.size)) (fun hV4 => ?_)
              clear hK K
              refine wpAnyH_take (i := 11) (v := ?_) rfl (by kernel_rfl) (by kernel_rfl) (by kernel_rfl) (fun _ _ _ h => h) (Or.inl ⟨by kernel_rfl, by (intro wz hSz; go_simp; try with_reducible rfl)⟩) hV4 ?_
              go_simp
              refine wpAnyH_take (i := 12) (v := ?_) rfl (by kernel_rfl) (by kernel_rfl) (by kernel_rfl) (fun _ _ _ h => h) (Or.inl ⟨by kernel_rfl, by (intro wz hSz; go_simp; try with_reducible rfl)⟩) hV4 ?_
              go_simp
              refine wpAnyH_take (i := 13) (v := ?_) rfl (by kernel_rfl) (by kernel_rfl) (by kernel_rfl) (fun _ _ _ h => h) (Or.inl ⟨by kernel_rfl, by (intro wz hSz; go_simp; try with_reducible rfl)⟩) hV4 ?_
              go_simp
              refine wpAnyH_take (i := 14) (v := ?_) rfl (by kernel_rfl) (by kernel_rfl) (by kernel_rfl) (fun _ _ _ h => h) (Or.inl ⟨by kernel_rfl, by (intro wz hSz; go_simp; try with_reducible rfl)⟩) hV4 ?_
              go_simp
              refine wpAnyH_take (i := 15) (v := ?_) rfl (by kernel_rfl) (by kernel_rfl) (by kernel_rfl) (fun _ _ _ h => h) (Or.inl ⟨by kernel_rfl, by (intro wz hSz; go_simp; try with_reducible rfl)⟩) hV4 ?_
              go_simp
              refine wpAnyH_take (i := 16) (v := ?_) rfl (by kernel_rfl) (by kernel_rfl) (by kernel_rfl) (fun _ _ _ h => h) (Or.inl ⟨by kernel_rfl, by (intro wz hSz; have x0 := XI0 _ hSz; have x1 := XI1 _ hSz; have x2 := XI2 _ hSz; have y0 := XB0 _ hSz; have z0 := XM0 _ hSz; have y1 := XB1 _ hSz; have z1 := XM1 _ hSz; have y2 := XB2 _ hSz; have z2 := XM2 _ hSz; have y3 := XB3 _ hSz; have z3 := XM3 _ hSz; have y4 := XB4 _ hSz; have z4 := XM4 _ hSz; have y5 := XB5 _ hSz; have z5 := XM5 _ hSz; go_simp; try with_reducible rfl)⟩) hV4 ?_
              go_simp
              refine wpAnyH_take (i := 17) (v := ?_) rfl (by kernel_rfl) (by kernel_rfl) (by kernel_rfl) (fun _ _ _ h => h) (Or.inl ⟨by kernel_rfl, by (intro wz hSz; go_simp; try with_reducible rfl)⟩) hV4 ?_
              go_simp
              refine wpAnyH_take (i := 18) (v := ?_) rfl (by kernel_rfl) (by kernel_rfl) (by kernel_rfl) (fun _ _ _ h => h) (Or.inl ⟨by kernel_rfl, by (intro wz hSz; go_simp; try with_reducible rfl)⟩) hV4 ?_
              go_simp
              refine wpAnyH_take (i := 21) (v := ?_) rfl (by kernel_rfl) (by kernel_rfl) (by kernel_rfl) (fun _ _ _ h => h) (Or.inl ⟨by kernel_rfl, by (intro wz hSz; go_simp; try with_reducible rfl)⟩) hV4 ?_
              go_simp
              refine wpAnyH_ready (rs := [19]) (by kernel_rfl) (by simp) ?_
              refine AllReadyH.cons rfl (fun K hK => ?_) AllReadyH.nil
              go_simp
              go_wp2_with (go_at_call 30; with_reducible refine (join_list gb 0 k2 _ HO2.out M p2 q2 _ (Nat.lt_of_lt_of_le hgb hV4.size) (fun j h => (hV4.cell (p := ⟨gb, j, none⟩) hgb).trans (HCB.out j h))).mono ?_; rintro e u5 ⟨rfl, hu5⟩)
              refine hK.out _ _ (hV4.trans (hu5.mono hV4.size)) (fun hV5 => ?_)
              clear hK K
              refine wpAnyH_ready (rs := [20]) (by kernel_rfl) (by simp) ?_
              refine AllReadyH.cons rfl (fun K hK => ?_) AllReadyH.nil
              go_simp
              go_wp2_with (go_at_call 27; with_reducible refine (bfrom_any _ _ _ _ _ _ _).mono ?_; rintro e u6 ⟨rfl, hu6⟩)
              refine hK.out _ _ (hV5.trans (hu6.mono hV5.size)) (fun hV6 => ?_)
              clear hK K
              refine wpAnyH_ready (rs := [22]) (by kernel_rfl) (by simp) ?_
              refine AllReadyH.cons rfl (fun K hK => ?_) AllReadyH.nil
              go_simp
              go_wp2_with (go_at_call 31; with_reducible refine (rjoin_row bm om k2 _ M p2 q2 _ (Nat.lt_of_lt_of_le hbm' hV6.size) (fun j h => (hV6.cell (p := ⟨bm, om + j, none⟩) hbm').trans (HCM.out j h))).mono ?_; rintro e u7 ⟨rfl, hu7⟩)
              refine hK.out _ _ (hV6.trans (hu7.mono hV6.size)) (fun hV7 => ?_)
              clear hK K
              refine wpAnyH_take (i := 23) (v := ?_) rfl (by kernel_rfl) (by kernel_rfl) (by kernel_rfl) (fun _ _ _ h => h) (Or.inl ⟨by kernel_rfl, by (intro wz hSz; go_simp; try with_reducible rfl)⟩) hV7 ?_
              go_simp
              refine wpAnyH_take (i := 24) (v := ?_) rfl (by kernel_rfl) (by kernel_rfl) (by kernel_rfl) (fun _ _ _ h => h) (Or.inl ⟨by kernel_rfl, by (intro wz hSz; go_simp; try with_reducible rfl)⟩) hV7 ?_
              go_simp
              refine wpAnyH_take (i := 25) (v := ?_) rfl (by kernel_rfl) (by kernel_rfl) (by kernel_rfl) (fun _ _ _ h => h) (Or.inl ⟨by kernel_rfl, by (intro wz hSz; go_simp; try with_reducible rfl)⟩) hV7 ?_
              go_simp
              refine wpAnyH_take (i := 26) (v := ?_) rfl (by kernel_rfl) (by kernel_rfl) (by kernel_rfl) (fun _ _ _ h => h) (Or.inl ⟨by kernel_rfl, by (intro wz hSz; go_simp; try with_reducible rfl)⟩) hV7 ?_
              go_simp
              refine wpAnyH_take (i := 27) (v := ?_) rfl (by kernel_rfl) (by kernel_rfl) (by kernel_rfl) (fun _ _ _ h => h) (Or.inl ⟨by kernel_rfl, by (intro wz hSz; go_simp; try with_reducible rfl)⟩) hV7 ?_
              go_simp
              refine wpAnyH_take (i := 28) (v := ?_) rfl (by kernel_rfl) (by kernel_rfl) (by kernel_rfl) (fun _ _ _ h => h) (Or.inl ⟨by kernel_rfl, by (intro wz hSz; have x0 := XI0 _ hSz; have x1 := XI1 _ hSz; have x2 := XI2 _ hSz; have y0 := XB0 _ hSz; have z0 := XM0 _ hSz; have y1 := XB1 _ hSz; have z1 := XM1 _ hSz; have y2 := XB2 _ hSz; have z2 := XM2 _ hSz; have y3 := XB3 _ hSz; have z3 := XM3 _ hSz; have y4 := XB4 _ hSz; have z4 := XM4 _ hSz; have y5 := XB5 _ hSz; have z5 := XM5 _ hSz; go_simp; try with_reducible rfl)⟩) hV7 ?_
              go_simp
              refine wpAnyH_take (i := 29) (v := ?_) rfl (by kernel_rfl) (by kernel_rfl) (by kernel_rfl) (fun _ _ _ h => h) (Or.inl ⟨by kernel_rfl, by (intro wz hSz; go_simp; try with_reducible rfl)⟩) hV7 ?_
              go_simp
              refine wpAnyH_take (i := 32) (v := ?_) rfl (by kernel_rfl) (by kernel_rfl) (by kernel_rfl) (fun _ _ _ h => h) (Or.inl ⟨by kernel_rfl, by (intro wz hSz; go_simp; try with_reducible rfl)⟩) hV7 ?_
              go_simp
              refine wpAnyH_take (i := 33) (v := ?_) rfl (by kernel_rfl) (by kernel_rfl) (by kernel_rfl) (fun _ _ _ h => h) (Or.inl ⟨by kernel_rfl, by (intro wz hSz; go_simp; try with_reducible rfl)⟩) hV7 ?_
              go_simp
              refine wpAnyH_take (i := 34) (v := ?_) rfl (by kernel_rfl) (by kernel_rfl) (by kernel_rfl) (fun _ _ _ h => h) (Or.inl ⟨by kernel_rfl, by (intro wz hSz; have x0 := XI0 _ hSz; have x1 := XI1 _ hSz; have x2 := XI2 _ hSz; have y0 := XB0 _ hSz; have z0 := XM0 _ hSz; have y1 := XB1 _ hSz; have z1 := XM1 _ hSz; have y2 := XB2 _ hSz; have z2 := XM2 _ hSz; have y3 := XB3 _ hSz; have z3 := XM3 _ hSz; have y4 := XB4 _ hSz; have z4 := XM4 _ hSz; have y5 := XB5 _ hSz; have z5 := XM5 _ hSz; go_simp; try with_reducible rfl)⟩) hV7 ?_
              go_simp
              refine wpAnyH_take (i := 35) (v := ?_) rfl (by kernel_rfl) (by kernel_rfl) (by kernel_rfl) (fun _ _ _ h => h) (Or.inl ⟨by kernel_rfl, by (intro wz hSz; go_simp; try with_reducible rfl)⟩) hV7 ?_
              go_simp
              refine wpAnyH_ready (rs := [30]) (by kernel_rfl) (by simp) ?_
              refine AllReadyH.cons rfl (fun K hK => ?_) AllReadyH.nil
              go_simp
              go_wp2_with (go_at_call 32; with_reducible refine (bwider_any _ _ _ _ _ _ _ _).mono ?_; rintro e u8 ⟨rfl, hu8⟩)
              refine hK.out _ _ (hV7.trans (hu8.mono hV7.size)) (fun hV8 => ?_)
              clear hK K
              refine wpAnyH_ready (rs := [31]) (by kernel_rfl) (by simp) ?_
              refine AllReadyH.cons rfl (fun K hK => ?_) AllReadyH.nil
              go_simp
              go_wp2_with (go_at_call 27; with_reducible refine (bfrom_any _ _ _ _ _ _ _).mono ?_; rintro e u9 ⟨rfl, hu9⟩)
              refine hK.out _ _ (hV8.trans (hu9.mono hV8.size)) (fun hV9 => ?_)
              clear hK K
              refine wpAnyH_ready (rs := [36]) (by kernel_rfl) (by simp) ?_
              refine AllReadyH.cons rfl (fun K hK => ?_) AllReadyH.nil
              go_simp
              go_wp2_with (go_at_call 33; with_reducible refine (rwider_any _ _ _ _ _ _ _ _).mono ?_; rintro e u10 ⟨rfl, hu10⟩)
              refine hK.out _ _ (hV9.trans (hu10.mono hV9.size)) (fun hV10 => ?_)
              clear hK K
              refine wpAnyH_take (i := 37) (v := ?_) rfl (by kernel_rfl) (by kernel_rfl) (by kernel_rfl) (fun _ _ _ h => h) (Or.inl ⟨by kernel_rfl, by (intro wz hSz; go_simp; try with_reducible rfl)⟩) hV10 ?_
              go_simp
              refine wpAnyH_take (i := 38) (v := ?_) rfl (by kernel_rfl) (by kernel_rfl) (by kernel_rfl) (fun _ _ _ h => h) (Or.inl ⟨by kernel_rfl, by (intro wz hSz; go_simp; try with_reducible rfl)⟩) hV10 ?_
              go_simp
              refine wpAnyH_take (i := 39) (v := ?_) rfl (by kernel_rfl) (by kernel_rfl) (by kernel_rfl) (fun _ _ _ h => h) (Or.inl ⟨by kernel_rfl, by (intro wz hSz; go_simp; try with_reducible rfl)⟩) hV10 ?_
              go_simp
              refine wpAnyH_done (by kernel_rfl) ?_ _
              go_wp2
              go_ret
              exact ⟨rfl, HU.out.trans (hV10.mono HU.out.size)⟩
            · have HO2 : Hid (k2 = 1 ∨ (6 : Nat) = 6) := Lib.hid (.inr rfl)
              go_wp2_with fail
              refine wp_region_held_drew (S := fun y => Below z0.heap.size z0 y) (by kernel_rfl) ((Below.refl z0.heap.size z0).drew) (fun hV0 => ?_)
              obtain ⟨u0, hu0⟩ : ∃ u0, z0.drew = u0 := ⟨_, rfl⟩
              rw [hu0] at hV0 ⊢
              clear hu0
              refine wpAnyH_ready (rs := [0]) (by kernel_rfl) (by simp) ?_
              refine AllReadyH.cons rfl (fun K hK => ?_) AllReadyH.nil
              go_simp
              go_wp2_with (go_at_call 24; with_reducible refine (awake_any _).mono ?_; rintro e u1 ⟨rfl, hu1⟩)
              refine hK.out _ _ (hV0.trans (hu1.mono hV0.size)) (fun hV1 => ?_)
              clear hK K
              refine wpAnyH_take (i := 1) (v := ?_) rfl (by kernel_rfl) (by kernel_rfl) (by kernel_rfl) (fun _ _ _ h => h) (Or.inl ⟨by kernel_rfl, by (intro wz hSz; go_simp; try with_reducible rfl)⟩) hV1 ?_
              go_simp
              refine wpAnyH_take (i := 2) (v := ?_) rfl (by kernel_rfl) (by kernel_rfl) (by kernel_rfl) (fun _ _ _ h => h) (Or.inl ⟨by kernel_rfl, by (intro wz hSz; go_simp; try with_reducible rfl)⟩) hV1 ?_
              go_simp
              refine wpAnyH_take (i := 3) (v := ?_) rfl (by kernel_rfl) (by kernel_rfl) (by kernel_rfl) (fun _ _ _ h => h) (Or.inl ⟨by kernel_rfl, by (intro wz hSz; go_simp; try with_reducible rfl)⟩) hV1 ?_
              go_simp
              refine wpAnyH_take (i := 4) (v := ?_) rfl (by kernel_rfl) (by kernel_rfl) (by kernel_rfl) (fun _ _ _ h => h) (Or.inl ⟨by kernel_rfl, by (intro wz hSz; have x0 := XI0 _ hSz; have x1 := XI1 _ hSz; have x2 := XI2 _ hSz; have y0 := XB0 _ hSz; have z0 := XM0 _ hSz; have y1 := XB1 _ hSz; have z1 := XM1 _ hSz; have y2 := XB2 _ hSz; have z2 := XM2 _ hSz; have y3 := XB3 _ hSz; have z3 := XM3 _ hSz; have y4 := XB4 _ hSz; have z4 := XM4 _ hSz; have y5 := XB5 _ hSz; have z5 := XM5 _ hSz; go_simp; try with_reducible rfl)⟩) hV1 ?_
              go_simp
              refine wpAnyH_take (i := 5) (v := ?_) rfl (by kernel_rfl) (by kernel_rfl) (by kernel_rfl) (fun _ _ _ h => h) (Or.inl ⟨by kernel_rfl, by (intro wz hSz; go_simp; try with_reducible rfl)⟩) hV1 ?_
              go_simp
              refine wpAnyH_take (i := 6) (v := ?_) rfl (by kernel_rfl) (by kernel_rfl) (by kernel_rfl) (fun _ _ _ h => h) (Or.inl ⟨by kernel_rfl, by (intro wz hSz; go_simp; try with_reducible rfl)⟩) hV1 ?_
              go_simp
              refine wpAnyH_take (i := 9) (v := ?_) rfl (by kernel_rfl) (by kernel_rfl) (by kernel_rfl) (fun _ _ _ h => h) (Or.inl ⟨by kernel_rfl, by (intro wz hSz; go_simp; try with_reducible rfl)⟩) hV1 ?_
              go_simp
              refine wpAnyH_ready (rs := [7]) (by kernel_rfl) (by simp) ?_
              refine AllReadyH.cons rfl (fun K hK => ?_) AllReadyH.nil
              go_simp
              go_wp2_with (go_at_call 28; with_reducible refine (of_list gi 3 k _ (.inr rfl) L p1 q1 _ (Nat.lt_of_lt_of_le hgi hV1.size) (fun j h => (hV1.cell (p := ⟨gi, j, none⟩) hgi).trans (HCI.out j h))).mono ?_; rintro e u2 ⟨rfl, hu2⟩)
              refine hK.out _ _ (hV1.trans (hu2.mono hV1.size)) (fun hV2 => ?_)
              clear hK K
              refine wpAnyH_ready (rs := [8]) (by kernel_rfl) (by simp) ?_
              refine AllReadyH.cons rfl (fun K hK => ?_) AllReadyH.nil
              go_simp
              go_wp2_with (go_at_call 27; with_reducible refine (bfrom_any _ _ _ _ _ _ _).mono ?_; rintro e u3 ⟨rfl, hu3⟩)
              refine hK.out _ _ (hV2.trans (hu3.mono hV2.size)) (fun hV3 => ?_)
              clear hK K
              refine wpAnyH_ready (rs := [10]) (by kernel_rfl) (by simp) ?_
              refine AllReadyH.cons rfl (fun K hK => ?_) AllReadyH.nil
              go_simp
              go_wp2_with (go_at_call 29; with_reducible refine (rof_row bl ol k _ L p1 q3 _ (numsF_mk (Nat.lt_of_lt_of_le hbl' hV3.size) (fun j h => (hV3.cell (p := ⟨bl, ol + j, none⟩) hbl').trans (HCL.out j h)))).mono ?_; rintro e u4 ⟨rfl, hu4⟩)
              refine hK.out _ _ (hV3.trans (hu4.mono hV3.size)) (fun hV4 => ?_)
              clear hK K
              refine wpAnyH_take (i := 11) (v := ?_) rfl (by kernel_rfl) (by kernel_rfl) (by kernel_rfl) (fun _ _ _ h => h) (Or.inl ⟨by kernel_rfl, by (intro wz hSz; go_simp; try with_reducible rfl)⟩) hV4 ?_
              go_simp
              refine wpAnyH_take (i := 12) (v := ?_) rfl (by kernel_rfl) (by kernel_rfl) (by kernel_rfl) (fun _ _ _ h => h) (Or.inl ⟨by kernel_rfl, by (intro wz hSz; go_simp; try with_reducible rfl)⟩) hV4 ?_
              go_simp
              refine wpAnyH_take (i := 13) (v := ?_) rfl (by kernel_rfl) (by kernel_rfl) (by kernel_rfl) (fun _ _ _ h => h) (Or.inl ⟨by kernel_rfl, by (intro wz hSz; go_simp; try with_reducible rfl)⟩) hV4 ?_
              go_simp
              refine wpAnyH_take (i := 14) (v := ?_) rfl (by kernel_rfl) (by kernel_rfl) (by kernel_rfl) (fun _ _ _ h => h) (Or.inl ⟨by kernel_rfl, by (intro wz hSz; go_simp; try with_reducible rfl)⟩) hV4 ?_
              go_simp
              refine wpAnyH_take (i := 15) (v := ?_) rfl (by kernel_rfl) (by kernel_rfl) (by kernel_rfl) (fun _ _ _ h => h) (Or.inl ⟨by kernel_rfl, by (intro wz hSz; go_simp; try with_reducible rfl)⟩) hV4 ?_
              go_simp
              refine wpAnyH_take (i := 16) (v := ?_) rfl (by kernel_rfl) (by kernel_rfl) (by kernel_rfl) (fun _ _ _ h => h) (Or.inl ⟨by kernel_rfl, by (intro wz hSz; have x0 := XI0 _ hSz; have x1 := XI1 _ hSz; have x2 := XI2 _ hSz; have y0 := XB0 _ hSz; have z0 := XM0 _ hSz; have y1 := XB1 _ hSz; have z1 := XM1 _ hSz; have y2 := XB2 _ hSz; have z2 := XM2 _ hSz; have y3 := XB3 _ hSz; have z3 := XM3 _ hSz; have y4 := XB4 _ hSz; have z4 := XM4 _ hSz; have y5 := XB5 _ hSz; have z5 := XM5 _ hSz; go_simp; try with_reducible rfl)⟩) hV4 ?_
              go_simp
              refine wpAnyH_take (i := 17) (v := ?_) rfl (by kernel_rfl) (by kernel_rfl) (by kernel_rfl) (fun _ _ _ h => h) (Or.inl ⟨by kernel_rfl, by (intro wz hSz; go_simp; try with_reducible rfl)⟩) hV4 ?_
              go_simp
              refine wpAnyH_take (i := 18) (v := ?_) rfl (by kernel_rfl) (by kernel_rfl) (by kernel_rfl) (fun _ _ _ h => h) (Or.inl ⟨by kernel_rfl, by (intro wz hSz; go_simp; try with_reducible rfl)⟩) hV4 ?_
              go_simp
              refine wpAnyH_take (i := 21) (v := ?_) rfl (by kernel_rfl) (by kernel_rfl) (by kernel_rfl) (fun _ _ _ h => h) (Or.inl ⟨by kernel_rfl, by (intro wz hSz; go_simp; try with_reducible rfl)⟩) hV4 ?_
              go_simp
              refine wpAnyH_ready (rs := [19]) (by kernel_rfl) (by simp) ?_
              refine AllReadyH.cons rfl (fun K hK => ?_) AllReadyH.nil
              go_simp
              go_wp2_with (go_at_call 30; with_reducible refine (join_list gb 6 k2 _ (.inr rfl) M p2 q2 _ (Nat.lt_of_lt_of_le hgb hV4.size) (fun j h => (hV4.cell (p := ⟨gb, j, none⟩) hgb).trans (HCB.out j h))).mono ?_; rintro e u5 ⟨rfl, hu5⟩)
              refine hK.out _ _ (hV4.trans (hu5.mono hV4.size)) (fun hV5 => ?_)
              clear hK K
              refine wpAnyH_ready (rs := [20]) (by kernel_rfl) (by simp) ?_
              refine AllReadyH.cons rfl (fun K hK => ?_) AllReadyH.nil
              go_simp
              go_wp2_with (go_at_call 27; with_reducible refine (bfrom_any _ _ _ _ _ _ _).mono ?_; rintro e u6 ⟨rfl, hu6⟩)
              refine hK.out _ _ (hV5.trans (hu6.mono hV5.size)) (fun hV6 => ?_)
              clear hK K
              refine wpAnyH_ready (rs := [22]) (by kernel_rfl) (by simp) ?_
              refine AllReadyH.cons rfl (fun K hK => ?_) AllReadyH.nil
              go_simp
              go_wp2_with (go_at_call 31; with_reducible refine (rjoin_row bm om k2 _ M p2 q2 _ (Nat.lt_of_lt_of_le hbm' hV6.size) (fun j h => (hV6.cell (p := ⟨bm, om + j, none⟩) hbm').trans (HCM.out j h))).mono ?_; rintro e u7 ⟨rfl, hu7⟩)
              refine hK.out _ _ (hV6.trans (hu7.mono hV6.size)) (fun hV7 => ?_)
              clear hK K
              refine wpAnyH_take (i := 23) (v := ?_) rfl (by kernel_rfl) (by kernel_rfl) (by kernel_rfl) (fun _ _ _ h => h) (Or.inl ⟨by kernel_rfl, by (intro wz hSz; go_simp; try with_reducible rfl)⟩) hV7 ?_
              go_simp
              refine wpAnyH_take (i := 24) (v := ?_) rfl (by kernel_rfl) (by kernel_rfl) (by kernel_rfl) (fun _ _ _ h => h) (Or.inl ⟨by kernel_rfl, by (intro wz hSz; go_simp; try with_reducible rfl)⟩) hV7 ?_
              go_simp
              refine wpAnyH_take (i := 25) (v := ?_) rfl (by kernel_rfl) (by kernel_rfl) (by kernel_rfl) (fun _ _ _ h => h) (Or.inl ⟨by kernel_rfl, by (intro wz hSz; go_simp; try with_reducible rfl)⟩) hV7 ?_
              go_simp
              refine wpAnyH_take (i := 26) (v := ?_) rfl (by kernel_rfl) (by kernel_rfl) (by kernel_rfl) (fun _ _ _ h => h) (Or.inl ⟨by kernel_rfl, by (intro wz hSz; go_simp; try with_reducible rfl)⟩) hV7 ?_
              go_simp
              refine wpAnyH_take (i := 27) (v := ?_) rfl (by kernel_rfl) (by kernel_rfl) (by kernel_rfl) (fun _ _ _ h => h) (Or.inl ⟨by kernel_rfl, by (intro wz hSz; go_simp; try with_reducible rfl)⟩) hV7 ?_
              go_simp
              refine wpAnyH_take (i := 28) (v := ?_) rfl (by kernel_rfl) (by kernel_rfl) (by kernel_rfl) (fun _ _ _ h => h) (Or.inl ⟨by kernel_rfl, by (intro wz hSz; have x0 := XI0 _ hSz; have x1 := XI1 _ hSz; have x2 := XI2 _ hSz; have y0 := XB0 _ hSz; have z0 := XM0 _ hSz; have y1 := XB1 _ hSz; have z1 := XM1 _ hSz; have y2 := XB2 _ hSz; have z2 := XM2 _ hSz; have y3 := XB3 _ hSz; have z3 := XM3 _ hSz; have y4 := XB4 _ hSz; have z4 := XM4 _ hSz; have y5 := XB5 _ hSz; have z5 := XM5 _ hSz; go_simp; try with_reducible rfl)⟩) hV7 ?_
              go_simp
              refine wpAnyH_take (i := 29) (v := ?_) rfl (by kernel_rfl) (by kernel_rfl) (by kernel_rfl) (fun _ _ _ h => h) (Or.inl ⟨by kernel_rfl, by (intro wz hSz; go_simp; try with_reducible rfl)⟩) hV7 ?_
              go_simp
              refine wpAnyH_take (i := 32) (v := ?_) rfl (by kernel_rfl) (by kernel_rfl) (by kernel_rfl) (fun _ _ _ h => h) (Or.inl ⟨by kernel_rfl, by (intro wz hSz; go_simp; try with_reducible rfl)⟩) hV7 ?_
              go_simp
              refine wpAnyH_take (i := 33) (v := ?_) rfl (by kernel_rfl) (by kernel_rfl) (by kernel_rfl) (fun _ _ _ h => h) (Or.inl ⟨by kernel_rfl, by (intro wz hSz; go_simp; try with_reducible rfl)⟩) hV7 ?_
              go_simp
              refine wpAnyH_take (i := 34) (v := ?_) rfl (by kernel_rfl) (by kernel_rfl) (by kernel_rfl) (fun _ _ _ h => h) (Or.inl ⟨by kernel_rfl, by (intro wz hSz; have x0 := XI0 _ hSz; have x1 := XI1 _ hSz; have x2 := XI2 _ hSz; have y0 := XB0 _ hSz; have z0 := XM0 _ hSz; have y1 := XB1 _ hSz; have z1 := XM1 _ hSz; have y2 := XB2 _ hSz; have z2 := XM2 _ hSz; have y3 := XB3 _ hSz; have z3 := XM3 _ hSz; have y4 := XB4 _ hSz; have z4 := XM4 _ hSz; have y5 := XB5 _ hSz; have z5 := XM5 _ hSz; go_simp; try with_reducible rfl)⟩) hV7 ?_
              go_simp
              refine wpAnyH_take (i := 35) (v := ?_) rfl (by kernel_rfl) (by kernel_rfl) (by kernel_rfl) (fun _ _ _ h => h) (Or.inl ⟨by kernel_rfl, by (intro wz hSz; go_simp; try with_reducible rfl)⟩) hV7 ?_
              go_simp
              refine wpAnyH_ready (rs := [30]) (by kernel_rfl) (by simp) ?_
              refine AllReadyH.cons rfl (fun K hK => ?_) AllReadyH.nil
              go_simp
              go_wp2_with (go_at_call 32; with_reducible refine (bwider_any _ _ _ _ _ _ _ _).mono ?_; rintro e u8 ⟨rfl, hu8⟩)
              refine hK.out _ _ (hV7.trans (hu8.mono hV7.size)) (fun hV8 => ?_)
              clear hK K
              refine wpAnyH_ready (rs := [31]) (by kernel_rfl) (by simp) ?_
              refine AllReadyH.cons rfl (fun K hK => ?_) AllReadyH.nil
              go_simp
              go_wp2_with (go_at_call 27; with_reducible refine (bfrom_any _ _ _ _ _ _ _).mono ?_; rintro e u9 ⟨rfl, hu9⟩)
              refine hK.out _ _ (hV8.trans (hu9.mono hV8.size)) (fun hV9 => ?_)
              clear hK K
              refine wpAnyH_ready (rs := [36]) (by kernel_rfl) (by simp) ?_
              refine AllReadyH.cons rfl (fun K hK => ?_) AllReadyH.nil
              go_simp
              go_wp2_with (go_at_call 33; with_reducible refine (rwider_any _ _ _ _ _ _ _ _).mono ?_; rintro e u10 ⟨rfl, hu10⟩)
              refine hK.out _ _ (hV9.trans (hu10.mono hV9.size)) (fun hV10 => ?_)
              clear hK K
              refine wpAnyH_take (i := 37) (v := ?_) rfl (by kernel_rfl) (by kernel_rfl) (by kernel_rfl) (fun _ _ _ h => h) (Or.inl ⟨by kernel_rfl, by (intro wz hSz; go_simp; try with_reducible rfl)⟩) hV10 ?_
              go_simp
              refine wpAnyH_take (i := 38) (v := ?_) rfl (by kernel_rfl) (by kernel_rfl) (by kernel_rfl) (fun _ _ _ h => h) (Or.inl ⟨by kernel_rfl, by (intro wz hSz; go_simp; try with_reducible rfl)⟩) hV10 ?_
              go_simp
              refine wpAnyH_take (i := 39) (v := ?_) rfl (by kernel_rfl) (by kernel_rfl) (by kernel_rfl) (fun _ _ _ h => h) (Or.inl ⟨by kernel_rfl, by (intro wz hSz; go_simp; try with_reducible rfl)⟩) hV10 ?_
              go_simp
              refine wpAnyH_done (by kernel_rfl) ?_ _
              go_wp2
              go_ret
              exact ⟨rfl, HU.out.trans (hV10.mono HU.out.size)⟩

end Go.Proofs.Ytfeihojobmagnaa.boxSumsW
