/- Boxes: the pair of some pairs, by the document. -/
import Derived.Test.YtoppcnkfgmbpfaaE21
import Derived.Test.YtoppcnkfgmbpfaaE11
import Derived.Deep.AppendLies
namespace Go.Proofs.Ytoppcnkfgmbpfaa.Bx
open Go.RowKit Go.Proofs.Ytoppcnkfgmbpfaa Go.Proofs.Ytoppcnkfgmbpfaa.Wa Go.Proofs.Ytoppcnkfgmbpfaa.Ve Go.Proofs.Ytoppcnkfgmbpfaa.Au Go.Proofs.Ytoppcnkfgmbpfaa.Ls
set_option linter.unusedVariables false
set_option linter.unusedSimpArgs false

theorem infoBoxR : (Try.prog.info? 49).map (fun i => (i.zero, i.size, i.bytes)) = some (some (.agg #[.int .i64 0, .int .i64 0, .int .i64 0, .int .i64 0, .int .i64 0, .int .i64 0]), 6, 48) := by kernel_rfl

/-- the values of a row's numbers, six a thing -/
def flat6 (L : Nat → Int) (k : Nat) : List Value := (List.range (k * 6)).map fun j => .int .i64 (L j)

theorem flat6_step (L : Nat → Int) (k : Nat) : flat6 L (k + 1) = flat6 L k ++ [.int .i64 (L (k * 6)), .int .i64 (L (k * 6 + 1)), .int .i64 (L (k * 6 + 2)), .int .i64 (L (k * 6 + 3)), .int .i64 (L (k * 6 + 4)), .int .i64 (L (k * 6 + 5))] := by
  simp [flat6, show (k + 1) * 6 = k * 6 + 1 + 1 + 1 + 1 + 1 + 1 by omega, List.range_succ]

theorem flat6_at (L : Nat → Int) (k j : Nat) (h : j < k * 6) : (flat6 L k)[j]? = some (.int .i64 (L j)) := by
  simp [flat6, h]

/-- the first boxes of a row of pairs, the last ones -/
def La (L : Nat → Int) (x : Nat) : Int := L (x / 6 * 12 + x % 6)
def Lb (L : Nat → Int) (x : Nat) : Int := L (x / 6 * 12 + 6 + x % 6)

theorem La_at (L : Nat → Int) (k i : Nat) (h : i < 6) : La L (k * 6 + i) = L (k * 12 + i) := by
  unfold La; rw [show (k * 6 + i) / 6 = k by omega, show (k * 6 + i) % 6 = i by omega]

theorem Lb_at (L : Nat → Int) (k i : Nat) (h : i < 6) : Lb L (k * 6 + i) = L (k * 12 + (6 + i)) := by
  unfold Lb; rw [show (k * 6 + i) / 6 = k by omega, show (k * 6 + i) % 6 = i by omega, Nat.add_assoc]

theorem La_step (L : Nat → Int) (k : Nat) : flat6 (La L) (k + 1) = flat6 (La L) k ++ [.int .i64 (L (k * 12)), .int .i64 (L (k * 12 + 1)), .int .i64 (L (k * 12 + 2)), .int .i64 (L (k * 12 + 3)), .int .i64 (L (k * 12 + 4)), .int .i64 (L (k * 12 + 5))] := by
  rw [flat6_step]
  have h0 := La_at L k 0 (by omega)
  simp only [Nat.add_zero] at h0
  rw [h0, La_at L k 1 (by omega), La_at L k 2 (by omega), La_at L k 3 (by omega), La_at L k 4 (by omega), La_at L k 5 (by omega)]

theorem Lb_step (L : Nat → Int) (k : Nat) : flat6 (Lb L) (k + 1) = flat6 (Lb L) k ++ [.int .i64 (L (k * 12 + 6)), .int .i64 (L (k * 12 + 7)), .int .i64 (L (k * 12 + 8)), .int .i64 (L (k * 12 + 9)), .int .i64 (L (k * 12 + 10)), .int .i64 (L (k * 12 + 11))] := by
  rw [flat6_step]
  have h0 := Lb_at L k 0 (by omega)
  simp only [Nat.add_zero] at h0
  rw [h0, Lb_at L k 1 (by omega), Lb_at L k 2 (by omega), Lb_at L k 3 (by omega), Lb_at L k 4 (by omega), Lb_at L k 5 (by omega)]

theorem ne_of {a b : Value} (h : ∀ x, a.ownBlock = some x → b.ownBlock ≠ some x) : b.ownBlock = none ∨ b.ownBlock ≠ a.ownBlock := by
  cases hb : b.ownBlock with
  | none => exact .inl rfl
  | some x => exact .inr (fun e => h x e.symm hb)

theorem row_of {w : World} {base k : Nat} {e : TypeId} {v : Value} {L : Nat → Int} (h : w.ownsRow base e 6 v k (flat6 L k)) (hk : k ≠ 0) : ∃ g cap, v = .slice (some ⟨g, 0, none⟩) k cap ∧ g < w.heap.size ∧ ∀ j, j < k * 6 → w.cell? ⟨g, j, none⟩ = some (.int .i64 (L j)) := by
  rcases h.2 with ⟨hv, hn⟩ | ⟨g, cap, cur, rfl, -, -, -, -, -, -⟩
  · exact absurd hn hk
  · exact ⟨g, cap, rfl, (h.lt g rfl).2, fun j hj => (h.cellAt j hj).trans (flat6_at L k j hj)⟩

set_option maxHeartbeats 8000000 in
set_option maxRecDepth 100000 in
theorem rboth_row (gl ol n cap : Nat) (L : Nat → Int) (hn : 1 ≤ n) (hm : n ≤ 1000000) (w : World) (hg : gl < w.heap.size) (hp : ∀ j, j < n * 12 → w.cell? ⟨gl, ol + j, none⟩ = some (.int .i64 (L j))) :
    Calls Try.prog 29 #[.slice (some ⟨gl, ol, none⟩) n cap] w fun e w' => e = .returned (.agg #[.int .i64 (lo6 (La L) 0 n), .int .i64 (lo6 (La L) 1 n), .int .i64 (lo6 (La L) 2 n), .int .i64 (hi6 (La L) 0 n), .int .i64 (hi6 (La L) 1 n), .int .i64 (hi6 (La L) 2 n), .int .i64 (lo6 (Lb L) 0 n), .int .i64 (lo6 (Lb L) 1 n), .int .i64 (lo6 (Lb L) 2 n), .int .i64 (hi6 (Lb L) 0 n), .int .i64 (hi6 (Lb L) 1 n), .int .i64 (hi6 (Lb L) 2 n)]) ∧ Below w.heap.size w w' := by
  obtain ⟨i0, hi, hz0, hz1, hz2⟩ := info_parts infoBoxR
  have HP := Lib.hid hp
  clear hp
  have hR := rows1 w (.cells #[.int .i64 0, .int .i64 0, .int .i64 0, .int .i64 0, .int .i64 0, .int .i64 0, .int .i64 0, .int .i64 0, .int .i64 0, .int .i64 0, .int .i64 0, .int .i64 0] 51)
  have HB0 := below_n1 w (.cells #[.int .i64 0, .int .i64 0, .int .i64 0, .int .i64 0, .int .i64 0, .int .i64 0, .int .i64 0, .int .i64 0, .int .i64 0, .int .i64 0, .int .i64 0, .int .i64 0] 51)
  go_enter Try.func29, Try.ntmps29
  go_wp2_with fail
  go_loopw [3, 4, 5] (fun s3 s4 s5 wr => ∃ k : Nat, k ≤ n ∧ s5 = .int .i64 k ∧ wr.ownsRow (w.heap.size + 1) 49 6 s3 k (flat6 (La L) k) ∧ wr.ownsRow (w.heap.size + 1) 49 6 s4 k (flat6 (Lb L) k) ∧ Hid (∀ x, s3.ownBlock = some x → s4.ownBlock ≠ some x) ∧ Hid (wr.heap[w.heap.size]? = some (.cells #[.int .i64 0, .int .i64 0, .int .i64 0, .int .i64 0, .int .i64 0, .int .i64 0, .int .i64 0, .int .i64 0, .int .i64 0, .int .i64 0, .int .i64 0, .int .i64 0] 51 (0, 0))) ∧ Hid (Below w.heap.size w wr) ∧ w.heap.size + 1 ≤ wr.heap.size) (fun _ _ s5 _ => n - (intOf s5).toNat)
  case atStart => exact ⟨0, by omega, rfl, World.ownsRow_nil _ _ _ _, World.ownsRow_nil _ _ _ _, Lib.hid (fun x h => by cases h), Lib.hid hR, Lib.hid HB0, by simp⟩
  case round =>
    clear hR HB0
    obtain ⟨k, hk, rfl, hra, hrb, HNE, HR0, HU0, hsz0⟩ := hrel
    obtain ⟨y0, rfl⟩ : ∃ y : World, y = wr := ⟨_, rfl⟩
    by_cases hlt : k < n
    · have hlt' : (k : Int) < n := by omega
      have C0 : y0.cell? ⟨gl, ol + k * 12, none⟩ = some (.int .i64 (L (k * 12))) := (HU0.out.cell (p := ⟨gl, ol + (k * 12 + 0), none⟩) hg).trans (HP.out (k * 12 + 0) (by omega))
      have C1 : y0.cell? ⟨gl, ol + k * 12 + 1, none⟩ = some (.int .i64 (L (k * 12 + 1))) := (HU0.out.cell (p := ⟨gl, ol + (k * 12 + 1), none⟩) hg).trans (HP.out (k * 12 + 1) (by omega))
      have C2 : y0.cell? ⟨gl, ol + k * 12 + 2, none⟩ = some (.int .i64 (L (k * 12 + 2))) := (HU0.out.cell (p := ⟨gl, ol + (k * 12 + 2), none⟩) hg).trans (HP.out (k * 12 + 2) (by omega))
      have C3 : y0.cell? ⟨gl, ol + k * 12 + 3, none⟩ = some (.int .i64 (L (k * 12 + 3))) := (HU0.out.cell (p := ⟨gl, ol + (k * 12 + 3), none⟩) hg).trans (HP.out (k * 12 + 3) (by omega))
      have C4 : y0.cell? ⟨gl, ol + k * 12 + 4, none⟩ = some (.int .i64 (L (k * 12 + 4))) := (HU0.out.cell (p := ⟨gl, ol + (k * 12 + 4), none⟩) hg).trans (HP.out (k * 12 + 4) (by omega))
      have C5 : y0.cell? ⟨gl, ol + k * 12 + 5, none⟩ = some (.int .i64 (L (k * 12 + 5))) := (HU0.out.cell (p := ⟨gl, ol + (k * 12 + 5), none⟩) hg).trans (HP.out (k * 12 + 5) (by omega))
      have C6 : y0.cell? ⟨gl, ol + k * 12 + 6, none⟩ = some (.int .i64 (L (k * 12 + 6))) := (HU0.out.cell (p := ⟨gl, ol + (k * 12 + 6), none⟩) hg).trans (HP.out (k * 12 + 6) (by omega))
      have C7 : y0.cell? ⟨gl, ol + k * 12 + 7, none⟩ = some (.int .i64 (L (k * 12 + 7))) := (HU0.out.cell (p := ⟨gl, ol + (k * 12 + 7), none⟩) hg).trans (HP.out (k * 12 + 7) (by omega))
      have C8 : y0.cell? ⟨gl, ol + k * 12 + 8, none⟩ = some (.int .i64 (L (k * 12 + 8))) := (HU0.out.cell (p := ⟨gl, ol + (k * 12 + 8), none⟩) hg).trans (HP.out (k * 12 + 8) (by omega))
      have C9 : y0.cell? ⟨gl, ol + k * 12 + 9, none⟩ = some (.int .i64 (L (k * 12 + 9))) := (HU0.out.cell (p := ⟨gl, ol + (k * 12 + 9), none⟩) hg).trans (HP.out (k * 12 + 9) (by omega))
      have C10 : y0.cell? ⟨gl, ol + k * 12 + 10, none⟩ = some (.int .i64 (L (k * 12 + 10))) := (HU0.out.cell (p := ⟨gl, ol + (k * 12 + 10), none⟩) hg).trans (HP.out (k * 12 + 10) (by omega))
      have C11 : y0.cell? ⟨gl, ol + k * 12 + 11, none⟩ = some (.int .i64 (L (k * 12 + 11))) := (HU0.out.cell (p := ⟨gl, ol + (k * 12 + 11), none⟩) hg).trans (HP.out (k * 12 + 11) (by omega))
      have HA := Lib.hid hra
      have HB := Lib.hid hrb
      clear hra hrb
      have hszA := HU0.out.size
      go_wp2_with (first | (at_builtin; refine wpList_append_lies _ rfl _ _ 99 rfl (w.heap.size + 1) 49 i0 (.agg #[.int .i64 0, .int .i64 0, .int .i64 0, .int .i64 0, .int .i64 0, .int .i64 0]) 6 48 Try.underlying99 hi hz0 hz1 hz2 rfl (by decide) _ _ _ rfl (HA.out.alloc _) ⟨y0.heap.size, 0, none⟩ 1 1 [.int .i64 (L (k * 12)), .int .i64 (L (k * 12 + 1)), .int .i64 (L (k * 12 + 2)), .int .i64 (L (k * 12 + 3)), .int .i64 (L (k * 12 + 4)), .int .i64 (L (k * 12 + 5))] rfl rfl ?c1 ?c2 (by omega) ?c3 ?c4 ?c5 _ rfl ?_))
      case c1 =>
        intro j u hj
        match j, hj with
        | 0, hj => simp at hj; subst hj; simp [Addr.add]
        | 1, hj => simp at hj; subst hj; simp [Addr.add]
        | 2, hj => simp at hj; subst hj; simp [Addr.add]
        | 3, hj => simp at hj; subst hj; simp [Addr.add]
        | 4, hj => simp at hj; subst hj; simp [Addr.add]
        | 5, hj => simp at hj; subst hj; simp [Addr.add]
      case c2 => intro u hu; simp at hu; rcases hu with rfl | rfl | rfl | rfl | rfl | rfl <;> rfl
      case c3 => unfold maxLen; omega
      case c4 => omega
      case c5 => simp; omega
      intro ga ca y1 hra1 hg1 hk1 hl1
      rw [← La_step] at hra1
      have HRA1 := Lib.hid hra1
      have HRB1 := Lib.hid ((HB.out.alloc _).kept hg1 (ne_of HNE.out))
      have HR1 := Lib.hid (show y1.heap[w.heap.size]? = some (.cells #[.int .i64 0, .int .i64 0, .int .i64 0, .int .i64 0, .int .i64 0, .int .i64 0, .int .i64 0, .int .i64 0, .int .i64 0, .int .i64 0, .int .i64 0, .int .i64 0] 51 (0, 0)) from (hg1.block _ (by simp; omega) (fun e => by have := (HA.out.lt _ e.symm).1; omega)).trans ((below_n1 y0 _).block _ (by omega) |>.trans HR0.out))
      have HU1 := Lib.hid ((HU0.out.trans ((below_n1 y0 _).mono HU0.out.size)).grown hg1 (by simp; omega) (fun q hq => by have := (HA.out.lt q hq).1; omega))
      have HNE1 := Lib.hid (show ∀ x, some ga = some x → u4.ownBlock ≠ some x from fun x hx h4 => by
        cases hx
        rcases hk1 with h | h
        · exact HNE.out _ h h4
        · have := (HB.out.lt _ h4).2
          (try simp at h)
          omega)
      have hsz1 : w.heap.size + 1 ≤ y1.heap.size := by have := hg1.size; simp at this; omega
      have D0 := fun (b : Nat) (o : Nat) (h : b < y0.heap.size) (hn : u3.ownBlock ≠ some b) => True.intro
      clear D0 hra1
      have D0 : y1.cell? ⟨gl, ol + k * 12, none⟩ = some (.int .i64 (L (k * 12))) := (HU1.out.cell (p := ⟨gl, ol + (k * 12 + 0), none⟩) hg).trans (HP.out (k * 12 + 0) (by omega))
      have D1 : y1.cell? ⟨gl, ol + k * 12 + 1, none⟩ = some (.int .i64 (L (k * 12 + 1))) := (HU1.out.cell (p := ⟨gl, ol + (k * 12 + 1), none⟩) hg).trans (HP.out (k * 12 + 1) (by omega))
      have D2 : y1.cell? ⟨gl, ol + k * 12 + 2, none⟩ = some (.int .i64 (L (k * 12 + 2))) := (HU1.out.cell (p := ⟨gl, ol + (k * 12 + 2), none⟩) hg).trans (HP.out (k * 12 + 2) (by omega))
      have D3 : y1.cell? ⟨gl, ol + k * 12 + 3, none⟩ = some (.int .i64 (L (k * 12 + 3))) := (HU1.out.cell (p := ⟨gl, ol + (k * 12 + 3), none⟩) hg).trans (HP.out (k * 12 + 3) (by omega))
      have D4 : y1.cell? ⟨gl, ol + k * 12 + 4, none⟩ = some (.int .i64 (L (k * 12 + 4))) := (HU1.out.cell (p := ⟨gl, ol + (k * 12 + 4), none⟩) hg).trans (HP.out (k * 12 + 4) (by omega))
      have D5 : y1.cell? ⟨gl, ol + k * 12 + 5, none⟩ = some (.int .i64 (L (k * 12 + 5))) := (HU1.out.cell (p := ⟨gl, ol + (k * 12 + 5), none⟩) hg).trans (HP.out (k * 12 + 5) (by omega))
      have D6 : y1.cell? ⟨gl, ol + k * 12 + 6, none⟩ = some (.int .i64 (L (k * 12 + 6))) := (HU1.out.cell (p := ⟨gl, ol + (k * 12 + 6), none⟩) hg).trans (HP.out (k * 12 + 6) (by omega))
      have D7 : y1.cell? ⟨gl, ol + k * 12 + 7, none⟩ = some (.int .i64 (L (k * 12 + 7))) := (HU1.out.cell (p := ⟨gl, ol + (k * 12 + 7), none⟩) hg).trans (HP.out (k * 12 + 7) (by omega))
      have D8 : y1.cell? ⟨gl, ol + k * 12 + 8, none⟩ = some (.int .i64 (L (k * 12 + 8))) := (HU1.out.cell (p := ⟨gl, ol + (k * 12 + 8), none⟩) hg).trans (HP.out (k * 12 + 8) (by omega))
      have D9 : y1.cell? ⟨gl, ol + k * 12 + 9, none⟩ = some (.int .i64 (L (k * 12 + 9))) := (HU1.out.cell (p := ⟨gl, ol + (k * 12 + 9), none⟩) hg).trans (HP.out (k * 12 + 9) (by omega))
      have D10 : y1.cell? ⟨gl, ol + k * 12 + 10, none⟩ = some (.int .i64 (L (k * 12 + 10))) := (HU1.out.cell (p := ⟨gl, ol + (k * 12 + 10), none⟩) hg).trans (HP.out (k * 12 + 10) (by omega))
      have D11 : y1.cell? ⟨gl, ol + k * 12 + 11, none⟩ = some (.int .i64 (L (k * 12 + 11))) := (HU1.out.cell (p := ⟨gl, ol + (k * 12 + 11), none⟩) hg).trans (HP.out (k * 12 + 11) (by omega))
      clear HA HB HNE HR0 C0 C1 C2 C3 C4 C5 C6 C7 C8 C9 C10 C11
      have hszA := HU1.out.size
      go_wp2_with (first | (at_builtin; refine wpList_append_lies _ rfl _ _ 99 rfl (w.heap.size + 1) 49 i0 (.agg #[.int .i64 0, .int .i64 0, .int .i64 0, .int .i64 0, .int .i64 0, .int .i64 0]) 6 48 Try.underlying99 hi hz0 hz1 hz2 rfl (by decide) _ _ _ rfl (HRB1.out.alloc _) ⟨y1.heap.size, 0, none⟩ 1 1 [.int .i64 (L (k * 12 + 6)), .int .i64 (L (k * 12 + 7)), .int .i64 (L (k * 12 + 8)), .int .i64 (L (k * 12 + 9)), .int .i64 (L (k * 12 + 10)), .int .i64 (L (k * 12 + 11))] rfl rfl ?c1 ?c2 (by omega) ?c3 ?c4 ?c5 _ rfl ?_))
      case c1 =>
        intro j u hj
        match j, hj with
        | 0, hj => simp at hj; subst hj; simp [Addr.add]
        | 1, hj => simp at hj; subst hj; simp [Addr.add]
        | 2, hj => simp at hj; subst hj; simp [Addr.add]
        | 3, hj => simp at hj; subst hj; simp [Addr.add]
        | 4, hj => simp at hj; subst hj; simp [Addr.add]
        | 5, hj => simp at hj; subst hj; simp [Addr.add]
      case c2 => intro u hu; simp at hu; rcases hu with rfl | rfl | rfl | rfl | rfl | rfl <;> rfl
      case c3 => unfold maxLen; omega
      case c4 => omega
      case c5 => simp; omega
      intro gb cb y2 hrb2 hg2 hk2 hl2
      rw [← Lb_step] at hrb2
      have HRA2 := (HRA1.out.alloc _).kept hg2 (.inr (fun e => HNE1.out ga rfl (by simpa [Value.ownBlock] using e.symm)))
      have HR2 := Lib.hid (show y2.heap[w.heap.size]? = some (.cells #[.int .i64 0, .int .i64 0, .int .i64 0, .int .i64 0, .int .i64 0, .int .i64 0, .int .i64 0, .int .i64 0, .int .i64 0, .int .i64 0, .int .i64 0, .int .i64 0] 51 (0, 0)) from (hg2.block _ (by simp; omega) (fun e => by have := (HRB1.out.lt _ e.symm).1; omega)).trans ((below_n1 y1 _).block _ (by omega) |>.trans HR1.out))
      have HU2 := Lib.hid ((HU1.out.trans ((below_n1 y1 _).mono HU1.out.size)).grown hg2 (by simp; omega) (fun q hq => by have := (HRB1.out.lt q hq).1; omega))
      have HNE2 := Lib.hid (show ∀ x, some ga = some x → some gb ≠ some x from fun x hx h4 => by
        cases hx
        cases h4
        rcases hk2 with h | h
        · exact HNE1.out _ rfl h
        · try simp at h
          omega)
      have hsz2 : w.heap.size + 1 ≤ y2.heap.size := by have := hg2.size; simp at this; omega
      go_wp2_with fail
      go_roundw
      case rel => exact ⟨k + 1, by omega, by go_num, HRA2, hrb2, HNE2, HR2, HU2, hsz2⟩
      case measure => simp [intOf]; omega
    · obtain rfl : k = n := by omega
      clear hlt
      obtain ⟨ga, ca, rfl, hga, hca⟩ := row_of hra (by omega)
      obtain ⟨gb, cb, rfl, hgb, hcb⟩ := row_of hrb (by omega)
      have HCA := Lib.hid hca
      have HCB := Lib.hid hcb
      clear hra hrb HNE hca hcb
      go_wp2_with fail
      refine (rjoin_row ga 0 k _ (La L) hn hm _ hga (fun j hj => by rw [Nat.zero_add]; exact HCA.out j hj)).mono ?_
      rintro e y1 ⟨rfl, hb1⟩
      go_wp2_with fail
      refine (rjoin_row gb 0 k _ (Lb L) hn hm _ (Nat.lt_of_lt_of_le hgb hb1.size) (fun j hj => by rw [Nat.zero_add]; exact (hb1.cell (p := ⟨gb, j, none⟩) hgb).trans (HCB.out j hj))).mono ?_
      rintro e y2 ⟨rfl, hb2⟩
      have hb3 := hb1.trans (hb2.mono hb1.size)
      have hr2_0 := (hb3.block _ (lt_heap HR0.out)).trans HR0.out
      have HU2 := Lib.hid (HU0.out.trans (hb3.mono HU0.out.size))
      have hHr := Lib.hid hr2_0
      have hHi := Lib.hid (show (Try.prog.info? 51).map (·.size) = some (#[.int .i64 (lo6 (La L) 0 k), .int .i64 (lo6 (La L) 1 k), .int .i64 (lo6 (La L) 2 k), .int .i64 (hi6 (La L) 0 k), .int .i64 (hi6 (La L) 1 k), .int .i64 (hi6 (La L) 2 k), .int .i64 (lo6 (Lb L) 0 k), .int .i64 (lo6 (Lb L) 1 k), .int .i64 (lo6 (Lb L) 2 k), .int .i64 (hi6 (Lb L) 0 k), .int .i64 (hi6 (Lb L) 1 k), .int .i64 (hi6 (Lb L) 2 k)] : Array Value).size by kernel_rfl)
      have hHz := Lib.hid (show (#[.int .i64 0, .int .i64 0, .int .i64 0, .int .i64 0, .int .i64 0, .int .i64 0, .int .i64 0, .int .i64 0, .int .i64 0, .int .i64 0, .int .i64 0, .int .i64 0] : Array Value).size = (#[.int .i64 (lo6 (La L) 0 k), .int .i64 (lo6 (La L) 1 k), .int .i64 (lo6 (La L) 2 k), .int .i64 (hi6 (La L) 0 k), .int .i64 (hi6 (La L) 1 k), .int .i64 (hi6 (La L) 2 k), .int .i64 (lo6 (Lb L) 0 k), .int .i64 (lo6 (Lb L) 1 k), .int .i64 (lo6 (Lb L) 2 k), .int .i64 (hi6 (Lb L) 0 k), .int .i64 (hi6 (Lb L) 1 k), .int .i64 (hi6 (Lb L) 2 k)] : Array Value).size from rfl)
      have hHo := Lib.hid (show (#[.int .i64 (lo6 (La L) 0 k), .int .i64 (lo6 (La L) 1 k), .int .i64 (lo6 (La L) 2 k), .int .i64 (hi6 (La L) 0 k), .int .i64 (hi6 (La L) 1 k), .int .i64 (hi6 (La L) 2 k), .int .i64 (lo6 (Lb L) 0 k), .int .i64 (lo6 (Lb L) 1 k), .int .i64 (lo6 (Lb L) 2 k), .int .i64 (hi6 (Lb L) 0 k), .int .i64 (hi6 (Lb L) 1 k), .int .i64 (hi6 (Lb L) 2 k)] : Array Value).all (·.oneCell') = true by simp [Value.oneCell'])
      go_wp2_with (first | (refine Au.wpList_store_row rfl 51 (.tmp 2) (.tmp 32) rfl y2 #[.int .i64 0, .int .i64 0, .int .i64 0, .int .i64 0, .int .i64 0, .int .i64 0, .int .i64 0, .int .i64 0, .int .i64 0, .int .i64 0, .int .i64 0, .int .i64 0] #[.int .i64 (lo6 (La L) 0 k), .int .i64 (lo6 (La L) 1 k), .int .i64 (lo6 (La L) 2 k), .int .i64 (hi6 (La L) 0 k), .int .i64 (hi6 (La L) 1 k), .int .i64 (hi6 (La L) 2 k), .int .i64 (lo6 (Lb L) 0 k), .int .i64 (lo6 (Lb L) 1 k), .int .i64 (lo6 (Lb L) 2 k), .int .i64 (hi6 (Lb L) 0 k), .int .i64 (hi6 (Lb L) 1 k), .int .i64 (hi6 (Lb L) 2 k)] (w.heap.size) 51 hHr.out rfl rfl hHi.out hHz.out hHo.out ?_))
      clear hHr hHi hHz hHo
      have hN := setRow_heap _ (w.heap.size) _ #[.int .i64 (lo6 (La L) 0 k), .int .i64 (lo6 (La L) 1 k), .int .i64 (lo6 (La L) 2 k), .int .i64 (hi6 (La L) 0 k), .int .i64 (hi6 (La L) 1 k), .int .i64 (hi6 (La L) 2 k), .int .i64 (lo6 (Lb L) 0 k), .int .i64 (lo6 (Lb L) 1 k), .int .i64 (lo6 (Lb L) 2 k), .int .i64 (hi6 (Lb L) 0 k), .int .i64 (hi6 (Lb L) 1 k), .int .i64 (hi6 (Lb L) 2 k)] _ _ hr2_0
      have hsz := HU2.out.size
      have HUx := below_setRow (g := w.heap.size) HU2.out (by first | omega | (simp at *; omega)) #[.int .i64 (lo6 (La L) 0 k), .int .i64 (lo6 (La L) 1 k), .int .i64 (lo6 (La L) 2 k), .int .i64 (hi6 (La L) 0 k), .int .i64 (hi6 (La L) 1 k), .int .i64 (hi6 (La L) 2 k), .int .i64 (lo6 (Lb L) 0 k), .int .i64 (lo6 (Lb L) 1 k), .int .i64 (lo6 (Lb L) 2 k), .int .i64 (hi6 (Lb L) 0 k), .int .i64 (hi6 (Lb L) 1 k), .int .i64 (hi6 (Lb L) 2 k)]
      have hO : ∀ kk, kk ≠ w.heap.size → (y2.setRow (w.heap.size) #[.int .i64 (lo6 (La L) 0 k), .int .i64 (lo6 (La L) 1 k), .int .i64 (lo6 (La L) 2 k), .int .i64 (hi6 (La L) 0 k), .int .i64 (hi6 (La L) 1 k), .int .i64 (hi6 (La L) 2 k), .int .i64 (lo6 (Lb L) 0 k), .int .i64 (lo6 (Lb L) 1 k), .int .i64 (lo6 (Lb L) 2 k), .int .i64 (hi6 (Lb L) 0 k), .int .i64 (hi6 (Lb L) 1 k), .int .i64 (hi6 (Lb L) 2 k)]).heap[kk]? = y2.heap[kk]? := fun kk hk => setRow_other _ _ _ _ hk
      obtain ⟨y3, hy3⟩ : ∃ y, y2.setRow (w.heap.size) #[.int .i64 (lo6 (La L) 0 k), .int .i64 (lo6 (La L) 1 k), .int .i64 (lo6 (La L) 2 k), .int .i64 (hi6 (La L) 0 k), .int .i64 (hi6 (La L) 1 k), .int .i64 (hi6 (La L) 2 k), .int .i64 (lo6 (Lb L) 0 k), .int .i64 (lo6 (Lb L) 1 k), .int .i64 (lo6 (Lb L) 2 k), .int .i64 (hi6 (Lb L) 0 k), .int .i64 (hi6 (Lb L) 1 k), .int .i64 (hi6 (Lb L) 2 k)] = y := ⟨_, rfl⟩
      rw [hy3] at hN HUx hO ⊢
      clear hy3 hsz
      have HU3 := Lib.hid HUx
      clear HUx
      have hr3_0 := hN
      clear hN hO
      clear hr2_0 HU2
      have c0_0 := cell_of_row _ _ 0 _ _ _ hr3_0
      have c0_1 := cell_of_row _ _ 1 _ _ _ hr3_0
      have c0_2 := cell_of_row _ _ 2 _ _ _ hr3_0
      have c0_3 := cell_of_row _ _ 3 _ _ _ hr3_0
      have c0_4 := cell_of_row _ _ 4 _ _ _ hr3_0
      have c0_5 := cell_of_row _ _ 5 _ _ _ hr3_0
      have c0_6 := cell_of_row _ _ 6 _ _ _ hr3_0
      have c0_7 := cell_of_row _ _ 7 _ _ _ hr3_0
      have c0_8 := cell_of_row _ _ 8 _ _ _ hr3_0
      have c0_9 := cell_of_row _ _ 9 _ _ _ hr3_0
      have c0_10 := cell_of_row _ _ 10 _ _ _ hr3_0
      have c0_11 := cell_of_row _ _ 11 _ _ _ hr3_0
      simp at c0_0 c0_1 c0_2 c0_3 c0_4 c0_5 c0_6 c0_7 c0_8 c0_9 c0_10 c0_11
      go_wp2
      exact bodyPost_ret (v := .agg #[.int .i64 (lo6 (La L) 0 k), .int .i64 (lo6 (La L) 1 k), .int .i64 (lo6 (La L) 2 k), .int .i64 (hi6 (La L) 0 k), .int .i64 (hi6 (La L) 1 k), .int .i64 (hi6 (La L) 2 k), .int .i64 (lo6 (Lb L) 0 k), .int .i64 (lo6 (Lb L) 1 k), .int .i64 (lo6 (Lb L) 2 k), .int .i64 (hi6 (Lb L) 0 k), .int .i64 (hi6 (Lb L) 1 k), .int .i64 (hi6 (Lb L) 2 k)]) (by simp [results, Try.results29, go_sem, c0_0, c0_1, c0_2, c0_3, c0_4, c0_5, c0_6, c0_7, c0_8, c0_9, c0_10, c0_11]) rfl ⟨rfl, HU3.out⟩

end Go.Proofs.Ytoppcnkfgmbpfaa.Bx
