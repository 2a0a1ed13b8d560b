/- Layer 25, the document's Check. -/
import Derived.Test.YtndpidmbfdpiaaaPnk
import Derived.Test.YtndpidmbfdpiaaaPnf
namespace Go.Proofs.Ytndpidmbfdpiaaa.Pn
open Go Go.RowKit Go.Proofs.Ytndpidmbfdpiaaa Go.Proofs.Ytndpidmbfdpiaaa.Au Go.Proofs.Ytndpidmbfdpiaaa.Re
set_option linter.unusedVariables false
set_option linter.unusedSimpArgs false

theorem Ro.take {w : World} {b off n c : Nat} {l : List Int} (h : Ro w (.slice (some ⟨b, off, none⟩) n c) l) {i : Nat} (hi : i ≤ n) (hlt : b < w.heap.size) : Ro w (.slice (some ⟨b, off, none⟩) i c) (l.take i) := by
  have hl := h.len
  have hcap := h.cap
  refine ⟨some ⟨b, off, none⟩, i, c, rfl, by rw [List.length_take]; omega, ⟨by omega, by omega⟩, .inr ⟨b, off, rfl, hlt, fun j hj => ?_⟩⟩
  obtain ⟨b2, off2, ha, hc⟩ := h.at (j := j) (by omega)
  cases ha
  rw [hc, List.getD_eq_getElem?_getD, List.getD_eq_getElem?_getD, List.getElem?_take, if_pos hj]

set_option maxHeartbeats 4000000 in
set_option maxRecDepth 100000 in
theorem rcheck_any (a : Option Addr) (c n : Nat) (L : List (List Int)) (w : World) (hn : n = L.length) (hP : PAt w a n L) :
    Calls Try.prog 10 #[.slice a n c] w fun e w' => e = .returned (.int .i64 (chk L)) ∧ Below w.heap.size w w' := by
  have HP := Lib.hid hP
  have HN := Lib.hid hn
  have hnb := hP.2.1
  have hord := rorder_any a c n L w hn hP
  clear hP hn
  by_cases hbig : 256 < n
  · have hE := Lib.hid (show chk L = 8 by
      have h : named L = 8 := by unfold named; rw [if_pos (by rw [← HN.out]; exact hbig)]
      unfold chk; rw [h]; rfl)
    have d1 : decide ((256 : Int) < (n : Int)) = true := by simp; omega
    go_enter Try.func10, Try.ntmps10
    go_wp2_with fail
    go_ret
    rw [hE.out]
    exact ⟨rfl, Below.refl _ _⟩
  · have hE := Lib.hid (show named L = rows n L by unfold named; rw [if_neg (by rw [← HN.out]; exact hbig), HN.out])
    have d1 : decide ((256 : Int) < (n : Int)) = false := by simp; omega
    go_enter Try.func10, Try.ntmps10
    go_wp2_with fail
    clear d1
    go_loopw [3] (fun v wr => ∃ i : Nat, i ≤ n ∧ v = .int .i64 i ∧ Hid (rows n (L.drop i) = rows n L) ∧ w = wr) (fun v _ => n - (intOf v).toNat)
    case atStart => exact ⟨0, by omega, rfl, Lib.hid rfl, by first | trivial | rfl⟩
    case round =>
      obtain ⟨i, hin, rfl, HE, rfl⟩ := hrel
      by_cases hlt : i < n
      · have hlt' : (i : Int) < n := by omega
        have hi' : i < L.length := by rw [← HN.out]; exact hlt
        obtain ⟨b, off, ha, b', c', hcell, hro⟩ := HP.out.row hlt
        subst ha
        have HD := Lib.hid (rows_drop (len := n) hi')
        generalize L[i]! = R at hcell hro HD
        obtain ⟨r, hr⟩ : ∃ r, r = R.length := ⟨_, rfl⟩
        rw [← hr] at hcell hro
        have HRL := Lib.hid hr
        have HRO := Lib.hid hro
        have hrb : r ≤ 9223372036854775807 := hro.len.2
        have hrc := hro.cap
        clear hr hro hi' hord
        go_wp2_with fail
        go_loopw [4] (fun v wq => ∃ k : Nat, k ≤ r ∧ v = .int .i64 k ∧ Hid (row n (R.take k) (R.drop k) = row n [] R) ∧ w = wq) (fun v _ => r - (intOf v).toNat)
        case atStart => exact ⟨0, by omega, rfl, Lib.hid rfl, by first | trivial | rfl⟩
        case round =>
          obtain ⟨k, hk, rfl, HEq, rfl⟩ := hrel
          by_cases hkr : k < r
          · have hkr' : (k : Int) < r := by omega
            have hkl : k < R.length := by rw [← HRL.out]; exact hkr
            have HTk := Lib.hid (take_at hkl)
            have HDk := HEq.out
            rw [drop_at hkl, row] at HDk
            have HDk := Lib.hid HDk
            obtain ⟨b2, off2, hb2, hci⟩ := HRO.out.at hkr
            subst hb2
            have hb2w : b2 < w.heap.size := by
              have := World.block_lt_of_cell? w _ hci
              simpa using this
            have hin := fun m => in_any _ _ m w (HRO.out.take (i := k) (by omega) hb2w)
            generalize hm : R.getD k 0 = m at hci HTk HDk
            have HMk := Lib.hid hm
            clear hm
            by_cases h0 : m < 0
            · have e1 := Lib.hid (show row n [] R = 1 by rw [← HDk.out, if_pos (.inl h0)])
              have HC := Lib.hid (show chk L = 1 by
                have h : named L = 1 := by rw [hE.out, ← HE.out, HD.out, e1.out]; rfl
                unfold chk; rw [h]; rfl)
              have d0 : decide (m < 0) = true := by simp [h0]
              clear hin
              go_wp2_with fail
              go_ret
              rw [HC.out]
              exact ⟨rfl, Below.refl _ _⟩
            · have d0 : decide (m < 0) = false := by simp; omega
              by_cases h1 : (n : Int) ≤ m
              · have e1 := Lib.hid (show row n [] R = 1 by rw [← HDk.out, if_pos (.inr h1)])
                have HC := Lib.hid (show chk L = 1 by
                  have h : named L = 1 := by rw [hE.out, ← HE.out, HD.out, e1.out]; rfl
                  unfold chk; rw [h]; rfl)
                have d1 : decide ((n : Int) ≤ m) = true := by simp [h1]
                clear hin
                go_wp2_with fail
                go_ret
                rw [HC.out]
                exact ⟨rfl, Below.refl _ _⟩
              · have d1 : decide ((n : Int) ≤ m) = false := by simp; omega
                have HDk2 := HDk.out
                rw [if_neg (by omega)] at HDk2
                have HDk2 := Lib.hid HDk2
                have hin1 := hin m
                clear hin
                cases hs : has (R.take k) m with
                | true =>
                  have e1 := Lib.hid (show row n [] R = 7 by rw [← HDk2.out, hs]; rfl)
                  have HC := Lib.hid (show chk L = 7 by
                    have h : named L = 7 := by rw [hE.out, ← HE.out, HD.out, e1.out]; rfl
                    unfold chk; rw [h]; rfl)
                  rw [hs] at hin1
                  go_wp2_with (go_at_call 20; refine hin1.mono ?_; rintro e ww ⟨rfl, rfl⟩)
                  go_ret
                  rw [HC.out]
                  exact ⟨rfl, Below.refl _ _⟩
                | false =>
                  have e1 := Lib.hid (show row n (R.take (k + 1)) (R.drop (k + 1)) = row n [] R by rw [← HDk2.out, hs, HTk.out]; rfl)
                  rw [hs] at hin1
                  go_wp2_with (go_at_call 20; refine hin1.mono ?_; rintro e ww ⟨rfl, rfl⟩)
                  go_roundw
                  case rel => exact ⟨k + 1, by omega, by go_num, e1, by first | trivial | rfl⟩
                  case measure => simp [intOf]; omega
          · have hge : ¬ (k : Int) < r := by omega
            have hkr' : k = r := by omega
            subst hkr'
            have hz0 := Lib.hid (show row n [] R = 0 by rw [← HEq.out, HRL.out, List.drop_length]; rfl)
            go_wp2_with fail
            go_roundw
            case rel => exact ⟨i + 1, by omega, by go_num, Lib.hid (by rw [← HE.out, HD.out, hz0.out, if_pos rfl]), by first | trivial | rfl⟩
            case measure => simp [intOf]; omega
      · have hge : ¬ (i : Int) < n := by omega
        have hi' : i = n := by omega
        subst hi'
        have hE2 := Lib.hid (show named L = 0 by rw [hE.out, ← HE.out, HN.out, List.drop_length]; rfl)
        obtain ⟨m, hm⟩ : ∃ m, m = (ord L i).length := ⟨_, rfl⟩
        have HM := Lib.hid hm
        rw [← hm] at hord
        clear hm
        by_cases hf : m < i
        · have hf' : (m : Int) < i := by omega
          have HC := Lib.hid (show chk L = 32 by unfold chk; rw [if_pos hE2.out, ← HN.out, ← HM.out, if_pos hf])
          go_wp2_with (go_at_call 12; refine hord.mono ?_; rintro e y1 ⟨⟨v, rfl, hown⟩, hb1⟩; obtain ⟨va, vc, rfl⟩ := own_form hown)
          go_ret
          rw [HC.out]
          exact ⟨rfl, hb1⟩
        · have hf' : ¬ (m : Int) < i := by omega
          have HC := Lib.hid (show chk L = 0 by unfold chk; rw [if_pos hE2.out, ← HN.out, ← HM.out, if_neg hf])
          go_wp2_with (go_at_call 12; refine hord.mono ?_; rintro e y1 ⟨⟨v, rfl, hown⟩, hb1⟩; obtain ⟨va, vc, rfl⟩ := own_form hown)
          go_ret
          rw [HC.out]
          exact ⟨rfl, hb1⟩
end Go.Proofs.Ytndpidmbfdpiaaa.Pn
