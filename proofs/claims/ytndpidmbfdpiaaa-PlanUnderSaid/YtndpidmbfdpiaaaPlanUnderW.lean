/- PlanUnder (zoetropelaw25), the walk: all that any step needs, and how many need one another in a row, are the document's. -/
import Derived.Test.YtndpidmbfdpiaaaPns
import Derived.Test.YtndpidmbfdpiaaaPnq
import Derived.Test.YtndpidmbfdpiaaaPnl
import Derived.Test.YtndpidmbfdpiaaaPnn
import Derived.Test.YtndpidmbfdpiaaaShelfZ
namespace Go.Proofs.Ytndpidmbfdpiaaa.planUnderW
open Go Go.RowKit Go.Sort Go.Proofs Go.Proofs.Ytndpidmbfdpiaaa Go.Proofs.Ytndpidmbfdpiaaa.Au Go.Proofs.Ytndpidmbfdpiaaa.Re Go.Proofs.Ytndpidmbfdpiaaa.Pn
set_option linter.unusedVariables false
set_option linter.unusedSimpArgs false

theorem sorts : Sorts := ⟨fun blk off cap zs w hH hb hz => ShZ.slices_Sort_int blk off cap zs w hH hb hz, fun p cap w => ShZ.slices_Sort_int_none p cap w⟩

set_option maxHeartbeats 4000000 in
set_option maxRecDepth 100000 in
theorem walk (a : Option Addr) (n c : Nat) (L : List (List Int)) (q : Int) (w : World) (hP : PAt w a n L) :
    Calls Try.prog 4 #[.slice a n c, .int .i64 q] w fun e w' => e = .returned (.bool true) ∧ Below w.heap.size w w' := by
  have hn := hP.1
  have HP := Lib.hid hP
  have HN := Lib.hid hn
  have hlight := light_any a c n L w hn hP
  have hrc := rcheck_any a c n L w hn hP
  have hdp := fun y hb => deep_any a c n L y hn (HP.out.on hb)
  clear hn hP
  cases hl : lightB L with
  | false =>
    rw [hl] at hlight
    go_enter Try.func4, Try.ntmps4
    go_wp2_with (first
      | (go_at_call 6; refine hlight.mono ?_; rintro e ww ⟨rfl, rfl⟩)
      | (go_at_call 7; refine (awake_any _).mono ?_; rintro e y1 ⟨rfl, hb1⟩))
    go_ret
    exact ⟨rfl, hb1⟩
  | true =>
    rw [hl] at hlight
    by_cases h14 : n ≤ 14
    · have d1 : decide ((14 : Int) < (n : Int)) = false := by simp; omega
      by_cases h0 : chk L = 0
      · rw [h0] at hrc
        have HW := Lib.hid (whole_ord (chk_full h0))
        have HF := Lib.hid (named_fits (chk_named h0))
        have hld := fun y hb => ldeep_any a c n L (ord L L.length) HN.out (by omega) HW.out y (HP.out.on hb)
        have hDp : deepP L = mxk (dp L) (upto n) n := by
          have h1 := mx_all HW.out (dp L)
          have h2 := HW.out.len
          rw [h2] at h1
          unfold deepP
          rw [if_pos h0, h1, ← HN.out]
        rw [hDp] at hdp
        obtain ⟨D, hD⟩ : ∃ D, D = mxk (dp L) (upto n) n := ⟨_, rfl⟩
        rw [← hD] at hdp hld
        clear hD hDp
        by_cases h1 : q < 0
        · have d0 : decide (q < 0) = true := by simp [h1]
          have hun := fun y hb => under_no a c n L q y HN.out (.inl h1) (HP.out.on hb)
          clear h0
          go_enter Try.func4, Try.ntmps4
          go_wp2_with (first
            | (go_at_call 6; refine hlight.mono ?_; rintro e ww ⟨rfl, rfl⟩)
            | (go_at_call 10; refine hrc.mono ?_; rintro e y1 ⟨rfl, hb1⟩)
            | (go_at_call 7; refine (awake_any _).mono ?_; rintro e y2 ⟨rfl, hb2⟩; have hw2 := hb1.trans (hb2.mono hb1.size))
            | (go_at_call 13; refine (hun y2 hw2).mono ?_; rintro e y3 ⟨rfl, hb3⟩; have hw3 := hw2.trans (hb3.mono hw2.size))
            | (go_at_call 14; refine (hdp y3 hw3).mono ?_; rintro e y4 ⟨rfl, hb4⟩; have hw4 := hw3.trans (hb4.mono hw3.size))
            | (go_at_call 15; refine (hld y4 hw4).mono ?_; rintro e ww ⟨rfl, rfl⟩))
          go_ret
          exact ⟨rfl, hw4⟩
        · have d0 : decide (q < 0) = false := by simp; omega
          by_cases h2 : (n : Int) ≤ q
          · have d2 : decide ((n : Int) ≤ q) = true := by simp [h2]
            have hun := fun y hb => under_no a c n L q y HN.out (.inr (.inl h2)) (HP.out.on hb)
            clear h0
            go_enter Try.func4, Try.ntmps4
            go_wp2_with (first
              | (go_at_call 6; refine hlight.mono ?_; rintro e ww ⟨rfl, rfl⟩)
              | (go_at_call 10; refine hrc.mono ?_; rintro e y1 ⟨rfl, hb1⟩)
              | (go_at_call 7; refine (awake_any _).mono ?_; rintro e y2 ⟨rfl, hb2⟩; have hw2 := hb1.trans (hb2.mono hb1.size))
              | (go_at_call 13; refine (hun y2 hw2).mono ?_; rintro e y3 ⟨rfl, hb3⟩; have hw3 := hw2.trans (hb3.mono hw2.size))
              | (go_at_call 14; refine (hdp y3 hw3).mono ?_; rintro e y4 ⟨rfl, hb4⟩; have hw4 := hw3.trans (hb4.mono hw3.size))
              | (go_at_call 15; refine (hld y4 hw4).mono ?_; rintro e ww ⟨rfl, rfl⟩))
            go_ret
            exact ⟨rfl, hw4⟩
          · have d2 : decide ((n : Int) ≤ q) = false := by simp; omega
            obtain ⟨k, hk⟩ : ∃ k : Nat, q = (k : Int) := ⟨q.toNat, by omega⟩
            subst hk
            have hkn : k < n := by omega
            have hun := fun y hb => under_yes sorts a c n L k y HN.out hkn h0 (HP.out.on hb)
            have hru := fun y hb => runder_any a c n L HF.out k y HN.out (by omega) hkn (HP.out.on hb)
            obtain ⟨U, hU⟩ : ∃ U, U = sorted L (rr L L[k]! n) n := ⟨_, rfl⟩
            rw [← hU] at hun hru
            have hUn : U.length ≤ 100 := by
              rw [hU]
              unfold sorted
              rw [List.length_map]
              exact Nat.le_trans (List.length_filter_le _ _) (by simp; omega)
            obtain ⟨m, hm⟩ : ∃ m, m = U.length := ⟨_, rfl⟩
            rw [← hm] at hru hUn
            have hS := fun v1 v2 (y : World) (h1 : Ro y v1 U) (h2 : Ro y v2 U) => same_any v1 v2 U U y h1 h2
            rw [show decide (U = U) = true from decide_eq_true rfl] at hS
            clear h0 hU hm
            go_enter Try.func4, Try.ntmps4
            go_wp2_with (first
              | (go_at_call 6; refine hlight.mono ?_; rintro e ww ⟨rfl, rfl⟩)
              | (go_at_call 10; refine hrc.mono ?_; rintro e y1 ⟨rfl, hb1⟩)
              | (go_at_call 7; refine (awake_any _).mono ?_; rintro e y2 ⟨rfl, hb2⟩; have hw2 := hb1.trans (hb2.mono hb1.size))
              | (go_at_call 13; refine (hun y2 hw2).mono ?_; rintro e y3 ⟨⟨v3, rfl, hr3⟩, hb3⟩; have hw3 := hw2.trans (hb3.mono hw2.size))
              | (go_at_call 16; refine (hru y3 hw3).mono ?_; rintro e y4 ⟨⟨v4, rfl, hown4⟩, hb4⟩; have hw4 := hw3.trans (hb4.mono hw3.size); have hSa := hS v3 v4 y4 (hr3.on hb4) (own_ro hown4 (by omega)))
              | (go_at_call 11; refine hSa.mono ?_; rintro e y5 ⟨rfl, hb5⟩; have hw5 := hw4.trans (hb5.mono hw4.size))
              | (go_at_call 14; refine (hdp y5 hw5).mono ?_; rintro e y6 ⟨rfl, hb6⟩; have hw6 := hw5.trans (hb6.mono hw5.size))
              | (go_at_call 15; refine (hld y6 hw6).mono ?_; rintro e ww ⟨rfl, rfl⟩))
            go_ret
            exact ⟨rfl, hw6⟩
      · have hDp : deepP L = 0 := by unfold deepP; rw [if_neg h0]
        rw [hDp] at hdp
        have hun := fun y hb => under_no a c n L q y HN.out (.inr (.inr h0)) (HP.out.on hb)
        obtain ⟨E, hE⟩ : ∃ E, E = chk L := ⟨_, rfl⟩
        rw [← hE] at hrc h0
        have d0 : decide (E = 0) = false := by simp [h0]
        clear hE hDp
        go_enter Try.func4, Try.ntmps4
        go_wp2_with (first
          | (go_at_call 6; refine hlight.mono ?_; rintro e ww ⟨rfl, rfl⟩)
          | (go_at_call 10; refine hrc.mono ?_; rintro e y1 ⟨rfl, hb1⟩)
          | (go_at_call 7; refine (awake_any _).mono ?_; rintro e y2 ⟨rfl, hb2⟩; have hw2 := hb1.trans (hb2.mono hb1.size))
          | (go_at_call 13; refine (hun y2 hw2).mono ?_; rintro e y3 ⟨rfl, hb3⟩; have hw3 := hw2.trans (hb3.mono hw2.size))
          | (go_at_call 14; refine (hdp y3 hw3).mono ?_; rintro e y4 ⟨rfl, hb4⟩; have hw4 := hw3.trans (hb4.mono hw3.size)))
        go_ret
        exact ⟨rfl, hw4⟩
    · have d1 : decide ((14 : Int) < (n : Int)) = true := by simp; omega
      go_enter Try.func4, Try.ntmps4
      go_wp2_with (first
        | (go_at_call 6; refine hlight.mono ?_; rintro e ww ⟨rfl, rfl⟩)
        | (go_at_call 7; refine (awake_any _).mono ?_; rintro e y1 ⟨rfl, hb1⟩))
      go_ret
      exact ⟨rfl, hb1⟩
end Go.Proofs.Ytndpidmbfdpiaaa.planUnderW
