/- Scenes: the contracts of the document's small questions. -/
import Derived.Test.YtplcbdmiccpnnaaGreatC39
namespace Go.Proofs.YtplcbdmiccpnnaaGreat.Sc
open Go.RowKit Go.Proofs.YtplcbdmiccpnnaaGreat Go.Proofs.YtplcbdmiccpnnaaGreat.Wa Go.Proofs.YtplcbdmiccpnnaaGreat.Ve Go.Proofs.YtplcbdmiccpnnaaGreat.Tk
set_option linter.unusedVariables false

theorem sub1_wrap (n : Nat) (h : n ≤ 4611686018427387904) : IntKind.i64.wrap ((n : Int) - 1) = (n : Int) - 1 := by
  have e : IntKind.i64.wrap ((n : Int) - 1) = if 9223372036854775808 ≤ ((n : Int) - 1) % 18446744073709551616 then ((n : Int) - 1) % 18446744073709551616 - 18446744073709551616 else ((n : Int) - 1) % 18446744073709551616 := by simp [IntKind.wrap, IntKind.bits, IntKind.signed]
  rw [e]; split <;> omega

set_option maxHeartbeats 4000000 in
set_option maxRecDepth 100000 in
theorem rlight_any (x y z : Int) (w : World) : Calls Tryz.prog 82 #[V3 x y z] w fun e w' => e = .returned (.bool (lightB x y z)) ∧ Below w.heap.size w w' := by
  have key : ∀ p0 p1 p2 p3 p4 p5 : Bool, decide ((0 : Int) ≤ x) = p0 → decide (x ≤ (1048576 : Int)) = p1 → decide ((0 : Int) ≤ y) = p2 → decide (y ≤ (1048576 : Int)) = p3 → decide ((0 : Int) ≤ z) = p4 → decide (z ≤ (1048576 : Int)) = p5 → Calls Tryz.prog 82 #[V3 x y z] w fun e w' => e = .returned (.bool (p0 && (p1 && (p2 && (p3 && (p4 && p5)))))) ∧ Below w.heap.size w w' := by
    intro p0 p1 p2 p3 p4 p5 h0 h1 h2 h3 h4 h5
    cases p0
    · skip
      replace h0 := of_decide_eq_false h0
      clear h1
      clear h2
      clear h3
      clear h4
      clear h5
      go_enter Tryz.func82, Tryz.ntmps82
      go_wp2_with fail
      refine wp_loop_rounds 4 ?_
      rw [rounds_succ]
      go_wp2_with fail
      (try (rw [rounds_succ]; go_wp2_with fail))
      (try (rw [rounds_succ]; go_wp2_with fail))
      (try (rw [rounds_succ]; go_wp2_with fail))
      go_ret
      exact ⟨rfl, below_n1 _ _⟩
    · skip
      replace h0 := of_decide_eq_true h0
      cases p1
      · skip
        replace h1 := of_decide_eq_false h1
        clear h2
        clear h3
        clear h4
        clear h5
        go_enter Tryz.func82, Tryz.ntmps82
        go_wp2_with fail
        refine wp_loop_rounds 4 ?_
        rw [rounds_succ]
        go_wp2_with fail
        (try (rw [rounds_succ]; go_wp2_with fail))
        (try (rw [rounds_succ]; go_wp2_with fail))
        (try (rw [rounds_succ]; go_wp2_with fail))
        go_ret
        exact ⟨rfl, below_n1 _ _⟩
      · skip
        replace h1 := of_decide_eq_true h1
        cases p2
        · skip
          replace h2 := of_decide_eq_false h2
          clear h3
          clear h4
          clear h5
          go_enter Tryz.func82, Tryz.ntmps82
          go_wp2_with fail
          refine wp_loop_rounds 4 ?_
          rw [rounds_succ]
          go_wp2_with fail
          (try (rw [rounds_succ]; go_wp2_with fail))
          (try (rw [rounds_succ]; go_wp2_with fail))
          (try (rw [rounds_succ]; go_wp2_with fail))
          go_ret
          exact ⟨rfl, below_n1 _ _⟩
        · skip
          replace h2 := of_decide_eq_true h2
          cases p3
          · skip
            replace h3 := of_decide_eq_false h3
            clear h4
            clear h5
            go_enter Tryz.func82, Tryz.ntmps82
            go_wp2_with fail
            refine wp_loop_rounds 4 ?_
            rw [rounds_succ]
            go_wp2_with fail
            (try (rw [rounds_succ]; go_wp2_with fail))
            (try (rw [rounds_succ]; go_wp2_with fail))
            (try (rw [rounds_succ]; go_wp2_with fail))
            go_ret
            exact ⟨rfl, below_n1 _ _⟩
          · skip
            replace h3 := of_decide_eq_true h3
            cases p4
            · skip
              replace h4 := of_decide_eq_false h4
              clear h5
              go_enter Tryz.func82, Tryz.ntmps82
              go_wp2_with fail
              refine wp_loop_rounds 4 ?_
              rw [rounds_succ]
              go_wp2_with fail
              (try (rw [rounds_succ]; go_wp2_with fail))
              (try (rw [rounds_succ]; go_wp2_with fail))
              (try (rw [rounds_succ]; go_wp2_with fail))
              go_ret
              exact ⟨rfl, below_n1 _ _⟩
            · skip
              replace h4 := of_decide_eq_true h4
              cases p5
              · skip
                replace h5 := of_decide_eq_false h5
                go_enter Tryz.func82, Tryz.ntmps82
                go_wp2_with fail
                refine wp_loop_rounds 4 ?_
                rw [rounds_succ]
                go_wp2_with fail
                (try (rw [rounds_succ]; go_wp2_with fail))
                (try (rw [rounds_succ]; go_wp2_with fail))
                (try (rw [rounds_succ]; go_wp2_with fail))
                go_ret
                exact ⟨rfl, below_n1 _ _⟩
              · skip
                replace h5 := of_decide_eq_true h5
                go_enter Tryz.func82, Tryz.ntmps82
                go_wp2_with fail
                refine wp_loop_rounds 4 ?_
                rw [rounds_succ]
                go_wp2_with fail
                (try (rw [rounds_succ]; go_wp2_with fail))
                (try (rw [rounds_succ]; go_wp2_with fail))
                (try (rw [rounds_succ]; go_wp2_with fail))
                go_ret
                exact ⟨rfl, below_n1 _ _⟩
  have := key _ _ _ _ _ _ rfl rfl rfl rfl rfl rfl
  rwa [show ((decide ((0 : Int) ≤ x) && (decide (x ≤ (1048576 : Int)) && (decide ((0 : Int) ≤ y) && (decide (y ≤ (1048576 : Int)) && (decide ((0 : Int) ≤ z) && decide (z ≤ (1048576 : Int)))))))) = (lightB x y z) by rw [Bool.eq_iff_iff]; simp only [lightB, inB, Bool.and_eq_true, decide_eq_true_eq]; constructor <;> (intro h; simp only [and_assoc] at h ⊢; exact h)] at this

theorem rlight_is (x y z : Int) (v : Bool) (h : lightB x y z = v) (w : World) : Calls Tryz.prog 82 #[V3 x y z] w fun e w' => e = .returned (.bool v) ∧ Below w.heap.size w w' := by
  subst h; exact rlight_any x y z w

set_option maxHeartbeats 4000000 in
set_option maxRecDepth 100000 in
theorem rpoint_any (x y z : Int) (w : World) : Calls Tryz.prog 84 #[V3 x y z] w fun e w' => e = .returned (.bool (pointB x y z)) ∧ Below w.heap.size w w' := by
  have key : ∀ p0 p1 p2 p3 p4 p5 : Bool, decide ((-16777216 : Int) ≤ x) = p0 → decide (x ≤ (16777216 : Int)) = p1 → decide ((-16777216 : Int) ≤ y) = p2 → decide (y ≤ (16777216 : Int)) = p3 → decide ((-16777216 : Int) ≤ z) = p4 → decide (z ≤ (16777216 : Int)) = p5 → Calls Tryz.prog 84 #[V3 x y z] w fun e w' => e = .returned (.bool (p0 && (p1 && (p2 && (p3 && (p4 && p5)))))) ∧ Below w.heap.size w w' := by
    intro p0 p1 p2 p3 p4 p5 h0 h1 h2 h3 h4 h5
    cases p0
    · skip
      replace h0 := of_decide_eq_false h0
      clear h1
      clear h2
      clear h3
      clear h4
      clear h5
      go_enter Tryz.func84, Tryz.ntmps84
      go_wp2_with fail
      refine wp_loop_rounds 4 ?_
      rw [rounds_succ]
      go_wp2_with fail
      (try (rw [rounds_succ]; go_wp2_with fail))
      (try (rw [rounds_succ]; go_wp2_with fail))
      (try (rw [rounds_succ]; go_wp2_with fail))
      go_ret
      exact ⟨rfl, below_n1 _ _⟩
    · skip
      replace h0 := of_decide_eq_true h0
      cases p1
      · skip
        replace h1 := of_decide_eq_false h1
        clear h2
        clear h3
        clear h4
        clear h5
        go_enter Tryz.func84, Tryz.ntmps84
        go_wp2_with fail
        refine wp_loop_rounds 4 ?_
        rw [rounds_succ]
        go_wp2_with fail
        (try (rw [rounds_succ]; go_wp2_with fail))
        (try (rw [rounds_succ]; go_wp2_with fail))
        (try (rw [rounds_succ]; go_wp2_with fail))
        go_ret
        exact ⟨rfl, below_n1 _ _⟩
      · skip
        replace h1 := of_decide_eq_true h1
        cases p2
        · skip
          replace h2 := of_decide_eq_false h2
          clear h3
          clear h4
          clear h5
          go_enter Tryz.func84, Tryz.ntmps84
          go_wp2_with fail
          refine wp_loop_rounds 4 ?_
          rw [rounds_succ]
          go_wp2_with fail
          (try (rw [rounds_succ]; go_wp2_with fail))
          (try (rw [rounds_succ]; go_wp2_with fail))
          (try (rw [rounds_succ]; go_wp2_with fail))
          go_ret
          exact ⟨rfl, below_n1 _ _⟩
        · skip
          replace h2 := of_decide_eq_true h2
          cases p3
          · skip
            replace h3 := of_decide_eq_false h3
            clear h4
            clear h5
            go_enter Tryz.func84, Tryz.ntmps84
            go_wp2_with fail
            refine wp_loop_rounds 4 ?_
            rw [rounds_succ]
            go_wp2_with fail
            (try (rw [rounds_succ]; go_wp2_with fail))
            (try (rw [rounds_succ]; go_wp2_with fail))
            (try (rw [rounds_succ]; go_wp2_with fail))
            go_ret
            exact ⟨rfl, below_n1 _ _⟩
          · skip
            replace h3 := of_decide_eq_true h3
            cases p4
            · skip
              replace h4 := of_decide_eq_false h4
              clear h5
              go_enter Tryz.func84, Tryz.ntmps84
              go_wp2_with fail
              refine wp_loop_rounds 4 ?_
              rw [rounds_succ]
              go_wp2_with fail
              (try (rw [rounds_succ]; go_wp2_with fail))
              (try (rw [rounds_succ]; go_wp2_with fail))
              (try (rw [rounds_succ]; go_wp2_with fail))
              go_ret
              exact ⟨rfl, below_n1 _ _⟩
            · skip
              replace h4 := of_decide_eq_true h4
              cases p5
              · skip
                replace h5 := of_decide_eq_false h5
                go_enter Tryz.func84, Tryz.ntmps84
                go_wp2_with fail
                refine wp_loop_rounds 4 ?_
                rw [rounds_succ]
                go_wp2_with fail
                (try (rw [rounds_succ]; go_wp2_with fail))
                (try (rw [rounds_succ]; go_wp2_with fail))
                (try (rw [rounds_succ]; go_wp2_with fail))
                go_ret
                exact ⟨rfl, below_n1 _ _⟩
              · skip
                replace h5 := of_decide_eq_true h5
                go_enter Tryz.func84, Tryz.ntmps84
                go_wp2_with fail
                refine wp_loop_rounds 4 ?_
                rw [rounds_succ]
                go_wp2_with fail
                (try (rw [rounds_succ]; go_wp2_with fail))
                (try (rw [rounds_succ]; go_wp2_with fail))
                (try (rw [rounds_succ]; go_wp2_with fail))
                go_ret
                exact ⟨rfl, below_n1 _ _⟩
  have := key _ _ _ _ _ _ rfl rfl rfl rfl rfl rfl
  rwa [show ((decide ((-16777216 : Int) ≤ x) && (decide (x ≤ (16777216 : Int)) && (decide ((-16777216 : Int) ≤ y) && (decide (y ≤ (16777216 : Int)) && (decide ((-16777216 : Int) ≤ z) && decide (z ≤ (16777216 : Int)))))))) = (pointB x y z) by rw [Bool.eq_iff_iff]; simp only [pointB, inB, Bool.and_eq_true, decide_eq_true_eq]; constructor <;> (intro h; simp only [and_assoc] at h ⊢; exact h)] at this

theorem rpoint_is (x y z : Int) (v : Bool) (h : pointB x y z = v) (w : World) : Calls Tryz.prog 84 #[V3 x y z] w fun e w' => e = .returned (.bool v) ∧ Below w.heap.size w w' := by
  subst h; exact rpoint_any x y z w

set_option maxHeartbeats 4000000 in
set_option maxRecDepth 100000 in
theorem rhead_any (a0 a1 a2 a3 a4 a5 : Int) (a6 : Nat) (r g b : Int) (w : World) : Calls Tryz.prog 53 #[HV a0 a1 a2 a3 a4 a5 a6 r g b] w fun e w' => e = .returned (.bool (inB a0 1 64 && inB a1 1 64 && inB a2 1 16 && inB a3 1 6 && inB a4 1 32 && inB a5 0 65536 && lightB r g b)) ∧ Below w.heap.size w w' := by
  have key : ∀ p0 p1 p2 p3 p4 p5 p6 p7 : Bool, inB a0 1 64 = p0 → inB a1 1 64 = p1 → inB a2 1 16 = p2 → inB a3 1 6 = p3 → inB a4 1 32 = p4 → decide ((0 : Int) ≤ a5) = p5 → decide (a5 ≤ (65536 : Int)) = p6 → lightB r g b = p7 → Calls Tryz.prog 53 #[HV a0 a1 a2 a3 a4 a5 a6 r g b] w fun e w' => e = .returned (.bool (p0 && (p1 && (p2 && (p3 && (p4 && (p5 && (p6 && p7)))))))) ∧ Below w.heap.size w w' := by
    intro p0 p1 p2 p3 p4 p5 p6 p7 h0 h1 h2 h3 h4 h5 h6 h7
    have H0 := Lib.hid h0
    clear h0
    have H1 := Lib.hid h1
    clear h1
    have H2 := Lib.hid h2
    clear h2
    have H3 := Lib.hid h3
    clear h3
    have H4 := Lib.hid h4
    clear h4
    have H7 := Lib.hid h7
    clear h7
    cases p0
    · skip
      clear h5
      clear h6
      go_enter Tryz.func53, Tryz.ntmps53
      go_wp2_with (first | (go_at_call 81; with_reducible (first | refine (rin_is _ _ _ _ H0.out _).mono ?_ | refine (rin_is _ _ _ _ H1.out _).mono ?_ | refine (rin_is _ _ _ _ H2.out _).mono ?_ | refine (rin_is _ _ _ _ H3.out _).mono ?_ | refine (rin_is _ _ _ _ H4.out _).mono ?_); rintro e w' ⟨rfl, rfl⟩) | (go_at_call 82; with_reducible (refine (rlight_is _ _ _ _ H7.out _).mono ?_); rintro e w1 ⟨rfl, hb1⟩; obtain ⟨hc1, hf1⟩ := bcell hb1; have hz1 := hb1.size; simp at hz1; have hz2 : w.heap.size < w1.heap.size := (by omega)))
      go_ret
      exact ⟨rfl, by first | exact below_n1 _ _ | exact (below_n1 _ _).trans (hb1.mono (by simp))⟩
    · skip
      cases p1
      · skip
        clear h5
        clear h6
        go_enter Tryz.func53, Tryz.ntmps53
        go_wp2_with (first | (go_at_call 81; with_reducible (first | refine (rin_is _ _ _ _ H0.out _).mono ?_ | refine (rin_is _ _ _ _ H1.out _).mono ?_ | refine (rin_is _ _ _ _ H2.out _).mono ?_ | refine (rin_is _ _ _ _ H3.out _).mono ?_ | refine (rin_is _ _ _ _ H4.out _).mono ?_); rintro e w' ⟨rfl, rfl⟩) | (go_at_call 82; with_reducible (refine (rlight_is _ _ _ _ H7.out _).mono ?_); rintro e w1 ⟨rfl, hb1⟩; obtain ⟨hc1, hf1⟩ := bcell hb1; have hz1 := hb1.size; simp at hz1; have hz2 : w.heap.size < w1.heap.size := (by omega)))
        go_ret
        exact ⟨rfl, by first | exact below_n1 _ _ | exact (below_n1 _ _).trans (hb1.mono (by simp))⟩
      · skip
        cases p2
        · skip
          clear h5
          clear h6
          go_enter Tryz.func53, Tryz.ntmps53
          go_wp2_with (first | (go_at_call 81; with_reducible (first | refine (rin_is _ _ _ _ H0.out _).mono ?_ | refine (rin_is _ _ _ _ H1.out _).mono ?_ | refine (rin_is _ _ _ _ H2.out _).mono ?_ | refine (rin_is _ _ _ _ H3.out _).mono ?_ | refine (rin_is _ _ _ _ H4.out _).mono ?_); rintro e w' ⟨rfl, rfl⟩) | (go_at_call 82; with_reducible (refine (rlight_is _ _ _ _ H7.out _).mono ?_); rintro e w1 ⟨rfl, hb1⟩; obtain ⟨hc1, hf1⟩ := bcell hb1; have hz1 := hb1.size; simp at hz1; have hz2 : w.heap.size < w1.heap.size := (by omega)))
          go_ret
          exact ⟨rfl, by first | exact below_n1 _ _ | exact (below_n1 _ _).trans (hb1.mono (by simp))⟩
        · skip
          cases p3
          · skip
            clear h5
            clear h6
            go_enter Tryz.func53, Tryz.ntmps53
            go_wp2_with (first | (go_at_call 81; with_reducible (first | refine (rin_is _ _ _ _ H0.out _).mono ?_ | refine (rin_is _ _ _ _ H1.out _).mono ?_ | refine (rin_is _ _ _ _ H2.out _).mono ?_ | refine (rin_is _ _ _ _ H3.out _).mono ?_ | refine (rin_is _ _ _ _ H4.out _).mono ?_); rintro e w' ⟨rfl, rfl⟩) | (go_at_call 82; with_reducible (refine (rlight_is _ _ _ _ H7.out _).mono ?_); rintro e w1 ⟨rfl, hb1⟩; obtain ⟨hc1, hf1⟩ := bcell hb1; have hz1 := hb1.size; simp at hz1; have hz2 : w.heap.size < w1.heap.size := (by omega)))
            go_ret
            exact ⟨rfl, by first | exact below_n1 _ _ | exact (below_n1 _ _).trans (hb1.mono (by simp))⟩
          · skip
            cases p4
            · skip
              clear h5
              clear h6
              go_enter Tryz.func53, Tryz.ntmps53
              go_wp2_with (first | (go_at_call 81; with_reducible (first | refine (rin_is _ _ _ _ H0.out _).mono ?_ | refine (rin_is _ _ _ _ H1.out _).mono ?_ | refine (rin_is _ _ _ _ H2.out _).mono ?_ | refine (rin_is _ _ _ _ H3.out _).mono ?_ | refine (rin_is _ _ _ _ H4.out _).mono ?_); rintro e w' ⟨rfl, rfl⟩) | (go_at_call 82; with_reducible (refine (rlight_is _ _ _ _ H7.out _).mono ?_); rintro e w1 ⟨rfl, hb1⟩; obtain ⟨hc1, hf1⟩ := bcell hb1; have hz1 := hb1.size; simp at hz1; have hz2 : w.heap.size < w1.heap.size := (by omega)))
              go_ret
              exact ⟨rfl, by first | exact below_n1 _ _ | exact (below_n1 _ _).trans (hb1.mono (by simp))⟩
            · skip
              cases p5
              · skip
                replace h5 := of_decide_eq_false h5
                clear h6
                go_enter Tryz.func53, Tryz.ntmps53
                go_wp2_with (first | (go_at_call 81; with_reducible (first | refine (rin_is _ _ _ _ H0.out _).mono ?_ | refine (rin_is _ _ _ _ H1.out _).mono ?_ | refine (rin_is _ _ _ _ H2.out _).mono ?_ | refine (rin_is _ _ _ _ H3.out _).mono ?_ | refine (rin_is _ _ _ _ H4.out _).mono ?_); rintro e w' ⟨rfl, rfl⟩) | (go_at_call 82; with_reducible (refine (rlight_is _ _ _ _ H7.out _).mono ?_); rintro e w1 ⟨rfl, hb1⟩; obtain ⟨hc1, hf1⟩ := bcell hb1; have hz1 := hb1.size; simp at hz1; have hz2 : w.heap.size < w1.heap.size := (by omega)))
                go_ret
                exact ⟨rfl, by first | exact below_n1 _ _ | exact (below_n1 _ _).trans (hb1.mono (by simp))⟩
              · skip
                replace h5 := of_decide_eq_true h5
                cases p6
                · skip
                  replace h6 := of_decide_eq_false h6
                  go_enter Tryz.func53, Tryz.ntmps53
                  go_wp2_with (first | (go_at_call 81; with_reducible (first | refine (rin_is _ _ _ _ H0.out _).mono ?_ | refine (rin_is _ _ _ _ H1.out _).mono ?_ | refine (rin_is _ _ _ _ H2.out _).mono ?_ | refine (rin_is _ _ _ _ H3.out _).mono ?_ | refine (rin_is _ _ _ _ H4.out _).mono ?_); rintro e w' ⟨rfl, rfl⟩) | (go_at_call 82; with_reducible (refine (rlight_is _ _ _ _ H7.out _).mono ?_); rintro e w1 ⟨rfl, hb1⟩; obtain ⟨hc1, hf1⟩ := bcell hb1; have hz1 := hb1.size; simp at hz1; have hz2 : w.heap.size < w1.heap.size := (by omega)))
                  go_ret
                  exact ⟨rfl, by first | exact below_n1 _ _ | exact (below_n1 _ _).trans (hb1.mono (by simp))⟩
                · skip
                  replace h6 := of_decide_eq_true h6
                  cases p7
                  · skip
                    go_enter Tryz.func53, Tryz.ntmps53
                    go_wp2_with (first | (go_at_call 81; with_reducible (first | refine (rin_is _ _ _ _ H0.out _).mono ?_ | refine (rin_is _ _ _ _ H1.out _).mono ?_ | refine (rin_is _ _ _ _ H2.out _).mono ?_ | refine (rin_is _ _ _ _ H3.out _).mono ?_ | refine (rin_is _ _ _ _ H4.out _).mono ?_); rintro e w' ⟨rfl, rfl⟩) | (go_at_call 82; with_reducible (refine (rlight_is _ _ _ _ H7.out _).mono ?_); rintro e w1 ⟨rfl, hb1⟩; obtain ⟨hc1, hf1⟩ := bcell hb1; have hz1 := hb1.size; simp at hz1; have hz2 : w.heap.size < w1.heap.size := (by omega)))
                    go_ret
                    exact ⟨rfl, by first | exact below_n1 _ _ | exact (below_n1 _ _).trans (hb1.mono (by simp))⟩
                  · skip
                    go_enter Tryz.func53, Tryz.ntmps53
                    go_wp2_with (first | (go_at_call 81; with_reducible (first | refine (rin_is _ _ _ _ H0.out _).mono ?_ | refine (rin_is _ _ _ _ H1.out _).mono ?_ | refine (rin_is _ _ _ _ H2.out _).mono ?_ | refine (rin_is _ _ _ _ H3.out _).mono ?_ | refine (rin_is _ _ _ _ H4.out _).mono ?_); rintro e w' ⟨rfl, rfl⟩) | (go_at_call 82; with_reducible (refine (rlight_is _ _ _ _ H7.out _).mono ?_); rintro e w1 ⟨rfl, hb1⟩; obtain ⟨hc1, hf1⟩ := bcell hb1; have hz1 := hb1.size; simp at hz1; have hz2 : w.heap.size < w1.heap.size := (by omega)))
                    go_ret
                    exact ⟨rfl, by first | exact below_n1 _ _ | exact (below_n1 _ _).trans (hb1.mono (by simp))⟩
  have := key _ _ _ _ _ _ _ _ rfl rfl rfl rfl rfl rfl rfl rfl
  rwa [show ((inB a0 1 64 && (inB a1 1 64 && (inB a2 1 16 && (inB a3 1 6 && (inB a4 1 32 && (decide ((0 : Int) ≤ a5) && (decide (a5 ≤ (65536 : Int)) && lightB r g b)))))))) = (inB a0 1 64 && inB a1 1 64 && inB a2 1 16 && inB a3 1 6 && inB a4 1 32 && inB a5 0 65536 && lightB r g b) by rw [Bool.eq_iff_iff]; simp only [inB, Bool.and_eq_true, decide_eq_true_eq]; constructor <;> (intro h; simp only [and_assoc] at h ⊢; exact h)] at this

theorem rhead_is (s : Scn) (v : Bool) (h : hdB s = v) (w : World) : Calls Tryz.prog 53 #[HS s] w fun e w' => e = .returned (.bool v) ∧ Below w.heap.size w w' := by
  subst h; exact rhead_any _ _ _ _ _ _ _ _ _ _ w

set_option maxHeartbeats 4000000 in
set_option maxRecDepth 100000 in
theorem rpaint_any (k r g b q : Int) (w : World) : Calls Tryz.prog 54 #[.agg #[.int .i64 k, .int .i64 r, .int .i64 g, .int .i64 b, .int .i64 q]] w fun e w' => e = .returned (.bool (paintB k r g b q)) ∧ Below w.heap.size w w' := by
  have key : ∀ p0 p1 p2 p3 : Bool, inB k 0 3 = p0 → lightB r g b = p1 → decide ((0 : Int) ≤ q) = p2 → decide (q ≤ (65536 : Int)) = p3 → Calls Tryz.prog 54 #[.agg #[.int .i64 k, .int .i64 r, .int .i64 g, .int .i64 b, .int .i64 q]] w fun e w' => e = .returned (.bool (p0 && (p1 && (p2 && p3)))) ∧ Below w.heap.size w w' := by
    intro p0 p1 p2 p3 h0 h1 h2 h3
    have H0 := Lib.hid h0
    clear h0
    have H1 := Lib.hid h1
    clear h1
    cases p0
    · skip
      clear h2
      clear h3
      go_enter Tryz.func54, Tryz.ntmps54
      go_wp2_with (first | (go_at_call 81; with_reducible (first | refine (rin_is _ _ _ _ H0.out _).mono ?_); rintro e w' ⟨rfl, rfl⟩) | (go_at_call 82; with_reducible (refine (rlight_is _ _ _ _ H1.out _).mono ?_); rintro e w1 ⟨rfl, hb1⟩; obtain ⟨hc1, hf1⟩ := bcell hb1; have hz1 := hb1.size; simp at hz1; have hz2 : w.heap.size < w1.heap.size := (by omega)))
      go_ret
      exact ⟨by first | rfl | (simp; omega), by first | exact below_n1 _ _ | exact (below_n1 _ _).trans (hb1.mono (by simp))⟩
    · skip
      cases p1
      · skip
        clear h2
        clear h3
        go_enter Tryz.func54, Tryz.ntmps54
        go_wp2_with (first | (go_at_call 81; with_reducible (first | refine (rin_is _ _ _ _ H0.out _).mono ?_); rintro e w' ⟨rfl, rfl⟩) | (go_at_call 82; with_reducible (refine (rlight_is _ _ _ _ H1.out _).mono ?_); rintro e w1 ⟨rfl, hb1⟩; obtain ⟨hc1, hf1⟩ := bcell hb1; have hz1 := hb1.size; simp at hz1; have hz2 : w.heap.size < w1.heap.size := (by omega)))
        go_ret
        exact ⟨by first | rfl | (simp; omega), by first | exact below_n1 _ _ | exact (below_n1 _ _).trans (hb1.mono (by simp))⟩
      · skip
        cases p2
        · skip
          replace h2 := of_decide_eq_false h2
          clear h3
          go_enter Tryz.func54, Tryz.ntmps54
          go_wp2_with (first | (go_at_call 81; with_reducible (first | refine (rin_is _ _ _ _ H0.out _).mono ?_); rintro e w' ⟨rfl, rfl⟩) | (go_at_call 82; with_reducible (refine (rlight_is _ _ _ _ H1.out _).mono ?_); rintro e w1 ⟨rfl, hb1⟩; obtain ⟨hc1, hf1⟩ := bcell hb1; have hz1 := hb1.size; simp at hz1; have hz2 : w.heap.size < w1.heap.size := (by omega)))
          go_ret
          exact ⟨by first | rfl | (simp; omega), by first | exact below_n1 _ _ | exact (below_n1 _ _).trans (hb1.mono (by simp))⟩
        · skip
          replace h2 := of_decide_eq_true h2
          cases p3
          · skip
            replace h3 := of_decide_eq_false h3
            go_enter Tryz.func54, Tryz.ntmps54
            go_wp2_with (first | (go_at_call 81; with_reducible (first | refine (rin_is _ _ _ _ H0.out _).mono ?_); rintro e w' ⟨rfl, rfl⟩) | (go_at_call 82; with_reducible (refine (rlight_is _ _ _ _ H1.out _).mono ?_); rintro e w1 ⟨rfl, hb1⟩; obtain ⟨hc1, hf1⟩ := bcell hb1; have hz1 := hb1.size; simp at hz1; have hz2 : w.heap.size < w1.heap.size := (by omega)))
            go_ret
            exact ⟨by first | rfl | (simp; omega), by first | exact below_n1 _ _ | exact (below_n1 _ _).trans (hb1.mono (by simp))⟩
          · skip
            replace h3 := of_decide_eq_true h3
            go_enter Tryz.func54, Tryz.ntmps54
            go_wp2_with (first | (go_at_call 81; with_reducible (first | refine (rin_is _ _ _ _ H0.out _).mono ?_); rintro e w' ⟨rfl, rfl⟩) | (go_at_call 82; with_reducible (refine (rlight_is _ _ _ _ H1.out _).mono ?_); rintro e w1 ⟨rfl, hb1⟩; obtain ⟨hc1, hf1⟩ := bcell hb1; have hz1 := hb1.size; simp at hz1; have hz2 : w.heap.size < w1.heap.size := (by omega)))
            go_ret
            exact ⟨by first | rfl | (simp; omega), by first | exact below_n1 _ _ | exact (below_n1 _ _).trans (hb1.mono (by simp))⟩
  have := key _ _ _ _ rfl rfl rfl rfl
  rwa [show ((inB k 0 3 && (lightB r g b && (decide ((0 : Int) ≤ q) && decide (q ≤ (65536 : Int)))))) = (paintB k r g b q) by rw [Bool.eq_iff_iff]; simp only [paintB, inB, Bool.and_eq_true, decide_eq_true_eq]; constructor <;> (intro h; simp only [and_assoc] at h ⊢; exact h)] at this

set_option maxHeartbeats 4000000 in
set_option maxRecDepth 100000 in
theorem rlens_any (s : Scn) (a : Pla) (hnt : s.nt ≤ 4611686018427387904) (w : World) : Calls Tryz.prog 58 #[SV s a] w fun e w' => e = .returned (.bool (lnB s)) ∧ Below w.heap.size w w' := by
  have key : ∀ p0 p1 p2 p3 : Bool, inB s.ey 0 ((s.nt : Int) - 1) = p0 → inB s.lk 0 ((s.nt : Int) - 1) = p1 → decide ((1 : Int) ≤ s.wd) = p2 → decide (s.wd ≤ (524288 : Int)) = p3 → Calls Tryz.prog 58 #[SV s a] w fun e w' => e = .returned (.bool (p0 && (p1 && (p2 && p3)))) ∧ Below w.heap.size w w' := by
    intro p0 p1 p2 p3 h0 h1 h2 h3
    have H0 := Lib.hid h0
    clear h0
    have H1 := Lib.hid h1
    clear h1
    cases p0
    · skip
      clear h2
      clear h3
      go_enter Tryz.func58, Tryz.ntmps58
      have hw := sub1_wrap s.nt hnt
      go_wp2_with (first | (go_at_call 81; with_reducible (first | refine (rin_is _ _ _ _ H0.out _).mono ?_ | refine (rin_is _ _ _ _ H1.out _).mono ?_); rintro e w' ⟨rfl, rfl⟩))
      go_ret
      exact ⟨by first | rfl | (simp; omega), below_n1 _ _⟩
    · skip
      cases p1
      · skip
        clear h2
        clear h3
        go_enter Tryz.func58, Tryz.ntmps58
        have hw := sub1_wrap s.nt hnt
        go_wp2_with (first | (go_at_call 81; with_reducible (first | refine (rin_is _ _ _ _ H0.out _).mono ?_ | refine (rin_is _ _ _ _ H1.out _).mono ?_); rintro e w' ⟨rfl, rfl⟩))
        go_ret
        exact ⟨by first | rfl | (simp; omega), below_n1 _ _⟩
      · skip
        cases p2
        · skip
          replace h2 := of_decide_eq_false h2
          clear h3
          go_enter Tryz.func58, Tryz.ntmps58
          have hw := sub1_wrap s.nt hnt
          go_wp2_with (first | (go_at_call 81; with_reducible (first | refine (rin_is _ _ _ _ H0.out _).mono ?_ | refine (rin_is _ _ _ _ H1.out _).mono ?_); rintro e w' ⟨rfl, rfl⟩))
          go_ret
          exact ⟨by first | rfl | (simp; omega), below_n1 _ _⟩
        · skip
          replace h2 := of_decide_eq_true h2
          cases p3
          · skip
            replace h3 := of_decide_eq_false h3
            go_enter Tryz.func58, Tryz.ntmps58
            have hw := sub1_wrap s.nt hnt
            go_wp2_with (first | (go_at_call 81; with_reducible (first | refine (rin_is _ _ _ _ H0.out _).mono ?_ | refine (rin_is _ _ _ _ H1.out _).mono ?_); rintro e w' ⟨rfl, rfl⟩))
            go_ret
            exact ⟨by first | rfl | (simp; omega), below_n1 _ _⟩
          · skip
            replace h3 := of_decide_eq_true h3
            go_enter Tryz.func58, Tryz.ntmps58
            have hw := sub1_wrap s.nt hnt
            go_wp2_with (first | (go_at_call 81; with_reducible (first | refine (rin_is _ _ _ _ H0.out _).mono ?_ | refine (rin_is _ _ _ _ H1.out _).mono ?_); rintro e w' ⟨rfl, rfl⟩))
            go_ret
            exact ⟨by first | rfl | (simp; omega), below_n1 _ _⟩
  have := key _ _ _ _ rfl rfl rfl rfl
  rwa [show ((inB s.ey 0 ((s.nt : Int) - 1) && (inB s.lk 0 ((s.nt : Int) - 1) && (decide ((1 : Int) ≤ s.wd) && decide (s.wd ≤ (524288 : Int)))))) = (lnB s) by rw [Bool.eq_iff_iff]; simp only [lnB, inB, Bool.and_eq_true, decide_eq_true_eq]; constructor <;> (intro h; simp only [and_assoc] at h ⊢; exact h)] at this

set_option maxHeartbeats 4000000 in
set_option maxRecDepth 100000 in
theorem rjoint_row (s : Scn) (a : Pla) (b off i : Nat) (y0 y1 y2 y3 : Int) (hja : a.ja = some ⟨b, off, none⟩) (hi : i < s.nj) (hnj : s.nj ≤ 4611686018427387904) (hnt : s.nt ≤ 4611686018427387904) (w : World) (hb : b < w.heap.size) (HF : Hid (w.cell? ⟨b, off + i * 4, none⟩ = some (.int .i64 (y0)) ∧ w.cell? ⟨b, off + i * 4 + 1, none⟩ = some (.int .i64 (y1)) ∧ w.cell? ⟨b, off + i * 4 + 2, none⟩ = some (.int .i64 (y2)) ∧ w.cell? ⟨b, off + i * 4 + 3, none⟩ = some (.int .i64 (y3)))) : Calls Tryz.prog 56 #[SV s a, .int .i64 i] w fun e w' => e = .returned (.bool (jointB i s.nt y0 y1 y2 y3)) ∧ Below w.heap.size w w' := by
  have key : ∀ p0 p1 p2 p3 p4 : Bool, inB y0 (-1) ((i : Int) - 1) = p0 → inB y1 (-1) ((s.nt : Int) - 1) = p1 → inB y2 (-1) ((s.nt : Int) - 1) = p2 → decide ((1 : Int) ≤ y3) = p3 → decide (y3 ≤ (4194304 : Int)) = p4 → Calls Tryz.prog 56 #[SV s a, .int .i64 i] w fun e w' => e = .returned (.bool (p0 && (p1 && (p2 && (p3 && p4))))) ∧ Below w.heap.size w w' := by
    intro p0 p1 p2 p3 p4 h0 h1 h2 h3 h4
    have H0 := Lib.hid h0
    clear h0
    have H1 := Lib.hid h1
    clear h1
    have H2 := Lib.hid h2
    clear h2
    cases p0
    · skip
      clear h3
      clear h4
      obtain ⟨pa, pc, ta, tc, ja, jc, sa, sc⟩ := a
      simp only at hja
      subst hja
      go_enter Tryz.func56, Tryz.ntmps56
      obtain ⟨f0, f1, f2, f3⟩ := HF.out
      have hw := sub1_wrap s.nt hnt
      have hw2 := sub1_wrap i (by omega)
      go_wp2_with (first | (go_at_call 81; with_reducible (first | refine (rin_is _ _ _ _ H0.out _).mono ?_ | refine (rin_is _ _ _ _ H1.out _).mono ?_ | refine (rin_is _ _ _ _ H2.out _).mono ?_); rintro e w' ⟨rfl, rfl⟩))
      go_ret
      exact ⟨by first | rfl | (simp; omega), below_n2 _ _ _⟩
    · skip
      cases p1
      · skip
        clear h3
        clear h4
        obtain ⟨pa, pc, ta, tc, ja, jc, sa, sc⟩ := a
        simp only at hja
        subst hja
        go_enter Tryz.func56, Tryz.ntmps56
        obtain ⟨f0, f1, f2, f3⟩ := HF.out
        have hw := sub1_wrap s.nt hnt
        have hw2 := sub1_wrap i (by omega)
        go_wp2_with (first | (go_at_call 81; with_reducible (first | refine (rin_is _ _ _ _ H0.out _).mono ?_ | refine (rin_is _ _ _ _ H1.out _).mono ?_ | refine (rin_is _ _ _ _ H2.out _).mono ?_); rintro e w' ⟨rfl, rfl⟩))
        go_ret
        exact ⟨by first | rfl | (simp; omega), below_n2 _ _ _⟩
      · skip
        cases p2
        · skip
          clear h3
          clear h4
          obtain ⟨pa, pc, ta, tc, ja, jc, sa, sc⟩ := a
          simp only at hja
          subst hja
          go_enter Tryz.func56, Tryz.ntmps56
          obtain ⟨f0, f1, f2, f3⟩ := HF.out
          have hw := sub1_wrap s.nt hnt
          have hw2 := sub1_wrap i (by omega)
          go_wp2_with (first | (go_at_call 81; with_reducible (first | refine (rin_is _ _ _ _ H0.out _).mono ?_ | refine (rin_is _ _ _ _ H1.out _).mono ?_ | refine (rin_is _ _ _ _ H2.out _).mono ?_); rintro e w' ⟨rfl, rfl⟩))
          go_ret
          exact ⟨by first | rfl | (simp; omega), below_n2 _ _ _⟩
        · skip
          cases p3
          · skip
            replace h3 := of_decide_eq_false h3
            clear h4
            obtain ⟨pa, pc, ta, tc, ja, jc, sa, sc⟩ := a
            simp only at hja
            subst hja
            go_enter Tryz.func56, Tryz.ntmps56
            obtain ⟨f0, f1, f2, f3⟩ := HF.out
            have hw := sub1_wrap s.nt hnt
            have hw2 := sub1_wrap i (by omega)
            go_wp2_with (first | (go_at_call 81; with_reducible (first | refine (rin_is _ _ _ _ H0.out _).mono ?_ | refine (rin_is _ _ _ _ H1.out _).mono ?_ | refine (rin_is _ _ _ _ H2.out _).mono ?_); rintro e w' ⟨rfl, rfl⟩))
            go_ret
            exact ⟨by first | rfl | (simp; omega), below_n2 _ _ _⟩
          · skip
            replace h3 := of_decide_eq_true h3
            cases p4
            · skip
              replace h4 := of_decide_eq_false h4
              obtain ⟨pa, pc, ta, tc, ja, jc, sa, sc⟩ := a
              simp only at hja
              subst hja
              go_enter Tryz.func56, Tryz.ntmps56
              obtain ⟨f0, f1, f2, f3⟩ := HF.out
              have hw := sub1_wrap s.nt hnt
              have hw2 := sub1_wrap i (by omega)
              go_wp2_with (first | (go_at_call 81; with_reducible (first | refine (rin_is _ _ _ _ H0.out _).mono ?_ | refine (rin_is _ _ _ _ H1.out _).mono ?_ | refine (rin_is _ _ _ _ H2.out _).mono ?_); rintro e w' ⟨rfl, rfl⟩))
              go_ret
              exact ⟨by first | rfl | (simp; omega), below_n2 _ _ _⟩
            · skip
              replace h4 := of_decide_eq_true h4
              obtain ⟨pa, pc, ta, tc, ja, jc, sa, sc⟩ := a
              simp only at hja
              subst hja
              go_enter Tryz.func56, Tryz.ntmps56
              obtain ⟨f0, f1, f2, f3⟩ := HF.out
              have hw := sub1_wrap s.nt hnt
              have hw2 := sub1_wrap i (by omega)
              go_wp2_with (first | (go_at_call 81; with_reducible (first | refine (rin_is _ _ _ _ H0.out _).mono ?_ | refine (rin_is _ _ _ _ H1.out _).mono ?_ | refine (rin_is _ _ _ _ H2.out _).mono ?_); rintro e w' ⟨rfl, rfl⟩))
              go_ret
              exact ⟨by first | rfl | (simp; omega), below_n2 _ _ _⟩
  have := key _ _ _ _ _ rfl rfl rfl rfl rfl
  rwa [show ((inB y0 (-1) ((i : Int) - 1) && (inB y1 (-1) ((s.nt : Int) - 1) && (inB y2 (-1) ((s.nt : Int) - 1) && (decide ((1 : Int) ≤ y3) && decide (y3 ≤ (4194304 : Int))))))) = (jointB i s.nt y0 y1 y2 y3) by rw [Bool.eq_iff_iff]; simp only [jointB, inB, Bool.and_eq_true, decide_eq_true_eq]; constructor <;> (intro h; simp only [and_assoc] at h ⊢; exact h)] at this

end Go.Proofs.YtplcbdmiccpnnaaGreat.Sc
