/- Scenes: the contracts of the document's small questions. -/
import Derived.Test.YtfeihojobmagnaaSr
namespace Go.Proofs.Ytfeihojobmagnaa.Sc
open Go.RowKit Go.Proofs.Ytfeihojobmagnaa Go.Proofs.Ytfeihojobmagnaa.Wa Go.Proofs.Ytfeihojobmagnaa.Ve Go.Proofs.Ytfeihojobmagnaa.Tk
set_option linter.unusedVariables false

theorem sub1_wrap (n : Nat) (h : n ≤ 4611686018427387904) : IntKind.i64.wrap ((n : Int) - 1) = (n : Int) - 1 := by
  have e : IntKind.i64.wrap ((n : Int) - 1) = if 9223372036854775808 ≤ ((n : Int) - 1) % 18446744073709551616 then ((n : Int) - 1) % 18446744073709551616 - 18446744073709551616 else ((n : Int) - 1) % 18446744073709551616 := by simp [IntKind.wrap, IntKind.bits, IntKind.signed]
  rw [e]; split <;> omega

set_option maxHeartbeats 4000000 in
set_option maxRecDepth 100000 in
theorem rlight_any (x y z : Int) (w : World) : Calls Try.prog 62 #[V3 x y z] w fun e w' => e = .returned (.bool (lightB x y z)) ∧ Below w.heap.size w w' := by
  have key : ∀ p0 p1 p2 p3 p4 p5 : Bool, decide ((0 : Int) ≤ x) = p0 → decide (x ≤ (1048576 : Int)) = p1 → decide ((0 : Int) ≤ y) = p2 → decide (y ≤ (1048576 : Int)) = p3 → decide ((0 : Int) ≤ z) = p4 → decide (z ≤ (1048576 : Int)) = p5 → Calls Try.prog 62 #[V3 x y z] w fun e w' => e = .returned (.bool (p0 && (p1 && (p2 && (p3 && (p4 && p5)))))) ∧ Below w.heap.size w w' := by
    intro p0 p1 p2 p3 p4 p5 h0 h1 h2 h3 h4 h5
    cases p0
    · skip
      replace h0 := of_decide_eq_false h0
      clear h1
      clear h2
      clear h3
      clear h4
      clear h5
      go_enter Try.func62, Try.ntmps62
      go_wp2_with fail
      refine wp_loop_rounds 4 ?_
      rw [rounds_succ]
      go_wp2_with fail
      (try (rw [rounds_succ]; go_wp2_with fail))
      (try (rw [rounds_succ]; go_wp2_with fail))
      (try (rw [rounds_succ]; go_wp2_with fail))
      go_ret
      exact ⟨rfl, below_n1 _ _⟩
    · skip
      replace h0 := of_decide_eq_true h0
      cases p1
      · skip
        replace h1 := of_decide_eq_false h1
        clear h2
        clear h3
        clear h4
        clear h5
        go_enter Try.func62, Try.ntmps62
        go_wp2_with fail
        refine wp_loop_rounds 4 ?_
        rw [rounds_succ]
        go_wp2_with fail
        (try (rw [rounds_succ]; go_wp2_with fail))
        (try (rw [rounds_succ]; go_wp2_with fail))
        (try (rw [rounds_succ]; go_wp2_with fail))
        go_ret
        exact ⟨rfl, below_n1 _ _⟩
      · skip
        replace h1 := of_decide_eq_true h1
        cases p2
        · skip
          replace h2 := of_decide_eq_false h2
          clear h3
          clear h4
          clear h5
          go_enter Try.func62, Try.ntmps62
          go_wp2_with fail
          refine wp_loop_rounds 4 ?_
          rw [rounds_succ]
          go_wp2_with fail
          (try (rw [rounds_succ]; go_wp2_with fail))
          (try (rw [rounds_succ]; go_wp2_with fail))
          (try (rw [rounds_succ]; go_wp2_with fail))
          go_ret
          exact ⟨rfl, below_n1 _ _⟩
        · skip
          replace h2 := of_decide_eq_true h2
          cases p3
          · skip
            replace h3 := of_decide_eq_false h3
            clear h4
            clear h5
            go_enter Try.func62, Try.ntmps62
            go_wp2_with fail
            refine wp_loop_rounds 4 ?_
            rw [rounds_succ]
            go_wp2_with fail
            (try (rw [rounds_succ]; go_wp2_with fail))
            (try (rw [rounds_succ]; go_wp2_with fail))
            (try (rw [rounds_succ]; go_wp2_with fail))
            go_ret
            exact ⟨rfl, below_n1 _ _⟩
          · skip
            replace h3 := of_decide_eq_true h3
            cases p4
            · skip
              replace h4 := of_decide_eq_false h4
              clear h5
              go_enter Try.func62, Try.ntmps62
              go_wp2_with fail
              refine wp_loop_rounds 4 ?_
              rw [rounds_succ]
              go_wp2_with fail
              (try (rw [rounds_succ]; go_wp2_with fail))
              (try (rw [rounds_succ]; go_wp2_with fail))
              (try (rw [rounds_succ]; go_wp2_with fail))
              go_ret
              exact ⟨rfl, below_n1 _ _⟩
            · skip
              replace h4 := of_decide_eq_true h4
              cases p5
              · skip
                replace h5 := of_decide_eq_false h5
                go_enter Try.func62, Try.ntmps62
                go_wp2_with fail
                refine wp_loop_rounds 4 ?_
                rw [rounds_succ]
                go_wp2_with fail
                (try (rw [rounds_succ]; go_wp2_with fail))
                (try (rw [rounds_succ]; go_wp2_with fail))
                (try (rw [rounds_succ]; go_wp2_with fail))
                go_ret
                exact ⟨rfl, below_n1 _ _⟩
              · skip
                replace h5 := of_decide_eq_true h5
                go_enter Try.func62, Try.ntmps62
                go_wp2_with fail
                refine wp_loop_rounds 4 ?_
                rw [rounds_succ]
                go_wp2_with fail
                (try (rw [rounds_succ]; go_wp2_with fail))
                (try (rw [rounds_succ]; go_wp2_with fail))
                (try (rw [rounds_succ]; go_wp2_with fail))
                go_ret
                exact ⟨rfl, below_n1 _ _⟩
  have := key _ _ _ _ _ _ rfl rfl rfl rfl rfl rfl
  rwa [show ((decide ((0 : Int) ≤ x) && (decide (x ≤ (1048576 : Int)) && (decide ((0 : Int) ≤ y) && (decide (y ≤ (1048576 : Int)) && (decide ((0 : Int) ≤ z) && decide (z ≤ (1048576 : Int)))))))) = (lightB x y z) by rw [Bool.eq_iff_iff]; simp only [lightB, inB, Bool.and_eq_true, decide_eq_true_eq]; constructor <;> (intro h; simp only [and_assoc] at h ⊢; exact h)] at this

theorem rlight_is (x y z : Int) (v : Bool) (h : lightB x y z = v) (w : World) : Calls Try.prog 62 #[V3 x y z] w fun e w' => e = .returned (.bool v) ∧ Below w.heap.size w w' := by
  subst h; exact rlight_any x y z w

set_option maxHeartbeats 4000000 in
set_option maxRecDepth 100000 in
theorem rhead_any (a0 a1 a2 a3 a4 a5 : Int) (a6 : Nat) (r g b : Int) (w : World) : Calls Try.prog 16 #[HV a0 a1 a2 a3 a4 a5 a6 r g b] w fun e w' => e = .returned (.bool (inB a0 1 64 && inB a1 1 64 && inB a2 1 16 && inB a3 1 6 && inB a4 1 32 && inB a5 0 65536 && lightB r g b)) ∧ Below w.heap.size w w' := by
  have key : ∀ p0 p1 p2 p3 p4 p5 p6 p7 : Bool, inB a0 1 64 = p0 → inB a1 1 64 = p1 → inB a2 1 16 = p2 → inB a3 1 6 = p3 → inB a4 1 32 = p4 → decide ((0 : Int) ≤ a5) = p5 → decide (a5 ≤ (65536 : Int)) = p6 → lightB r g b = p7 → Calls Try.prog 16 #[HV a0 a1 a2 a3 a4 a5 a6 r g b] w fun e w' => e = .returned (.bool (p0 && (p1 && (p2 && (p3 && (p4 && (p5 && (p6 && p7)))))))) ∧ Below w.heap.size w w' := by
    intro p0 p1 p2 p3 p4 p5 p6 p7 h0 h1 h2 h3 h4 h5 h6 h7
    have H0 := Lib.hid h0
    clear h0
    have H1 := Lib.hid h1
    clear h1
    have H2 := Lib.hid h2
    clear h2
    have H3 := Lib.hid h3
    clear h3
    have H4 := Lib.hid h4
    clear h4
    have H7 := Lib.hid h7
    clear h7
    cases p0
    · skip
      clear h5
      clear h6
      go_enter Try.func16, Try.ntmps16
      go_wp2_with (first | (go_at_call 61; with_reducible (first | refine (rin_is _ _ _ _ H0.out _).mono ?_ | refine (rin_is _ _ _ _ H1.out _).mono ?_ | refine (rin_is _ _ _ _ H2.out _).mono ?_ | refine (rin_is _ _ _ _ H3.out _).mono ?_ | refine (rin_is _ _ _ _ H4.out _).mono ?_); rintro e w' ⟨rfl, rfl⟩) | (go_at_call 62; with_reducible (refine (rlight_is _ _ _ _ H7.out _).mono ?_); rintro e w1 ⟨rfl, hb1⟩; obtain ⟨hc1, hf1⟩ := bcell hb1; have hz1 := hb1.size; simp at hz1; have hz2 : w.heap.size < w1.heap.size := (by omega)))
      go_ret
      exact ⟨rfl, by first | exact below_n1 _ _ | exact (below_n1 _ _).trans (hb1.mono (by simp))⟩
    · skip
      cases p1
      · skip
        clear h5
        clear h6
        go_enter Try.func16, Try.ntmps16
        go_wp2_with (first | (go_at_call 61; with_reducible (first | refine (rin_is _ _ _ _ H0.out _).mono ?_ | refine (rin_is _ _ _ _ H1.out _).mono ?_ | refine (rin_is _ _ _ _ H2.out _).mono ?_ | refine (rin_is _ _ _ _ H3.out _).mono ?_ | refine (rin_is _ _ _ _ H4.out _).mono ?_); rintro e w' ⟨rfl, rfl⟩) | (go_at_call 62; with_reducible (refine (rlight_is _ _ _ _ H7.out _).mono ?_); rintro e w1 ⟨rfl, hb1⟩; obtain ⟨hc1, hf1⟩ := bcell hb1; have hz1 := hb1.size; simp at hz1; have hz2 : w.heap.size < w1.heap.size := (by omega)))
        go_ret
        exact ⟨rfl, by first | exact below_n1 _ _ | exact (below_n1 _ _).trans (hb1.mono (by simp))⟩
      · skip
        cases p2
        · skip
          clear h5
          clear h6
          go_enter Try.func16, Try.ntmps16
          go_wp2_with (first | (go_at_call 61; with_reducible (first | refine (rin_is _ _ _ _ H0.out _).mono ?_ | refine (rin_is _ _ _ _ H1.out _).mono ?_ | refine (rin_is _ _ _ _ H2.out _).mono ?_ | refine (rin_is _ _ _ _ H3.out _).mono ?_ | refine (rin_is _ _ _ _ H4.out _).mono ?_); rintro e w' ⟨rfl, rfl⟩) | (go_at_call 62; with_reducible (refine (rlight_is _ _ _ _ H7.out _).mono ?_); rintro e w1 ⟨rfl, hb1⟩; obtain ⟨hc1, hf1⟩ := bcell hb1; have hz1 := hb1.size; simp at hz1; have hz2 : w.heap.size < w1.heap.size := (by omega)))
          go_ret
          exact ⟨rfl, by first | exact below_n1 _ _ | exact (below_n1 _ _).trans (hb1.mono (by simp))⟩
        · skip
          cases p3
          · skip
            clear h5
            clear h6
            go_enter Try.func16, Try.ntmps16
            go_wp2_with (first | (go_at_call 61; with_reducible (first | refine (rin_is _ _ _ _ H0.out _).mono ?_ | refine (rin_is _ _ _ _ H1.out _).mono ?_ | refine (rin_is _ _ _ _ H2.out _).mono ?_ | refine (rin_is _ _ _ _ H3.out _).mono ?_ | refine (rin_is _ _ _ _ H4.out _).mono ?_); rintro e w' ⟨rfl, rfl⟩) | (go_at_call 62; with_reducible (refine (rlight_is _ _ _ _ H7.out _).mono ?_); rintro e w1 ⟨rfl, hb1⟩; obtain ⟨hc1, hf1⟩ := bcell hb1; have hz1 := hb1.size; simp at hz1; have hz2 : w.heap.size < w1.heap.size := (by omega)))
            go_ret
            exact ⟨rfl, by first | exact below_n1 _ _ | exact (below_n1 _ _).trans (hb1.mono (by simp))⟩
          · skip
            cases p4
            · skip
              clear h5
              clear h6
              go_enter Try.func16, Try.ntmps16
              go_wp2_with (first | (go_at_call 61; with_reducible (first | refine (rin_is _ _ _ _ H0.out _).mono ?_ | refine (rin_is _ _ _ _ H1.out _).mono ?_ | refine (rin_is _ _ _ _ H2.out _).mono ?_ | refine (rin_is _ _ _ _ H3.out _).mono ?_ | refine (rin_is _ _ _ _ H4.out _).mono ?_); rintro e w' ⟨rfl, rfl⟩) | (go_at_call 62; with_reducible (refine (rlight_is _ _ _ _ H7.out _).mono ?_); rintro e w1 ⟨rfl, hb1⟩; obtain ⟨hc1, hf1⟩ := bcell hb1; have hz1 := hb1.size; simp at hz1; have hz2 : w.heap.size < w1.heap.size := (by omega)))
              go_ret
              exact ⟨rfl, by first | exact below_n1 _ _ | exact (below_n1 _ _).trans (hb1.mono (by simp))⟩
            · skip
              cases p5
              · skip
                replace h5 := of_decide_eq_false h5
                clear h6
                go_enter Try.func16, Try.ntmps16
                go_wp2_with (first | (go_at_call 61; with_reducible (first | refine (rin_is _ _ _ _ H0.out _).mono ?_ | refine (rin_is _ _ _ _ H1.out _).mono ?_ | refine (rin_is _ _ _ _ H2.out _).mono ?_ | refine (rin_is _ _ _ _ H3.out _).mono ?_ | refine (rin_is _ _ _ _ H4.out _).mono ?_); rintro e w' ⟨rfl, rfl⟩) | (go_at_call 62; with_reducible (refine (rlight_is _ _ _ _ H7.out _).mono ?_); rintro e w1 ⟨rfl, hb1⟩; obtain ⟨hc1, hf1⟩ := bcell hb1; have hz1 := hb1.size; simp at hz1; have hz2 : w.heap.size < w1.heap.size := (by omega)))
                go_ret
                exact ⟨rfl, by first | exact below_n1 _ _ | exact (below_n1 _ _).trans (hb1.mono (by simp))⟩
              · skip
                replace h5 := of_decide_eq_true h5
                cases p6
                · skip
                  replace h6 := of_decide_eq_false h6
                  go_enter Try.func16, Try.ntmps16
                  go_wp2_with (first | (go_at_call 61; with_reducible (first | refine (rin_is _ _ _ _ H0.out _).mono ?_ | refine (rin_is _ _ _ _ H1.out _).mono ?_ | refine (rin_is _ _ _ _ H2.out _).mono ?_ | refine (rin_is _ _ _ _ H3.out _).mono ?_ | refine (rin_is _ _ _ _ H4.out _).mono ?_); rintro e w' ⟨rfl, rfl⟩) | (go_at_call 62; with_reducible (refine (rlight_is _ _ _ _ H7.out _).mono ?_); rintro e w1 ⟨rfl, hb1⟩; obtain ⟨hc1, hf1⟩ := bcell hb1; have hz1 := hb1.size; simp at hz1; have hz2 : w.heap.size < w1.heap.size := (by omega)))
                  go_ret
                  exact ⟨rfl, by first | exact below_n1 _ _ | exact (below_n1 _ _).trans (hb1.mono (by simp))⟩
                · skip
                  replace h6 := of_decide_eq_true h6
                  cases p7
                  · skip
                    go_enter Try.func16, Try.ntmps16
                    go_wp2_with (first | (go_at_call 61; with_reducible (first | refine (rin_is _ _ _ _ H0.out _).mono ?_ | refine (rin_is _ _ _ _ H1.out _).mono ?_ | refine (rin_is _ _ _ _ H2.out _).mono ?_ | refine (rin_is _ _ _ _ H3.out _).mono ?_ | refine (rin_is _ _ _ _ H4.out _).mono ?_); rintro e w' ⟨rfl, rfl⟩) | (go_at_call 62; with_reducible (refine (rlight_is _ _ _ _ H7.out _).mono ?_); rintro e w1 ⟨rfl, hb1⟩; obtain ⟨hc1, hf1⟩ := bcell hb1; have hz1 := hb1.size; simp at hz1; have hz2 : w.heap.size < w1.heap.size := (by omega)))
                    go_ret
                    exact ⟨rfl, by first | exact below_n1 _ _ | exact (below_n1 _ _).trans (hb1.mono (by simp))⟩
                  · skip
                    go_enter Try.func16, Try.ntmps16
                    go_wp2_with (first | (go_at_call 61; with_reducible (first | refine (rin_is _ _ _ _ H0.out _).mono ?_ | refine (rin_is _ _ _ _ H1.out _).mono ?_ | refine (rin_is _ _ _ _ H2.out _).mono ?_ | refine (rin_is _ _ _ _ H3.out _).mono ?_ | refine (rin_is _ _ _ _ H4.out _).mono ?_); rintro e w' ⟨rfl, rfl⟩) | (go_at_call 62; with_reducible (refine (rlight_is _ _ _ _ H7.out _).mono ?_); rintro e w1 ⟨rfl, hb1⟩; obtain ⟨hc1, hf1⟩ := bcell hb1; have hz1 := hb1.size; simp at hz1; have hz2 : w.heap.size < w1.heap.size := (by omega)))
                    go_ret
                    exact ⟨rfl, by first | exact below_n1 _ _ | exact (below_n1 _ _).trans (hb1.mono (by simp))⟩
  have := key _ _ _ _ _ _ _ _ rfl rfl rfl rfl rfl rfl rfl rfl
  rwa [show ((inB a0 1 64 && (inB a1 1 64 && (inB a2 1 16 && (inB a3 1 6 && (inB a4 1 32 && (decide ((0 : Int) ≤ a5) && (decide (a5 ≤ (65536 : Int)) && lightB r g b)))))))) = (inB a0 1 64 && inB a1 1 64 && inB a2 1 16 && inB a3 1 6 && inB a4 1 32 && inB a5 0 65536 && lightB r g b) by rw [Bool.eq_iff_iff]; simp only [inB, Bool.and_eq_true, decide_eq_true_eq]; constructor <;> (intro h; simp only [and_assoc] at h ⊢; exact h)] at this

theorem rhead_is (s : Scn) (v : Bool) (h : hdB s = v) (w : World) : Calls Try.prog 16 #[HS s] w fun e w' => e = .returned (.bool v) ∧ Below w.heap.size w w' := by
  subst h; exact rhead_any _ _ _ _ _ _ _ _ _ _ w

end Go.Proofs.Ytfeihojobmagnaa.Sc
