/- Scenes: the contract of whether a shape may be, by the document. -/
import Derived.Test.YtplcbdmiccpnnaaGreatC40
import Derived.Test.YtplcbdmiccpnnaaGreatC33
namespace Go.Proofs.YtplcbdmiccpnnaaGreat.Sc
open Go.RowKit Go.Proofs.YtplcbdmiccpnnaaGreat Go.Proofs.YtplcbdmiccpnnaaGreat.Wa Go.Proofs.YtplcbdmiccpnnaaGreat.Ve Go.Proofs.YtplcbdmiccpnnaaGreat.Tk
set_option linter.unusedVariables false

set_option maxHeartbeats 4000000 in
set_option maxRecDepth 100000 in
theorem rshape_ball (s : Scn) (a : Pla) (hnj : s.nj ≤ 4611686018427387904) (hnp : s.np ≤ 4611686018427387904) (j p ax ay az bx by_ bz cx cy cz q : Int) (w : World) : Calls Tryz.prog 57 #[SV s a, X13 j p 0 ax ay az bx by_ bz cx cy cz q] w fun e w' => e = .returned (.bool (inB j (-1) ((s.nj : Int) - 1) && (inB p 0 ((s.np : Int) - 1) && (pointB ax ay az && (decide (bx = 0 ∧ by_ = 0 ∧ bz = 0) && (decide (cx = 0 ∧ cy = 0 ∧ cz = 0) && inB q 1 4194304)))))) ∧ Below w.heap.size w w' := by
  have key : ∀ p0 p1 p2 p3 p4 p5 p6 : Bool, inB j (-1) ((s.nj : Int) - 1) = p0 → inB p 0 ((s.np : Int) - 1) = p1 → pointB ax ay az = p2 → decide (bx = 0 ∧ by_ = 0 ∧ bz = 0) = p3 → decide (cx = 0 ∧ cy = 0 ∧ cz = 0) = p4 → decide ((1 : Int) ≤ q) = p5 → decide (q ≤ (4194304 : Int)) = p6 → Calls Tryz.prog 57 #[SV s a, X13 j p 0 ax ay az bx by_ bz cx cy cz q] w fun e w' => e = .returned (.bool (p0 && (p1 && (p2 && (p3 && (p4 && (p5 && p6))))))) ∧ Below w.heap.size w w' := by
    intro p0 p1 p2 p3 p4 p5 p6 h0 h1 h2 h3 h4 h5 h6
    have H0 := Lib.hid h0
    clear h0
    have H1 := Lib.hid h1
    clear h1
    have H2 := Lib.hid h2
    clear h2
    have H3 := Lib.hid h3
    clear h3
    have H4 := Lib.hid h4
    clear h4
    cases p0
    · skip
      clear h5
      clear h6
      go_enter Tryz.func57, Tryz.ntmps57
      have hw := sub1_wrap s.nj hnj
      have hw2 := sub1_wrap s.np hnp
      have g3 := fun W => eq_rvec bx by_ bz 0 0 0 W
      have g4 := fun W => eq_rvec cx cy cz 0 0 0 W
      simp only [H3.out] at g3
      simp only [H4.out] at g4
      go_wp2_with (first | (go_at_call 81; with_reducible (first | refine (rin_is _ _ _ _ H0.out _).mono ?_ | refine (rin_is _ _ _ _ H1.out _).mono ?_); rintro e w' ⟨rfl, rfl⟩) | (go_at_call 84; with_reducible (refine (rpoint_is _ _ _ _ H2.out _).mono ?_); rintro e w1 ⟨rfl, hb1⟩; obtain ⟨hc1, hf1⟩ := bcell hb1; have hB1 := (below_n2 w _ _).trans (hb1.mono (below_n2 w _ _).size); have hz1 := hb1.size; (try simp at hz1); have hy1 : w.heap.size < w1.heap.size := (by omega); have hx1 : w.heap.size + 1 < w1.heap.size := (by omega)))
      go_ret
      exact ⟨by first | rfl | (simp; omega), by first | exact hB3 | exact hB2 | exact hB1 | exact below_n2 _ _ _⟩
    · skip
      cases p1
      · skip
        clear h5
        clear h6
        go_enter Tryz.func57, Tryz.ntmps57
        have hw := sub1_wrap s.nj hnj
        have hw2 := sub1_wrap s.np hnp
        have g3 := fun W => eq_rvec bx by_ bz 0 0 0 W
        have g4 := fun W => eq_rvec cx cy cz 0 0 0 W
        simp only [H3.out] at g3
        simp only [H4.out] at g4
        go_wp2_with (first | (go_at_call 81; with_reducible (first | refine (rin_is _ _ _ _ H0.out _).mono ?_ | refine (rin_is _ _ _ _ H1.out _).mono ?_); rintro e w' ⟨rfl, rfl⟩) | (go_at_call 84; with_reducible (refine (rpoint_is _ _ _ _ H2.out _).mono ?_); rintro e w1 ⟨rfl, hb1⟩; obtain ⟨hc1, hf1⟩ := bcell hb1; have hB1 := (below_n2 w _ _).trans (hb1.mono (below_n2 w _ _).size); have hz1 := hb1.size; (try simp at hz1); have hy1 : w.heap.size < w1.heap.size := (by omega); have hx1 : w.heap.size + 1 < w1.heap.size := (by omega)))
        go_ret
        exact ⟨by first | rfl | (simp; omega), by first | exact hB3 | exact hB2 | exact hB1 | exact below_n2 _ _ _⟩
      · skip
        cases p2
        · skip
          clear h5
          clear h6
          go_enter Tryz.func57, Tryz.ntmps57
          have hw := sub1_wrap s.nj hnj
          have hw2 := sub1_wrap s.np hnp
          have g3 := fun W => eq_rvec bx by_ bz 0 0 0 W
          have g4 := fun W => eq_rvec cx cy cz 0 0 0 W
          simp only [H3.out] at g3
          simp only [H4.out] at g4
          go_wp2_with (first | (go_at_call 81; with_reducible (first | refine (rin_is _ _ _ _ H0.out _).mono ?_ | refine (rin_is _ _ _ _ H1.out _).mono ?_); rintro e w' ⟨rfl, rfl⟩) | (go_at_call 84; with_reducible (refine (rpoint_is _ _ _ _ H2.out _).mono ?_); rintro e w1 ⟨rfl, hb1⟩; obtain ⟨hc1, hf1⟩ := bcell hb1; have hB1 := (below_n2 w _ _).trans (hb1.mono (below_n2 w _ _).size); have hz1 := hb1.size; (try simp at hz1); have hy1 : w.heap.size < w1.heap.size := (by omega); have hx1 : w.heap.size + 1 < w1.heap.size := (by omega)))
          go_ret
          exact ⟨by first | rfl | (simp; omega), by first | exact hB3 | exact hB2 | exact hB1 | exact below_n2 _ _ _⟩
        · skip
          cases p3
          · skip
            clear h5
            clear h6
            go_enter Tryz.func57, Tryz.ntmps57
            have hw := sub1_wrap s.nj hnj
            have hw2 := sub1_wrap s.np hnp
            have g3 := fun W => eq_rvec bx by_ bz 0 0 0 W
            have g4 := fun W => eq_rvec cx cy cz 0 0 0 W
            simp only [H3.out] at g3
            simp only [H4.out] at g4
            go_wp2_with (first | (go_at_call 81; with_reducible (first | refine (rin_is _ _ _ _ H0.out _).mono ?_ | refine (rin_is _ _ _ _ H1.out _).mono ?_); rintro e w' ⟨rfl, rfl⟩) | (go_at_call 84; with_reducible (refine (rpoint_is _ _ _ _ H2.out _).mono ?_); rintro e w1 ⟨rfl, hb1⟩; obtain ⟨hc1, hf1⟩ := bcell hb1; have hB1 := (below_n2 w _ _).trans (hb1.mono (below_n2 w _ _).size); have hz1 := hb1.size; (try simp at hz1); have hy1 : w.heap.size < w1.heap.size := (by omega); have hx1 : w.heap.size + 1 < w1.heap.size := (by omega)))
            go_ret
            exact ⟨by first | rfl | (simp; omega), by first | exact hB3 | exact hB2 | exact hB1 | exact below_n2 _ _ _⟩
          · skip
            cases p4
            · skip
              clear h5
              clear h6
              go_enter Tryz.func57, Tryz.ntmps57
              have hw := sub1_wrap s.nj hnj
              have hw2 := sub1_wrap s.np hnp
              have g3 := fun W => eq_rvec bx by_ bz 0 0 0 W
              have g4 := fun W => eq_rvec cx cy cz 0 0 0 W
              simp only [H3.out] at g3
              simp only [H4.out] at g4
              go_wp2_with (first | (go_at_call 81; with_reducible (first | refine (rin_is _ _ _ _ H0.out _).mono ?_ | refine (rin_is _ _ _ _ H1.out _).mono ?_); rintro e w' ⟨rfl, rfl⟩) | (go_at_call 84; with_reducible (refine (rpoint_is _ _ _ _ H2.out _).mono ?_); rintro e w1 ⟨rfl, hb1⟩; obtain ⟨hc1, hf1⟩ := bcell hb1; have hB1 := (below_n2 w _ _).trans (hb1.mono (below_n2 w _ _).size); have hz1 := hb1.size; (try simp at hz1); have hy1 : w.heap.size < w1.heap.size := (by omega); have hx1 : w.heap.size + 1 < w1.heap.size := (by omega)))
              go_ret
              exact ⟨by first | rfl | (simp; omega), by first | exact hB3 | exact hB2 | exact hB1 | exact below_n2 _ _ _⟩
            · skip
              cases p5
              · skip
                replace h5 := of_decide_eq_false h5
                clear h6
                go_enter Tryz.func57, Tryz.ntmps57
                have hw := sub1_wrap s.nj hnj
                have hw2 := sub1_wrap s.np hnp
                have g3 := fun W => eq_rvec bx by_ bz 0 0 0 W
                have g4 := fun W => eq_rvec cx cy cz 0 0 0 W
                simp only [H3.out] at g3
                simp only [H4.out] at g4
                go_wp2_with (first | (go_at_call 81; with_reducible (first | refine (rin_is _ _ _ _ H0.out _).mono ?_ | refine (rin_is _ _ _ _ H1.out _).mono ?_); rintro e w' ⟨rfl, rfl⟩) | (go_at_call 84; with_reducible (refine (rpoint_is _ _ _ _ H2.out _).mono ?_); rintro e w1 ⟨rfl, hb1⟩; obtain ⟨hc1, hf1⟩ := bcell hb1; have hB1 := (below_n2 w _ _).trans (hb1.mono (below_n2 w _ _).size); have hz1 := hb1.size; (try simp at hz1); have hy1 : w.heap.size < w1.heap.size := (by omega); have hx1 : w.heap.size + 1 < w1.heap.size := (by omega)))
                go_ret
                exact ⟨by first | rfl | (simp; omega), by first | exact hB3 | exact hB2 | exact hB1 | exact below_n2 _ _ _⟩
              · skip
                replace h5 := of_decide_eq_true h5
                cases p6
                · skip
                  replace h6 := of_decide_eq_false h6
                  go_enter Tryz.func57, Tryz.ntmps57
                  have hw := sub1_wrap s.nj hnj
                  have hw2 := sub1_wrap s.np hnp
                  have g3 := fun W => eq_rvec bx by_ bz 0 0 0 W
                  have g4 := fun W => eq_rvec cx cy cz 0 0 0 W
                  simp only [H3.out] at g3
                  simp only [H4.out] at g4
                  go_wp2_with (first | (go_at_call 81; with_reducible (first | refine (rin_is _ _ _ _ H0.out _).mono ?_ | refine (rin_is _ _ _ _ H1.out _).mono ?_); rintro e w' ⟨rfl, rfl⟩) | (go_at_call 84; with_reducible (refine (rpoint_is _ _ _ _ H2.out _).mono ?_); rintro e w1 ⟨rfl, hb1⟩; obtain ⟨hc1, hf1⟩ := bcell hb1; have hB1 := (below_n2 w _ _).trans (hb1.mono (below_n2 w _ _).size); have hz1 := hb1.size; (try simp at hz1); have hy1 : w.heap.size < w1.heap.size := (by omega); have hx1 : w.heap.size + 1 < w1.heap.size := (by omega)))
                  go_ret
                  exact ⟨by first | rfl | (simp; omega), by first | exact hB3 | exact hB2 | exact hB1 | exact below_n2 _ _ _⟩
                · skip
                  replace h6 := of_decide_eq_true h6
                  go_enter Tryz.func57, Tryz.ntmps57
                  have hw := sub1_wrap s.nj hnj
                  have hw2 := sub1_wrap s.np hnp
                  have g3 := fun W => eq_rvec bx by_ bz 0 0 0 W
                  have g4 := fun W => eq_rvec cx cy cz 0 0 0 W
                  simp only [H3.out] at g3
                  simp only [H4.out] at g4
                  go_wp2_with (first | (go_at_call 81; with_reducible (first | refine (rin_is _ _ _ _ H0.out _).mono ?_ | refine (rin_is _ _ _ _ H1.out _).mono ?_); rintro e w' ⟨rfl, rfl⟩) | (go_at_call 84; with_reducible (refine (rpoint_is _ _ _ _ H2.out _).mono ?_); rintro e w1 ⟨rfl, hb1⟩; obtain ⟨hc1, hf1⟩ := bcell hb1; have hB1 := (below_n2 w _ _).trans (hb1.mono (below_n2 w _ _).size); have hz1 := hb1.size; (try simp at hz1); have hy1 : w.heap.size < w1.heap.size := (by omega); have hx1 : w.heap.size + 1 < w1.heap.size := (by omega)))
                  go_ret
                  exact ⟨by first | rfl | (simp; omega), by first | exact hB3 | exact hB2 | exact hB1 | exact below_n2 _ _ _⟩
  have := key _ _ _ _ _ _ _ rfl rfl rfl rfl rfl rfl rfl
  rwa [show ((inB j (-1) ((s.nj : Int) - 1) && (inB p 0 ((s.np : Int) - 1) && (pointB ax ay az && (decide (bx = 0 ∧ by_ = 0 ∧ bz = 0) && (decide (cx = 0 ∧ cy = 0 ∧ cz = 0) && (decide ((1 : Int) ≤ q) && decide (q ≤ (4194304 : Int))))))))) = (inB j (-1) ((s.nj : Int) - 1) && (inB p 0 ((s.np : Int) - 1) && (pointB ax ay az && (decide (bx = 0 ∧ by_ = 0 ∧ bz = 0) && (decide (cx = 0 ∧ cy = 0 ∧ cz = 0) && inB q 1 4194304))))) by unfold inB; simp only [Bool.decide_and]] at this

set_option maxHeartbeats 4000000 in
set_option maxRecDepth 100000 in
theorem rshape_face (s : Scn) (a : Pla) (hnj : s.nj ≤ 4611686018427387904) (hnp : s.np ≤ 4611686018427387904) (j p ax ay az bx by_ bz cx cy cz q : Int) (w : World) : Calls Tryz.prog 57 #[SV s a, X13 j p 1 ax ay az bx by_ bz cx cy cz q] w fun e w' => e = .returned (.bool (inB j (-1) ((s.nj : Int) - 1) && (inB p 0 ((s.np : Int) - 1) && (pointB ax ay az && (pointB bx by_ bz && (pointB cx cy cz && decide (q = 0))))))) ∧ Below w.heap.size w w' := by
  have key : ∀ p0 p1 p2 p3 p4 p5 : Bool, inB j (-1) ((s.nj : Int) - 1) = p0 → inB p 0 ((s.np : Int) - 1) = p1 → pointB ax ay az = p2 → pointB bx by_ bz = p3 → pointB cx cy cz = p4 → decide (q = (0 : Int)) = p5 → Calls Tryz.prog 57 #[SV s a, X13 j p 1 ax ay az bx by_ bz cx cy cz q] w fun e w' => e = .returned (.bool (p0 && (p1 && (p2 && (p3 && (p4 && p5)))))) ∧ Below w.heap.size w w' := by
    intro p0 p1 p2 p3 p4 p5 h0 h1 h2 h3 h4 h5
    have H0 := Lib.hid h0
    clear h0
    have H1 := Lib.hid h1
    clear h1
    have H2 := Lib.hid h2
    clear h2
    have H3 := Lib.hid h3
    clear h3
    have H4 := Lib.hid h4
    clear h4
    cases p0
    · skip
      clear h5
      go_enter Tryz.func57, Tryz.ntmps57
      have hw := sub1_wrap s.nj hnj
      have hw2 := sub1_wrap s.np hnp
      go_wp2_with (first | (go_at_call 81; with_reducible (first | refine (rin_is _ _ _ _ H0.out _).mono ?_ | refine (rin_is _ _ _ _ H1.out _).mono ?_); rintro e w' ⟨rfl, rfl⟩) | (go_at_call 84; with_reducible (refine (rpoint_is _ _ _ _ H2.out _).mono ?_); rintro e w1 ⟨rfl, hb1⟩; obtain ⟨hc1, hf1⟩ := bcell hb1; have hB1 := (below_n2 w _ _).trans (hb1.mono (below_n2 w _ _).size); have hz1 := hb1.size; (try simp at hz1); have hy1 : w.heap.size < w1.heap.size := (by omega); have hx1 : w.heap.size + 1 < w1.heap.size := (by omega)) | (go_at_call 84; with_reducible (refine (rpoint_is _ _ _ _ H3.out _).mono ?_); rintro e w2 ⟨rfl, hb2⟩; obtain ⟨hc2, hf2⟩ := bcell hb2; have hB2 := hB1.trans (hb2.mono hB1.size); have hz2 := hb2.size; (try simp at hz2); have hy2 : w.heap.size < w2.heap.size := (by omega); have hx2 : w.heap.size + 1 < w2.heap.size := (by omega)) | (go_at_call 84; with_reducible (refine (rpoint_is _ _ _ _ H4.out _).mono ?_); rintro e w3 ⟨rfl, hb3⟩; obtain ⟨hc3, hf3⟩ := bcell hb3; have hB3 := hB2.trans (hb3.mono hB2.size); have hz3 := hb3.size; (try simp at hz3); have hy3 : w.heap.size < w3.heap.size := (by omega); have hx3 : w.heap.size + 1 < w3.heap.size := (by omega)))
      go_ret
      exact ⟨by first | rfl | (simp; omega), by first | exact hB3 | exact hB2 | exact hB1 | exact below_n2 _ _ _⟩
    · skip
      cases p1
      · skip
        clear h5
        go_enter Tryz.func57, Tryz.ntmps57
        have hw := sub1_wrap s.nj hnj
        have hw2 := sub1_wrap s.np hnp
        go_wp2_with (first | (go_at_call 81; with_reducible (first | refine (rin_is _ _ _ _ H0.out _).mono ?_ | refine (rin_is _ _ _ _ H1.out _).mono ?_); rintro e w' ⟨rfl, rfl⟩) | (go_at_call 84; with_reducible (refine (rpoint_is _ _ _ _ H2.out _).mono ?_); rintro e w1 ⟨rfl, hb1⟩; obtain ⟨hc1, hf1⟩ := bcell hb1; have hB1 := (below_n2 w _ _).trans (hb1.mono (below_n2 w _ _).size); have hz1 := hb1.size; (try simp at hz1); have hy1 : w.heap.size < w1.heap.size := (by omega); have hx1 : w.heap.size + 1 < w1.heap.size := (by omega)) | (go_at_call 84; with_reducible (refine (rpoint_is _ _ _ _ H3.out _).mono ?_); rintro e w2 ⟨rfl, hb2⟩; obtain ⟨hc2, hf2⟩ := bcell hb2; have hB2 := hB1.trans (hb2.mono hB1.size); have hz2 := hb2.size; (try simp at hz2); have hy2 : w.heap.size < w2.heap.size := (by omega); have hx2 : w.heap.size + 1 < w2.heap.size := (by omega)) | (go_at_call 84; with_reducible (refine (rpoint_is _ _ _ _ H4.out _).mono ?_); rintro e w3 ⟨rfl, hb3⟩; obtain ⟨hc3, hf3⟩ := bcell hb3; have hB3 := hB2.trans (hb3.mono hB2.size); have hz3 := hb3.size; (try simp at hz3); have hy3 : w.heap.size < w3.heap.size := (by omega); have hx3 : w.heap.size + 1 < w3.heap.size := (by omega)))
        go_ret
        exact ⟨by first | rfl | (simp; omega), by first | exact hB3 | exact hB2 | exact hB1 | exact below_n2 _ _ _⟩
      · skip
        cases p2
        · skip
          clear h5
          go_enter Tryz.func57, Tryz.ntmps57
          have hw := sub1_wrap s.nj hnj
          have hw2 := sub1_wrap s.np hnp
          go_wp2_with (first | (go_at_call 81; with_reducible (first | refine (rin_is _ _ _ _ H0.out _).mono ?_ | refine (rin_is _ _ _ _ H1.out _).mono ?_); rintro e w' ⟨rfl, rfl⟩) | (go_at_call 84; with_reducible (refine (rpoint_is _ _ _ _ H2.out _).mono ?_); rintro e w1 ⟨rfl, hb1⟩; obtain ⟨hc1, hf1⟩ := bcell hb1; have hB1 := (below_n2 w _ _).trans (hb1.mono (below_n2 w _ _).size); have hz1 := hb1.size; (try simp at hz1); have hy1 : w.heap.size < w1.heap.size := (by omega); have hx1 : w.heap.size + 1 < w1.heap.size := (by omega)) | (go_at_call 84; with_reducible (refine (rpoint_is _ _ _ _ H3.out _).mono ?_); rintro e w2 ⟨rfl, hb2⟩; obtain ⟨hc2, hf2⟩ := bcell hb2; have hB2 := hB1.trans (hb2.mono hB1.size); have hz2 := hb2.size; (try simp at hz2); have hy2 : w.heap.size < w2.heap.size := (by omega); have hx2 : w.heap.size + 1 < w2.heap.size := (by omega)) | (go_at_call 84; with_reducible (refine (rpoint_is _ _ _ _ H4.out _).mono ?_); rintro e w3 ⟨rfl, hb3⟩; obtain ⟨hc3, hf3⟩ := bcell hb3; have hB3 := hB2.trans (hb3.mono hB2.size); have hz3 := hb3.size; (try simp at hz3); have hy3 : w.heap.size < w3.heap.size := (by omega); have hx3 : w.heap.size + 1 < w3.heap.size := (by omega)))
          go_ret
          exact ⟨by first | rfl | (simp; omega), by first | exact hB3 | exact hB2 | exact hB1 | exact below_n2 _ _ _⟩
        · skip
          cases p3
          · skip
            clear h5
            go_enter Tryz.func57, Tryz.ntmps57
            have hw := sub1_wrap s.nj hnj
            have hw2 := sub1_wrap s.np hnp
            go_wp2_with (first | (go_at_call 81; with_reducible (first | refine (rin_is _ _ _ _ H0.out _).mono ?_ | refine (rin_is _ _ _ _ H1.out _).mono ?_); rintro e w' ⟨rfl, rfl⟩) | (go_at_call 84; with_reducible (refine (rpoint_is _ _ _ _ H2.out _).mono ?_); rintro e w1 ⟨rfl, hb1⟩; obtain ⟨hc1, hf1⟩ := bcell hb1; have hB1 := (below_n2 w _ _).trans (hb1.mono (below_n2 w _ _).size); have hz1 := hb1.size; (try simp at hz1); have hy1 : w.heap.size < w1.heap.size := (by omega); have hx1 : w.heap.size + 1 < w1.heap.size := (by omega)) | (go_at_call 84; with_reducible (refine (rpoint_is _ _ _ _ H3.out _).mono ?_); rintro e w2 ⟨rfl, hb2⟩; obtain ⟨hc2, hf2⟩ := bcell hb2; have hB2 := hB1.trans (hb2.mono hB1.size); have hz2 := hb2.size; (try simp at hz2); have hy2 : w.heap.size < w2.heap.size := (by omega); have hx2 : w.heap.size + 1 < w2.heap.size := (by omega)) | (go_at_call 84; with_reducible (refine (rpoint_is _ _ _ _ H4.out _).mono ?_); rintro e w3 ⟨rfl, hb3⟩; obtain ⟨hc3, hf3⟩ := bcell hb3; have hB3 := hB2.trans (hb3.mono hB2.size); have hz3 := hb3.size; (try simp at hz3); have hy3 : w.heap.size < w3.heap.size := (by omega); have hx3 : w.heap.size + 1 < w3.heap.size := (by omega)))
            go_ret
            exact ⟨by first | rfl | (simp; omega), by first | exact hB3 | exact hB2 | exact hB1 | exact below_n2 _ _ _⟩
          · skip
            cases p4
            · skip
              clear h5
              go_enter Tryz.func57, Tryz.ntmps57
              have hw := sub1_wrap s.nj hnj
              have hw2 := sub1_wrap s.np hnp
              go_wp2_with (first | (go_at_call 81; with_reducible (first | refine (rin_is _ _ _ _ H0.out _).mono ?_ | refine (rin_is _ _ _ _ H1.out _).mono ?_); rintro e w' ⟨rfl, rfl⟩) | (go_at_call 84; with_reducible (refine (rpoint_is _ _ _ _ H2.out _).mono ?_); rintro e w1 ⟨rfl, hb1⟩; obtain ⟨hc1, hf1⟩ := bcell hb1; have hB1 := (below_n2 w _ _).trans (hb1.mono (below_n2 w _ _).size); have hz1 := hb1.size; (try simp at hz1); have hy1 : w.heap.size < w1.heap.size := (by omega); have hx1 : w.heap.size + 1 < w1.heap.size := (by omega)) | (go_at_call 84; with_reducible (refine (rpoint_is _ _ _ _ H3.out _).mono ?_); rintro e w2 ⟨rfl, hb2⟩; obtain ⟨hc2, hf2⟩ := bcell hb2; have hB2 := hB1.trans (hb2.mono hB1.size); have hz2 := hb2.size; (try simp at hz2); have hy2 : w.heap.size < w2.heap.size := (by omega); have hx2 : w.heap.size + 1 < w2.heap.size := (by omega)) | (go_at_call 84; with_reducible (refine (rpoint_is _ _ _ _ H4.out _).mono ?_); rintro e w3 ⟨rfl, hb3⟩; obtain ⟨hc3, hf3⟩ := bcell hb3; have hB3 := hB2.trans (hb3.mono hB2.size); have hz3 := hb3.size; (try simp at hz3); have hy3 : w.heap.size < w3.heap.size := (by omega); have hx3 : w.heap.size + 1 < w3.heap.size := (by omega)))
              go_ret
              exact ⟨by first | rfl | (simp; omega), by first | exact hB3 | exact hB2 | exact hB1 | exact below_n2 _ _ _⟩
            · skip
              cases p5
              · skip
                replace h5 := of_decide_eq_false h5
                go_enter Tryz.func57, Tryz.ntmps57
                have hw := sub1_wrap s.nj hnj
                have hw2 := sub1_wrap s.np hnp
                go_wp2_with (first | (go_at_call 81; with_reducible (first | refine (rin_is _ _ _ _ H0.out _).mono ?_ | refine (rin_is _ _ _ _ H1.out _).mono ?_); rintro e w' ⟨rfl, rfl⟩) | (go_at_call 84; with_reducible (refine (rpoint_is _ _ _ _ H2.out _).mono ?_); rintro e w1 ⟨rfl, hb1⟩; obtain ⟨hc1, hf1⟩ := bcell hb1; have hB1 := (below_n2 w _ _).trans (hb1.mono (below_n2 w _ _).size); have hz1 := hb1.size; (try simp at hz1); have hy1 : w.heap.size < w1.heap.size := (by omega); have hx1 : w.heap.size + 1 < w1.heap.size := (by omega)) | (go_at_call 84; with_reducible (refine (rpoint_is _ _ _ _ H3.out _).mono ?_); rintro e w2 ⟨rfl, hb2⟩; obtain ⟨hc2, hf2⟩ := bcell hb2; have hB2 := hB1.trans (hb2.mono hB1.size); have hz2 := hb2.size; (try simp at hz2); have hy2 : w.heap.size < w2.heap.size := (by omega); have hx2 : w.heap.size + 1 < w2.heap.size := (by omega)) | (go_at_call 84; with_reducible (refine (rpoint_is _ _ _ _ H4.out _).mono ?_); rintro e w3 ⟨rfl, hb3⟩; obtain ⟨hc3, hf3⟩ := bcell hb3; have hB3 := hB2.trans (hb3.mono hB2.size); have hz3 := hb3.size; (try simp at hz3); have hy3 : w.heap.size < w3.heap.size := (by omega); have hx3 : w.heap.size + 1 < w3.heap.size := (by omega)))
                go_ret
                exact ⟨by first | rfl | (simp; omega), by first | exact hB3 | exact hB2 | exact hB1 | exact below_n2 _ _ _⟩
              · skip
                replace h5 := of_decide_eq_true h5
                go_enter Tryz.func57, Tryz.ntmps57
                have hw := sub1_wrap s.nj hnj
                have hw2 := sub1_wrap s.np hnp
                go_wp2_with (first | (go_at_call 81; with_reducible (first | refine (rin_is _ _ _ _ H0.out _).mono ?_ | refine (rin_is _ _ _ _ H1.out _).mono ?_); rintro e w' ⟨rfl, rfl⟩) | (go_at_call 84; with_reducible (refine (rpoint_is _ _ _ _ H2.out _).mono ?_); rintro e w1 ⟨rfl, hb1⟩; obtain ⟨hc1, hf1⟩ := bcell hb1; have hB1 := (below_n2 w _ _).trans (hb1.mono (below_n2 w _ _).size); have hz1 := hb1.size; (try simp at hz1); have hy1 : w.heap.size < w1.heap.size := (by omega); have hx1 : w.heap.size + 1 < w1.heap.size := (by omega)) | (go_at_call 84; with_reducible (refine (rpoint_is _ _ _ _ H3.out _).mono ?_); rintro e w2 ⟨rfl, hb2⟩; obtain ⟨hc2, hf2⟩ := bcell hb2; have hB2 := hB1.trans (hb2.mono hB1.size); have hz2 := hb2.size; (try simp at hz2); have hy2 : w.heap.size < w2.heap.size := (by omega); have hx2 : w.heap.size + 1 < w2.heap.size := (by omega)) | (go_at_call 84; with_reducible (refine (rpoint_is _ _ _ _ H4.out _).mono ?_); rintro e w3 ⟨rfl, hb3⟩; obtain ⟨hc3, hf3⟩ := bcell hb3; have hB3 := hB2.trans (hb3.mono hB2.size); have hz3 := hb3.size; (try simp at hz3); have hy3 : w.heap.size < w3.heap.size := (by omega); have hx3 : w.heap.size + 1 < w3.heap.size := (by omega)))
                go_ret
                exact ⟨by first | rfl | (simp; omega), by first | exact hB3 | exact hB2 | exact hB1 | exact below_n2 _ _ _⟩
  have := key _ _ _ _ _ _ rfl rfl rfl rfl rfl rfl
  rwa [show ((inB j (-1) ((s.nj : Int) - 1) && (inB p 0 ((s.np : Int) - 1) && (pointB ax ay az && (pointB bx by_ bz && (pointB cx cy cz && decide (q = (0 : Int)))))))) = (inB j (-1) ((s.nj : Int) - 1) && (inB p 0 ((s.np : Int) - 1) && (pointB ax ay az && (pointB bx by_ bz && (pointB cx cy cz && decide (q = 0)))))) by rfl] at this

set_option maxHeartbeats 4000000 in
set_option maxRecDepth 100000 in
theorem rshape_other (s : Scn) (a : Pla) (hnj : s.nj ≤ 4611686018427387904) (hnp : s.np ≤ 4611686018427387904) (k : Int) (h0 : ¬ k = 0) (h1 : ¬ k = 1) (j p ax ay az bx by_ bz cx cy cz q : Int) (w : World) : Calls Tryz.prog 57 #[SV s a, X13 j p k ax ay az bx by_ bz cx cy cz q] w fun e w' => e = .returned (.bool (false)) ∧ Below w.heap.size w w' := by
  have key : ∀ p0 p1 p2 : Bool, inB j (-1) ((s.nj : Int) - 1) = p0 → inB p 0 ((s.np : Int) - 1) = p1 → pointB ax ay az = p2 → Calls Tryz.prog 57 #[SV s a, X13 j p k ax ay az bx by_ bz cx cy cz q] w fun e w' => e = .returned (.bool false) ∧ Below w.heap.size w w' := by
    intro p0 p1 p2 g0 g1 g2
    have H0 := Lib.hid g0
    clear g0
    have H1 := Lib.hid g1
    clear g1
    have H2 := Lib.hid g2
    clear g2
    cases p0
    · skip
      go_enter Tryz.func57, Tryz.ntmps57
      have hw := sub1_wrap s.nj hnj
      have hw2 := sub1_wrap s.np hnp
      go_wp2_with (first | (go_at_call 81; with_reducible (first | refine (rin_is _ _ _ _ H0.out _).mono ?_ | refine (rin_is _ _ _ _ H1.out _).mono ?_); rintro e w' ⟨rfl, rfl⟩) | (go_at_call 84; with_reducible (refine (rpoint_is _ _ _ _ H2.out _).mono ?_); rintro e w1 ⟨rfl, hb1⟩; obtain ⟨hc1, hf1⟩ := bcell hb1; have hB1 := (below_n2 w _ _).trans (hb1.mono (below_n2 w _ _).size); have hz1 := hb1.size; (try simp at hz1); have hy1 : w.heap.size < w1.heap.size := (by omega); have hx1 : w.heap.size + 1 < w1.heap.size := (by omega)))
      go_ret
      exact ⟨by first | rfl | (simp; omega), by first | exact hB3 | exact hB2 | exact hB1 | exact below_n2 _ _ _⟩
    · skip
      cases p1
      · skip
        go_enter Tryz.func57, Tryz.ntmps57
        have hw := sub1_wrap s.nj hnj
        have hw2 := sub1_wrap s.np hnp
        go_wp2_with (first | (go_at_call 81; with_reducible (first | refine (rin_is _ _ _ _ H0.out _).mono ?_ | refine (rin_is _ _ _ _ H1.out _).mono ?_); rintro e w' ⟨rfl, rfl⟩) | (go_at_call 84; with_reducible (refine (rpoint_is _ _ _ _ H2.out _).mono ?_); rintro e w1 ⟨rfl, hb1⟩; obtain ⟨hc1, hf1⟩ := bcell hb1; have hB1 := (below_n2 w _ _).trans (hb1.mono (below_n2 w _ _).size); have hz1 := hb1.size; (try simp at hz1); have hy1 : w.heap.size < w1.heap.size := (by omega); have hx1 : w.heap.size + 1 < w1.heap.size := (by omega)))
        go_ret
        exact ⟨by first | rfl | (simp; omega), by first | exact hB3 | exact hB2 | exact hB1 | exact below_n2 _ _ _⟩
      · skip
        cases p2
        · skip
          go_enter Tryz.func57, Tryz.ntmps57
          have hw := sub1_wrap s.nj hnj
          have hw2 := sub1_wrap s.np hnp
          go_wp2_with (first | (go_at_call 81; with_reducible (first | refine (rin_is _ _ _ _ H0.out _).mono ?_ | refine (rin_is _ _ _ _ H1.out _).mono ?_); rintro e w' ⟨rfl, rfl⟩) | (go_at_call 84; with_reducible (refine (rpoint_is _ _ _ _ H2.out _).mono ?_); rintro e w1 ⟨rfl, hb1⟩; obtain ⟨hc1, hf1⟩ := bcell hb1; have hB1 := (below_n2 w _ _).trans (hb1.mono (below_n2 w _ _).size); have hz1 := hb1.size; (try simp at hz1); have hy1 : w.heap.size < w1.heap.size := (by omega); have hx1 : w.heap.size + 1 < w1.heap.size := (by omega)))
          go_ret
          exact ⟨by first | rfl | (simp; omega), by first | exact hB3 | exact hB2 | exact hB1 | exact below_n2 _ _ _⟩
        · skip
          go_enter Tryz.func57, Tryz.ntmps57
          have hw := sub1_wrap s.nj hnj
          have hw2 := sub1_wrap s.np hnp
          go_wp2_with (first | (go_at_call 81; with_reducible (first | refine (rin_is _ _ _ _ H0.out _).mono ?_ | refine (rin_is _ _ _ _ H1.out _).mono ?_); rintro e w' ⟨rfl, rfl⟩) | (go_at_call 84; with_reducible (refine (rpoint_is _ _ _ _ H2.out _).mono ?_); rintro e w1 ⟨rfl, hb1⟩; obtain ⟨hc1, hf1⟩ := bcell hb1; have hB1 := (below_n2 w _ _).trans (hb1.mono (below_n2 w _ _).size); have hz1 := hb1.size; (try simp at hz1); have hy1 : w.heap.size < w1.heap.size := (by omega); have hx1 : w.heap.size + 1 < w1.heap.size := (by omega)))
          go_ret
          exact ⟨by first | rfl | (simp; omega), by first | exact hB3 | exact hB2 | exact hB1 | exact below_n2 _ _ _⟩
  exact key _ _ _ rfl rfl rfl


/-- whether a shape may be, by the document, whatever its kind -/
theorem rshape_any (s : Scn) (a : Pla) (hnj : s.nj ≤ 4611686018427387904) (hnp : s.np ≤ 4611686018427387904) (L : Nat → Int) (w : World) :
    Calls Tryz.prog 57 #[SV s a, X13 (L 0) (L 1) (L 2) (L 3) (L 4) (L 5) (L 6) (L 7) (L 8) (L 9) (L 10) (L 11) (L 12)] w fun e w' => e = .returned (.bool (shapeB s.nj s.np L)) ∧ Below w.heap.size w w' := by
  by_cases h0 : L 2 = 0
  · rw [h0]
    have := rshape_ball s a hnj hnp (L 0) (L 1) (L 3) (L 4) (L 5) (L 6) (L 7) (L 8) (L 9) (L 10) (L 11) (L 12) w
    rwa [show (inB (L 0) (-1) ((s.nj : Int) - 1) && (inB (L 1) 0 ((s.np : Int) - 1) && (pointB (L 3) (L 4) (L 5) && (decide (L 6 = 0 ∧ L 7 = 0 ∧ L 8 = 0) && (decide (L 9 = 0 ∧ L 10 = 0 ∧ L 11 = 0) && inB (L 12) 1 4194304))))) = shapeB s.nj s.np L by
      unfold shapeB
      rw [if_pos h0, Bool.eq_iff_iff]
      simp only [Bool.and_eq_true, decide_eq_true_eq]
      constructor <;> (intro h; simp only [and_assoc] at h ⊢; exact h)] at this
  · by_cases h1 : L 2 = 1
    · rw [h1]
      have := rshape_face s a hnj hnp (L 0) (L 1) (L 3) (L 4) (L 5) (L 6) (L 7) (L 8) (L 9) (L 10) (L 11) (L 12) w
      rwa [show (inB (L 0) (-1) ((s.nj : Int) - 1) && (inB (L 1) 0 ((s.np : Int) - 1) && (pointB (L 3) (L 4) (L 5) && (pointB (L 6) (L 7) (L 8) && (pointB (L 9) (L 10) (L 11) && decide (L 12 = 0)))))) = shapeB s.nj s.np L by
        unfold shapeB
        rw [if_neg h0, Bool.eq_iff_iff]
        simp only [Bool.and_eq_true, decide_eq_true_eq, h1, true_and]
        constructor <;> (intro h; simp only [and_assoc] at h ⊢; exact h)] at this
    · have := rshape_other s a hnj hnp (L 2) h0 h1 (L 0) (L 1) (L 3) (L 4) (L 5) (L 6) (L 7) (L 8) (L 9) (L 10) (L 11) (L 12) w
      rwa [show false = shapeB s.nj s.np L by unfold shapeB; rw [if_neg h0]; simp [h1]] at this

end Go.Proofs.YtplcbdmiccpnnaaGreat.Sc
