/- Scenes: the contracts of the program's small questions: what lies in a span, lights, headers, paints. -/
import Derived.Test.YtplcbdmiccpnnaaGreatC16
import Derived.Lib.Hide
namespace Go.Proofs.YtplcbdmiccpnnaaGreat.Sc
open Go.RowKit Go.Proofs.YtplcbdmiccpnnaaGreat Go.Proofs.YtplcbdmiccpnnaaGreat.Wa Go.Proofs.YtplcbdmiccpnnaaGreat.Ve Go.Proofs.YtplcbdmiccpnnaaGreat.Tk
set_option linter.unusedVariables false

set_option maxHeartbeats 4000000 in
set_option maxRecDepth 100000 in
theorem lies_any (n a b : Int) (w : World) : Calls Tryz.prog 71 #[.int .i64 n, .int .i64 a, .int .i64 b] w fun e w' => e = .returned (.bool (inB n a b)) ∧ w = w' := by
  have key : ∀ p0 p1 : Bool, decide (a ≤ n) = p0 → decide (n ≤ b) = p1 → Calls Tryz.prog 71 #[.int .i64 n, .int .i64 a, .int .i64 b] w fun e w' => e = .returned (.bool (p0 && p1)) ∧ w = w' := by
    intro p0 p1 h0 h1
    cases p0
    · skip
      replace h0 := of_decide_eq_false h0
      clear h1
      go_enter Tryz.func71, Tryz.ntmps71
      go_wp2
      go_ret
      exact ⟨rfl, rfl⟩
    · skip
      replace h0 := of_decide_eq_true h0
      cases p1
      · skip
        replace h1 := of_decide_eq_false h1
        go_enter Tryz.func71, Tryz.ntmps71
        go_wp2
        go_ret
        exact ⟨rfl, rfl⟩
      · skip
        replace h1 := of_decide_eq_true h1
        go_enter Tryz.func71, Tryz.ntmps71
        go_wp2
        go_ret
        exact ⟨rfl, rfl⟩
  have := key _ _ rfl rfl
  rwa [show ((decide (a ≤ n) && decide (n ≤ b))) = inB n a b by unfold inB; simp only [Bool.decide_and]] at this

theorem lies_is (n a b : Int) (v : Bool) (h : inB n a b = v) (w : World) : Calls Tryz.prog 71 #[.int .i64 n, .int .i64 a, .int .i64 b] w fun e w' => e = .returned (.bool v) ∧ w = w' := by
  subst h; exact lies_any n a b w

set_option maxHeartbeats 4000000 in
set_option maxRecDepth 100000 in
theorem fies_any (n a b : Int) (w : World) : Calls Tryz.prog 72 #[.int .i64 n, .int .i64 a, .int .i64 b] w fun e w' => e = .returned (.bool (inB n a b)) ∧ w = w' := by
  have key : ∀ p0 p1 : Bool, decide (a ≤ n) = p0 → decide (n ≤ b) = p1 → Calls Tryz.prog 72 #[.int .i64 n, .int .i64 a, .int .i64 b] w fun e w' => e = .returned (.bool (p0 && p1)) ∧ w = w' := by
    intro p0 p1 h0 h1
    cases p0
    · skip
      replace h0 := of_decide_eq_false h0
      clear h1
      go_enter Tryz.func72, Tryz.ntmps72
      go_wp2
      go_ret
      exact ⟨rfl, rfl⟩
    · skip
      replace h0 := of_decide_eq_true h0
      cases p1
      · skip
        replace h1 := of_decide_eq_false h1
        go_enter Tryz.func72, Tryz.ntmps72
        go_wp2
        go_ret
        exact ⟨rfl, rfl⟩
      · skip
        replace h1 := of_decide_eq_true h1
        go_enter Tryz.func72, Tryz.ntmps72
        go_wp2
        go_ret
        exact ⟨rfl, rfl⟩
  have := key _ _ rfl rfl
  rwa [show ((decide (a ≤ n) && decide (n ≤ b))) = inB n a b by unfold inB; simp only [Bool.decide_and]] at this

theorem fies_is (n a b : Int) (v : Bool) (h : inB n a b = v) (w : World) : Calls Tryz.prog 72 #[.int .i64 n, .int .i64 a, .int .i64 b] w fun e w' => e = .returned (.bool v) ∧ w = w' := by
  subst h; exact fies_any n a b w

set_option maxHeartbeats 4000000 in
set_option maxRecDepth 100000 in
theorem rin_any (n a b : Int) (w : World) : Calls Tryz.prog 81 #[.int .i64 n, .int .i64 a, .int .i64 b] w fun e w' => e = .returned (.bool (inB n a b)) ∧ w = w' := by
  have key : ∀ p0 p1 : Bool, decide (a ≤ n) = p0 → decide (n ≤ b) = p1 → Calls Tryz.prog 81 #[.int .i64 n, .int .i64 a, .int .i64 b] w fun e w' => e = .returned (.bool (p0 && p1)) ∧ w = w' := by
    intro p0 p1 h0 h1
    cases p0
    · skip
      replace h0 := of_decide_eq_false h0
      clear h1
      go_enter Tryz.func81, Tryz.ntmps81
      go_wp2
      go_ret
      exact ⟨rfl, rfl⟩
    · skip
      replace h0 := of_decide_eq_true h0
      cases p1
      · skip
        replace h1 := of_decide_eq_false h1
        go_enter Tryz.func81, Tryz.ntmps81
        go_wp2
        go_ret
        exact ⟨rfl, rfl⟩
      · skip
        replace h1 := of_decide_eq_true h1
        go_enter Tryz.func81, Tryz.ntmps81
        go_wp2
        go_ret
        exact ⟨rfl, rfl⟩
  have := key _ _ rfl rfl
  rwa [show ((decide (a ≤ n) && decide (n ≤ b))) = inB n a b by unfold inB; simp only [Bool.decide_and]] at this

theorem rin_is (n a b : Int) (v : Bool) (h : inB n a b = v) (w : World) : Calls Tryz.prog 81 #[.int .i64 n, .int .i64 a, .int .i64 b] w fun e w' => e = .returned (.bool v) ∧ w = w' := by
  subst h; exact rin_any n a b w

set_option maxHeartbeats 4000000 in
set_option maxRecDepth 100000 in
theorem one_any (n m : Int) (w : World) : Calls Tryz.prog 77 #[.int .i64 n, .int .i64 m] w fun e w' => e = .returned (.bool (inB n 0 (m - 1))) ∧ w = w' := by
  have key : ∀ p0 p1 : Bool, decide (0 ≤ n) = p0 → decide (n < m) = p1 → Calls Tryz.prog 77 #[.int .i64 n, .int .i64 m] w fun e w' => e = .returned (.bool (p0 && p1)) ∧ w = w' := by
    intro p0 p1 h0 h1
    cases p0
    · skip
      replace h0 := of_decide_eq_false h0
      clear h1
      go_enter Tryz.func77, Tryz.ntmps77
      go_wp2
      go_ret
      exact ⟨rfl, rfl⟩
    · skip
      replace h0 := of_decide_eq_true h0
      cases p1
      · skip
        replace h1 := of_decide_eq_false h1
        go_enter Tryz.func77, Tryz.ntmps77
        go_wp2
        go_ret
        exact ⟨rfl, rfl⟩
      · skip
        replace h1 := of_decide_eq_true h1
        go_enter Tryz.func77, Tryz.ntmps77
        go_wp2
        go_ret
        exact ⟨rfl, rfl⟩
  have := key _ _ rfl rfl
  rwa [show ((decide (0 ≤ n) && decide (n < m))) = inB n 0 (m - 1) by unfold inB; rw [← Bool.decide_and]; exact decide_eq_decide.2 (by omega)] at this

theorem one_is (n m : Int) (v : Bool) (h : inB n 0 (m - 1) = v) (w : World) : Calls Tryz.prog 77 #[.int .i64 n, .int .i64 m] w fun e w' => e = .returned (.bool v) ∧ w = w' := by
  subst h; exact one_any n m w

theorem none_any (n m : Int) (hm : 0 ≤ m) (w : World) : Calls Tryz.prog 76 #[.int .i64 n, .int .i64 m] w fun e w' => e = .returned (.bool (inB n (-1) (m - 1))) ∧ w = w' := by
  by_cases h1 : n = -1
  · subst h1
    have e1 : inB (-1) (-1) (m - 1) = true := inB_true.2 (by omega)
    rw [e1]
    go_enter Tryz.func76, Tryz.ntmps76
    go_wp2
    go_ret
    exact ⟨rfl, rfl⟩
  · have e1 : inB n (-1) (m - 1) = inB n 0 (m - 1) := by unfold inB; exact decide_eq_decide.2 (by omega)
    rw [e1]
    obtain ⟨v, hv⟩ : ∃ v, inB n 0 (m - 1) = v := ⟨_, rfl⟩
    have HV := Lib.hid hv
    rw [hv]
    clear hv e1
    go_enter Tryz.func76, Tryz.ntmps76
    go_wp2_with (go_at_call 77; with_reducible (refine (one_is _ _ _ HV.out _).mono ?_); rintro e w' ⟨rfl, rfl⟩)
    go_ret
    have e3 : (n == -1) = false := by simp [h1]
    exact ⟨by simp [e3], rfl⟩

theorem none_is (n m : Int) (hm : 0 ≤ m) (v : Bool) (h : inB n (-1) (m - 1) = v) (w : World) : Calls Tryz.prog 76 #[.int .i64 n, .int .i64 m] w fun e w' => e = .returned (.bool v) ∧ w = w' := by
  subst h; exact none_any n m hm w

set_option maxHeartbeats 4000000 in
set_option maxRecDepth 100000 in
theorem light_any (r g b : Int) (w : World) : Calls Tryz.prog 73 #[V3 r g b] w fun e w' => e = .returned (.bool (lightB r g b)) ∧ Below w.heap.size w w' := by
  have key : ∀ p0 p1 p2 : Bool, inB r 0 1048576 = p0 → inB g 0 1048576 = p1 → inB b 0 1048576 = p2 → Calls Tryz.prog 73 #[V3 r g b] w fun e w' => e = .returned (.bool (p0 && (p1 && p2))) ∧ Below w.heap.size w w' := by
    intro p0 p1 p2 h0 h1 h2
    have H0 := Lib.hid h0
    clear h0
    have H1 := Lib.hid h1
    clear h1
    have H2 := Lib.hid h2
    clear h2
    cases p0
    · skip
      go_enter Tryz.func73, Tryz.ntmps73
      go_wp2_with (go_at_call 72; with_reducible (first | refine (fies_is _ _ _ _ H0.out _).mono ?_ | refine (fies_is _ _ _ _ H1.out _).mono ?_ | refine (fies_is _ _ _ _ H2.out _).mono ?_); rintro e w' ⟨rfl, rfl⟩)
      go_ret
      exact ⟨rfl, below_n1 _ _⟩
    · skip
      cases p1
      · skip
        go_enter Tryz.func73, Tryz.ntmps73
        go_wp2_with (go_at_call 72; with_reducible (first | refine (fies_is _ _ _ _ H0.out _).mono ?_ | refine (fies_is _ _ _ _ H1.out _).mono ?_ | refine (fies_is _ _ _ _ H2.out _).mono ?_); rintro e w' ⟨rfl, rfl⟩)
        go_ret
        exact ⟨rfl, below_n1 _ _⟩
      · skip
        cases p2
        · skip
          go_enter Tryz.func73, Tryz.ntmps73
          go_wp2_with (go_at_call 72; with_reducible (first | refine (fies_is _ _ _ _ H0.out _).mono ?_ | refine (fies_is _ _ _ _ H1.out _).mono ?_ | refine (fies_is _ _ _ _ H2.out _).mono ?_); rintro e w' ⟨rfl, rfl⟩)
          go_ret
          exact ⟨rfl, below_n1 _ _⟩
        · skip
          go_enter Tryz.func73, Tryz.ntmps73
          go_wp2_with (go_at_call 72; with_reducible (first | refine (fies_is _ _ _ _ H0.out _).mono ?_ | refine (fies_is _ _ _ _ H1.out _).mono ?_ | refine (fies_is _ _ _ _ H2.out _).mono ?_); rintro e w' ⟨rfl, rfl⟩)
          go_ret
          exact ⟨rfl, below_n1 _ _⟩
  have := key _ _ _ rfl rfl rfl
  rwa [show ((inB r 0 1048576 && (inB g 0 1048576 && inB b 0 1048576))) = lightB r g b by unfold lightB; simp only [Bool.and_assoc]] at this

theorem light_is (r g b : Int) (v : Bool) (h : lightB r g b = v) (w : World) : Calls Tryz.prog 73 #[V3 r g b] w fun e w' => e = .returned (.bool v) ∧ Below w.heap.size w w' := by
  subst h; exact light_any r g b w

set_option maxHeartbeats 4000000 in
set_option maxRecDepth 100000 in
theorem paint_any (k r g b q : Int) (w : World) : Calls Tryz.prog 44 #[.agg #[.int .i64 k, .int .i64 r, .int .i64 g, .int .i64 b, .int .i64 q]] w fun e w' => e = .returned (.bool (paintB k r g b q)) ∧ Below w.heap.size w w' := by
  have key : ∀ p0 p1 p2 : Bool, inB k 0 3 = p0 → lightB r g b = p1 → inB q 0 65536 = p2 → Calls Tryz.prog 44 #[.agg #[.int .i64 k, .int .i64 r, .int .i64 g, .int .i64 b, .int .i64 q]] w fun e w' => e = .returned (.bool (p0 && (p1 && p2))) ∧ Below w.heap.size w w' := by
    intro p0 p1 p2 h0 h1 h2
    have H0 := Lib.hid h0
    clear h0
    have H1 := Lib.hid h1
    clear h1
    have H2 := Lib.hid h2
    clear h2
    cases p0
    · skip
      go_enter Tryz.func44, Tryz.ntmps44
      go_wp2_with (first | (go_at_call 71; with_reducible (refine (lies_is _ _ _ _ H0.out _).mono ?_); rintro e w' ⟨rfl, rfl⟩) | (go_at_call 73; with_reducible (refine (light_is _ _ _ _ H1.out _).mono ?_); rintro e w1 ⟨rfl, hb1⟩; obtain ⟨hc1, hf1⟩ := bcell hb1) | (go_at_call 72; with_reducible (refine (fies_is _ _ _ _ H2.out _).mono ?_); rintro e w' ⟨rfl, rfl⟩))
      go_ret
      exact ⟨rfl, by first | exact below_n1 _ _ | exact (below_n1 _ _).trans (hb1.mono (by simp))⟩
    · skip
      cases p1
      · skip
        go_enter Tryz.func44, Tryz.ntmps44
        go_wp2_with (first | (go_at_call 71; with_reducible (refine (lies_is _ _ _ _ H0.out _).mono ?_); rintro e w' ⟨rfl, rfl⟩) | (go_at_call 73; with_reducible (refine (light_is _ _ _ _ H1.out _).mono ?_); rintro e w1 ⟨rfl, hb1⟩; obtain ⟨hc1, hf1⟩ := bcell hb1) | (go_at_call 72; with_reducible (refine (fies_is _ _ _ _ H2.out _).mono ?_); rintro e w' ⟨rfl, rfl⟩))
        go_ret
        exact ⟨rfl, by first | exact below_n1 _ _ | exact (below_n1 _ _).trans (hb1.mono (by simp))⟩
      · skip
        cases p2
        · skip
          go_enter Tryz.func44, Tryz.ntmps44
          go_wp2_with (first | (go_at_call 71; with_reducible (refine (lies_is _ _ _ _ H0.out _).mono ?_); rintro e w' ⟨rfl, rfl⟩) | (go_at_call 73; with_reducible (refine (light_is _ _ _ _ H1.out _).mono ?_); rintro e w1 ⟨rfl, hb1⟩; obtain ⟨hc1, hf1⟩ := bcell hb1) | (go_at_call 72; with_reducible (refine (fies_is _ _ _ _ H2.out _).mono ?_); rintro e w' ⟨rfl, rfl⟩))
          go_ret
          exact ⟨rfl, by first | exact below_n1 _ _ | exact (below_n1 _ _).trans (hb1.mono (by simp))⟩
        · skip
          go_enter Tryz.func44, Tryz.ntmps44
          go_wp2_with (first | (go_at_call 71; with_reducible (refine (lies_is _ _ _ _ H0.out _).mono ?_); rintro e w' ⟨rfl, rfl⟩) | (go_at_call 73; with_reducible (refine (light_is _ _ _ _ H1.out _).mono ?_); rintro e w1 ⟨rfl, hb1⟩; obtain ⟨hc1, hf1⟩ := bcell hb1) | (go_at_call 72; with_reducible (refine (fies_is _ _ _ _ H2.out _).mono ?_); rintro e w' ⟨rfl, rfl⟩))
          go_ret
          exact ⟨rfl, by first | exact below_n1 _ _ | exact (below_n1 _ _).trans (hb1.mono (by simp))⟩
  have := key _ _ _ rfl rfl rfl
  rwa [show ((inB k 0 3 && (lightB r g b && inB q 0 65536))) = paintB k r g b q by unfold paintB; simp only [Bool.and_assoc]] at this

end Go.Proofs.YtplcbdmiccpnnaaGreat.Sc
