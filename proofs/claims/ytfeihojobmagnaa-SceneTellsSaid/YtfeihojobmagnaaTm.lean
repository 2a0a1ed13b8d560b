/- The contracts of whether a key may be. -/
import Derived.Test.YtfeihojobmagnaaTk
namespace Go.Proofs.Ytfeihojobmagnaa.Tk
open Go.RowKit Go.Proofs.Ytfeihojobmagnaa Go.Proofs.Ytfeihojobmagnaa.Wa Go.Proofs.Ytfeihojobmagnaa.Ve

theorem lies_yes (n a b : Int) (h : a ≤ n ∧ n ≤ b) (w : World) : Calls Try.prog 156 #[.int .i64 n, .int .i64 a, .int .i64 b] w fun e w' => e = .returned (.bool true) ∧ w = w' := by
  obtain ⟨h1, h2⟩ := h
  go_enter Try.func156, Try.ntmps156
  go_wp2
  go_ret
  exact ⟨rfl, rfl⟩

theorem lies_no (n a b : Int) (h : ¬ (a ≤ n ∧ n ≤ b)) (w : World) : Calls Try.prog 156 #[.int .i64 n, .int .i64 a, .int .i64 b] w fun e w' => e = .returned (.bool false) ∧ w = w' := by
  by_cases h1 : a ≤ n
  · have h2 : ¬ n ≤ b := fun h2 => h ⟨h1, h2⟩
    clear h
    go_enter Try.func156, Try.ntmps156
    go_wp2
    go_ret
    exact ⟨rfl, rfl⟩
  · clear h
    go_enter Try.func156, Try.ntmps156
    go_wp2
    go_ret
    exact ⟨rfl, rfl⟩

theorem lies_any (n a b : Int) (w : World) : Calls Try.prog 156 #[.int .i64 n, .int .i64 a, .int .i64 b] w fun e w' => e = .returned (.bool (decide (a ≤ n ∧ n ≤ b))) ∧ w = w' := by
  by_cases h : a ≤ n ∧ n ≤ b
  · rw [decide_eq_true h]; exact lies_yes n a b h w
  · rw [decide_eq_false h]; exact lies_no n a b h w

/-- the same, by what is known of the answer -/
theorem lies_is (n a b : Int) (v : Bool) (h : decide (a ≤ n ∧ n ≤ b) = v) (w : World) : Calls Try.prog 156 #[.int .i64 n, .int .i64 a, .int .i64 b] w fun e w' => e = .returned (.bool v) ∧ w = w' := by
  subst h; exact lies_any n a b w

set_option maxHeartbeats 2000000 in
theorem mayBe_any (t x y z : Int) (w : World) : Calls Try.prog 118 #[K4 t x y z] w fun e w' => e = .returned (.bool (mayB t x y z)) ∧ Below w.heap.size w w' := by
  have key : ∀ p q r s : Bool, decide (0 ≤ t ∧ t ≤ 2097152) = p → decide (-2147483648 ≤ x ∧ x ≤ 2147483648) = q → decide (-2147483648 ≤ y ∧ y ≤ 2147483648) = r → decide (-2147483648 ≤ z ∧ z ≤ 2147483648) = s →
      Calls Try.prog 118 #[K4 t x y z] w fun e w' => e = .returned (.bool (p && (q && (r && s)))) ∧ Below w.heap.size w w' := by
    intro p q r s hp hq hr hs
    have HP := Lib.hid hp
    have HQ := Lib.hid hq
    have HR := Lib.hid hr
    have HS := Lib.hid hs
    clear hp hq hr hs
    cases p
    · go_enter Try.func118, Try.ntmps118
      go_wp2_with (go_at_call 156; with_reducible (first | refine (lies_is _ _ _ _ HP.out _).mono ?_ | refine (lies_is _ _ _ _ HQ.out _).mono ?_ | refine (lies_is _ _ _ _ HR.out _).mono ?_ | refine (lies_is _ _ _ _ HS.out _).mono ?_); rintro e w' ⟨rfl, rfl⟩)
      go_ret
      exact ⟨rfl, below_n1 _ _⟩
    · skip
      cases q
      · go_enter Try.func118, Try.ntmps118
        go_wp2_with (go_at_call 156; with_reducible (first | refine (lies_is _ _ _ _ HP.out _).mono ?_ | refine (lies_is _ _ _ _ HQ.out _).mono ?_ | refine (lies_is _ _ _ _ HR.out _).mono ?_ | refine (lies_is _ _ _ _ HS.out _).mono ?_); rintro e w' ⟨rfl, rfl⟩)
        go_ret
        exact ⟨rfl, below_n1 _ _⟩
      · skip
        cases r
        · go_enter Try.func118, Try.ntmps118
          go_wp2_with (go_at_call 156; with_reducible (first | refine (lies_is _ _ _ _ HP.out _).mono ?_ | refine (lies_is _ _ _ _ HQ.out _).mono ?_ | refine (lies_is _ _ _ _ HR.out _).mono ?_ | refine (lies_is _ _ _ _ HS.out _).mono ?_); rintro e w' ⟨rfl, rfl⟩)
          go_ret
          exact ⟨rfl, below_n1 _ _⟩
        · skip
          cases s
          · go_enter Try.func118, Try.ntmps118
            go_wp2_with (go_at_call 156; with_reducible (first | refine (lies_is _ _ _ _ HP.out _).mono ?_ | refine (lies_is _ _ _ _ HQ.out _).mono ?_ | refine (lies_is _ _ _ _ HR.out _).mono ?_ | refine (lies_is _ _ _ _ HS.out _).mono ?_); rintro e w' ⟨rfl, rfl⟩)
            go_ret
            exact ⟨rfl, below_n1 _ _⟩
          · go_enter Try.func118, Try.ntmps118
            go_wp2_with (go_at_call 156; with_reducible (first | refine (lies_is _ _ _ _ HP.out _).mono ?_ | refine (lies_is _ _ _ _ HQ.out _).mono ?_ | refine (lies_is _ _ _ _ HR.out _).mono ?_ | refine (lies_is _ _ _ _ HS.out _).mono ?_); rintro e w' ⟨rfl, rfl⟩)
            go_ret
            exact ⟨rfl, below_n1 _ _⟩
  have := key _ _ _ _ rfl rfl rfl rfl
  rwa [show (decide (0 ≤ t ∧ t ≤ 2097152) && (decide (-2147483648 ≤ x ∧ x ≤ 2147483648) && (decide (-2147483648 ≤ y ∧ y ≤ 2147483648) && decide (-2147483648 ≤ z ∧ z ≤ 2147483648)))) = mayB t x y z by unfold mayB; simp only [Bool.decide_and]] at this
end Go.Proofs.Ytfeihojobmagnaa.Tk
