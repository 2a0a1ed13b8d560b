/- Boxes: the document's questions, axis by axis. -/
import Derived.Test.YtfeihojobmagnaaBa
import Derived.BigQuiet
namespace Go.Proofs.Ytfeihojobmagnaa.Bx
open Go.RowKit Go.Proofs.Ytfeihojobmagnaa Go.Proofs.Ytfeihojobmagnaa.Wa Go.Proofs.Ytfeihojobmagnaa.Ve
set_option linter.unusedVariables false
set_option linter.unusedSimpArgs false

theorem bdn {B : Nat} {w wr : World} (h : Below B w wr) (k : Nat) : Below B w (wr.drewN k) := ⟨h.os, h.tape, h.output, h.size, h.block⟩

theorem ret_b {p q : Bool} (h : q = p) : Ending.returned (.bool p) = .returned (.bool q) := by rw [h]

set_option maxHeartbeats 4000000 in
set_option maxRecDepth 100000 in
theorem rhas_any (a b c d e f x y z : Int) (w : World) : Calls Try.prog 35 #[B6 a b c d e f, V3 x y z] w fun e' w' => e' = .returned (.bool (has6 a b c d e f x y z)) ∧ Below w.heap.size w w' := by
  by_cases h0 : x < a
  · have d0 := decide_eq_true h0
    go_enter Try.func35, Try.ntmps35
    go_wp2
    refine wp_loop_rounds 4 ?_
    rw [rounds_succ]
    go_wp2_with fail
    go_quiet (fail)
    go_wp2
    go_ret
    exact ⟨ret_b (by rw [← Bool.not_eq_true]; simp only [has6, le3, Bool.and_eq_true, decide_eq_true_eq]; omega), by repeat (first | exact below_n2 _ _ _ | apply bdn)⟩
  · have d0 := decide_eq_false h0
    by_cases h1 : d < x
    · have d1 := decide_eq_true h1
      go_enter Try.func35, Try.ntmps35
      go_wp2
      refine wp_loop_rounds 4 ?_
      rw [rounds_succ]
      go_wp2_with fail
      go_quiet (fail)
      go_wp2
      go_ret
      exact ⟨ret_b (by rw [← Bool.not_eq_true]; simp only [has6, le3, Bool.and_eq_true, decide_eq_true_eq]; omega), by repeat (first | exact below_n2 _ _ _ | apply bdn)⟩
    · have d1 := decide_eq_false h1
      by_cases h2 : y < b
      · have d2 := decide_eq_true h2
        go_enter Try.func35, Try.ntmps35
        go_wp2
        refine wp_loop_rounds 4 ?_
        rw [rounds_succ]
        go_wp2_with fail
        go_quiet (fail)
        go_wp2
        rw [rounds_succ]
        go_wp2_with fail
        go_quiet (fail)
        go_wp2
        go_ret
        exact ⟨ret_b (by rw [← Bool.not_eq_true]; simp only [has6, le3, Bool.and_eq_true, decide_eq_true_eq]; omega), by repeat (first | exact below_n2 _ _ _ | apply bdn)⟩
      · have d2 := decide_eq_false h2
        by_cases h3 : e < y
        · have d3 := decide_eq_true h3
          go_enter Try.func35, Try.ntmps35
          go_wp2
          refine wp_loop_rounds 4 ?_
          rw [rounds_succ]
          go_wp2_with fail
          go_quiet (fail)
          go_wp2
          rw [rounds_succ]
          go_wp2_with fail
          go_quiet (fail)
          go_wp2
          go_ret
          exact ⟨ret_b (by rw [← Bool.not_eq_true]; simp only [has6, le3, Bool.and_eq_true, decide_eq_true_eq]; omega), by repeat (first | exact below_n2 _ _ _ | apply bdn)⟩
        · have d3 := decide_eq_false h3
          by_cases h4 : z < c
          · have d4 := decide_eq_true h4
            go_enter Try.func35, Try.ntmps35
            go_wp2
            refine wp_loop_rounds 4 ?_
            rw [rounds_succ]
            go_wp2_with fail
            go_quiet (fail)
            go_wp2
            rw [rounds_succ]
            go_wp2_with fail
            go_quiet (fail)
            go_wp2
            rw [rounds_succ]
            go_wp2_with fail
            go_quiet (fail)
            go_wp2
            go_ret
            exact ⟨ret_b (by rw [← Bool.not_eq_true]; simp only [has6, le3, Bool.and_eq_true, decide_eq_true_eq]; omega), by repeat (first | exact below_n2 _ _ _ | apply bdn)⟩
          · have d4 := decide_eq_false h4
            by_cases h5 : f < z
            · have d5 := decide_eq_true h5
              go_enter Try.func35, Try.ntmps35
              go_wp2
              refine wp_loop_rounds 4 ?_
              rw [rounds_succ]
              go_wp2_with fail
              go_quiet (fail)
              go_wp2
              rw [rounds_succ]
              go_wp2_with fail
              go_quiet (fail)
              go_wp2
              rw [rounds_succ]
              go_wp2_with fail
              go_quiet (fail)
              go_wp2
              go_ret
              exact ⟨ret_b (by rw [← Bool.not_eq_true]; simp only [has6, le3, Bool.and_eq_true, decide_eq_true_eq]; omega), by repeat (first | exact below_n2 _ _ _ | apply bdn)⟩
            · have d5 := decide_eq_false h5
              go_enter Try.func35, Try.ntmps35
              go_wp2
              refine wp_loop_rounds 4 ?_
              rw [rounds_succ]
              go_wp2_with fail
              go_quiet (fail)
              go_wp2
              rw [rounds_succ]
              go_wp2_with fail
              go_quiet (fail)
              go_wp2
              rw [rounds_succ]
              go_wp2_with fail
              go_quiet (fail)
              go_wp2
              rw [rounds_succ]
              go_wp2
              go_ret
              exact ⟨ret_b (by simp only [has6, le3, Bool.and_eq_true, decide_eq_true_eq]; omega), by repeat (first | exact below_n2 _ _ _ | apply bdn)⟩

set_option maxHeartbeats 4000000 in
set_option maxRecDepth 100000 in
theorem rmeets_any (a b c d e f x y z u v t : Int) (w : World) : Calls Try.prog 38 #[B6 a b c d e f, B6 x y z u v t] w fun e' w' => e' = .returned (.bool (meets6 a b c d e f x y z u v t)) ∧ Below w.heap.size w w' := by
  by_cases h0 : u < a
  · have d0 := decide_eq_true h0
    go_enter Try.func38, Try.ntmps38
    go_wp2
    refine wp_loop_rounds 4 ?_
    rw [rounds_succ]
    go_wp2_with fail
    go_quiet (fail)
    go_wp2
    go_ret
    exact ⟨ret_b (by rw [← Bool.not_eq_true]; simp only [meets6, le3, Bool.and_eq_true, decide_eq_true_eq]; omega), by repeat (first | exact below_n2 _ _ _ | apply bdn)⟩
  · have d0 := decide_eq_false h0
    by_cases h1 : d < x
    · have d1 := decide_eq_true h1
      go_enter Try.func38, Try.ntmps38
      go_wp2
      refine wp_loop_rounds 4 ?_
      rw [rounds_succ]
      go_wp2_with fail
      go_quiet (fail)
      go_wp2
      go_ret
      exact ⟨ret_b (by rw [← Bool.not_eq_true]; simp only [meets6, le3, Bool.and_eq_true, decide_eq_true_eq]; omega), by repeat (first | exact below_n2 _ _ _ | apply bdn)⟩
    · have d1 := decide_eq_false h1
      by_cases h2 : v < b
      · have d2 := decide_eq_true h2
        go_enter Try.func38, Try.ntmps38
        go_wp2
        refine wp_loop_rounds 4 ?_
        rw [rounds_succ]
        go_wp2_with fail
        go_quiet (fail)
        go_wp2
        rw [rounds_succ]
        go_wp2_with fail
        go_quiet (fail)
        go_wp2
        go_ret
        exact ⟨ret_b (by rw [← Bool.not_eq_true]; simp only [meets6, le3, Bool.and_eq_true, decide_eq_true_eq]; omega), by repeat (first | exact below_n2 _ _ _ | apply bdn)⟩
      · have d2 := decide_eq_false h2
        by_cases h3 : e < y
        · have d3 := decide_eq_true h3
          go_enter Try.func38, Try.ntmps38
          go_wp2
          refine wp_loop_rounds 4 ?_
          rw [rounds_succ]
          go_wp2_with fail
          go_quiet (fail)
          go_wp2
          rw [rounds_succ]
          go_wp2_with fail
          go_quiet (fail)
          go_wp2
          go_ret
          exact ⟨ret_b (by rw [← Bool.not_eq_true]; simp only [meets6, le3, Bool.and_eq_true, decide_eq_true_eq]; omega), by repeat (first | exact below_n2 _ _ _ | apply bdn)⟩
        · have d3 := decide_eq_false h3
          by_cases h4 : t < c
          · have d4 := decide_eq_true h4
            go_enter Try.func38, Try.ntmps38
            go_wp2
            refine wp_loop_rounds 4 ?_
            rw [rounds_succ]
            go_wp2_with fail
            go_quiet (fail)
            go_wp2
            rw [rounds_succ]
            go_wp2_with fail
            go_quiet (fail)
            go_wp2
            rw [rounds_succ]
            go_wp2_with fail
            go_quiet (fail)
            go_wp2
            go_ret
            exact ⟨ret_b (by rw [← Bool.not_eq_true]; simp only [meets6, le3, Bool.and_eq_true, decide_eq_true_eq]; omega), by repeat (first | exact below_n2 _ _ _ | apply bdn)⟩
          · have d4 := decide_eq_false h4
            by_cases h5 : f < z
            · have d5 := decide_eq_true h5
              go_enter Try.func38, Try.ntmps38
              go_wp2
              refine wp_loop_rounds 4 ?_
              rw [rounds_succ]
              go_wp2_with fail
              go_quiet (fail)
              go_wp2
              rw [rounds_succ]
              go_wp2_with fail
              go_quiet (fail)
              go_wp2
              rw [rounds_succ]
              go_wp2_with fail
              go_quiet (fail)
              go_wp2
              go_ret
              exact ⟨ret_b (by rw [← Bool.not_eq_true]; simp only [meets6, le3, Bool.and_eq_true, decide_eq_true_eq]; omega), by repeat (first | exact below_n2 _ _ _ | apply bdn)⟩
            · have d5 := decide_eq_false h5
              go_enter Try.func38, Try.ntmps38
              go_wp2
              refine wp_loop_rounds 4 ?_
              rw [rounds_succ]
              go_wp2_with fail
              go_quiet (fail)
              go_wp2
              rw [rounds_succ]
              go_wp2_with fail
              go_quiet (fail)
              go_wp2
              rw [rounds_succ]
              go_wp2_with fail
              go_quiet (fail)
              go_wp2
              rw [rounds_succ]
              go_wp2
              go_ret
              exact ⟨ret_b (by simp only [meets6, le3, Bool.and_eq_true, decide_eq_true_eq]; omega), by repeat (first | exact below_n2 _ _ _ | apply bdn)⟩

end Go.Proofs.Ytfeihojobmagnaa.Bx
