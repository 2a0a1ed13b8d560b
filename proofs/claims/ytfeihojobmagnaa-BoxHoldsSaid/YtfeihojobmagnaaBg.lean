/- Boxes: whether all numbers are in the span: it answers. -/
import Derived.Test.YtfeihojobmagnaaBa
import Derived.Test.YtfeihojobmagnaaVza
import Derived.BigQuiet
namespace Go.Proofs.Ytfeihojobmagnaa.Bx
open Go.RowKit Go.Proofs.Ytfeihojobmagnaa Go.Proofs.Ytfeihojobmagnaa.Wa Go.Proofs.Ytfeihojobmagnaa.Ve
set_option linter.unusedVariables false

theorem bdn2 {B : Nat} {w wr : World} (h : Below B w wr) (k : Nat) : Below B w (wr.drewN k) := ⟨h.os, h.tape, h.output, h.size, h.block⟩

set_option maxHeartbeats 4000000 in
set_option maxRecDepth 100000 in
theorem held_ans (a b c d e f : Int) (w : World) : Calls Try.prog 56 #[B6 a b c d e f] w fun e' w' => (∃ v, e' = .returned (.bool v)) ∧ Below w.heap.size w w' := by
  obtain ⟨v0, hv0⟩ : ∃ v, decide (a = Pl.held a) = v := ⟨_, rfl⟩
  have d0 : (a == Pl.held a) = v0 := hv0
  have n0 : (a != Pl.held a) = !v0 := by rw [← d0]; rfl
  obtain ⟨v1, hv1⟩ : ∃ v, decide (d = Pl.held d) = v := ⟨_, rfl⟩
  have d1 : (d == Pl.held d) = v1 := hv1
  have n1 : (d != Pl.held d) = !v1 := by rw [← d1]; rfl
  obtain ⟨v2, hv2⟩ : ∃ v, decide (b = Pl.held b) = v := ⟨_, rfl⟩
  have d2 : (b == Pl.held b) = v2 := hv2
  have n2 : (b != Pl.held b) = !v2 := by rw [← d2]; rfl
  obtain ⟨v3, hv3⟩ : ∃ v, decide (e = Pl.held e) = v := ⟨_, rfl⟩
  have d3 : (e == Pl.held e) = v3 := hv3
  have n3 : (e != Pl.held e) = !v3 := by rw [← d3]; rfl
  obtain ⟨v4, hv4⟩ : ∃ v, decide (c = Pl.held c) = v := ⟨_, rfl⟩
  have d4 : (c == Pl.held c) = v4 := hv4
  have n4 : (c != Pl.held c) = !v4 := by rw [← d4]; rfl
  obtain ⟨v5, hv5⟩ : ∃ v, decide (f = Pl.held f) = v := ⟨_, rfl⟩
  have d5 : (f == Pl.held f) = v5 := hv5
  have n5 : (f != Pl.held f) = !v5 := by rw [← d5]; rfl
  cases v0
  · skip
    go_enter Try.func56, Try.ntmps56
    go_wp2
    refine wp_loop_rounds 4 ?_
    rw [rounds_succ]
    go_wp2_with fail
    go_quiet ((go_at_call 104; (first | exact Calls.quiet_of_same (flip (held_any _ _)) | exact quiet_more (held_any _ _))))
    go_wp2
    go_ret
    exact ⟨⟨_, rfl⟩, by repeat (first | exact below_n1 _ _ | apply bdn2)⟩
  · skip
    cases v1
    · skip
      go_enter Try.func56, Try.ntmps56
      go_wp2
      refine wp_loop_rounds 4 ?_
      rw [rounds_succ]
      go_wp2_with fail
      go_quiet ((go_at_call 104; (first | exact Calls.quiet_of_same (flip (held_any _ _)) | exact quiet_more (held_any _ _))))
      go_wp2
      go_ret
      exact ⟨⟨_, rfl⟩, by repeat (first | exact below_n1 _ _ | apply bdn2)⟩
    · skip
      cases v2
      · skip
        go_enter Try.func56, Try.ntmps56
        go_wp2
        refine wp_loop_rounds 4 ?_
        rw [rounds_succ]
        go_wp2_with fail
        go_quiet ((go_at_call 104; (first | exact Calls.quiet_of_same (flip (held_any _ _)) | exact quiet_more (held_any _ _))))
        go_wp2
        rw [rounds_succ]
        go_wp2_with fail
        go_quiet ((go_at_call 104; (first | exact Calls.quiet_of_same (flip (held_any _ _)) | exact quiet_more (held_any _ _))))
        go_wp2
        go_ret
        exact ⟨⟨_, rfl⟩, by repeat (first | exact below_n1 _ _ | apply bdn2)⟩
      · skip
        cases v3
        · skip
          go_enter Try.func56, Try.ntmps56
          go_wp2
          refine wp_loop_rounds 4 ?_
          rw [rounds_succ]
          go_wp2_with fail
          go_quiet ((go_at_call 104; (first | exact Calls.quiet_of_same (flip (held_any _ _)) | exact quiet_more (held_any _ _))))
          go_wp2
          rw [rounds_succ]
          go_wp2_with fail
          go_quiet ((go_at_call 104; (first | exact Calls.quiet_of_same (flip (held_any _ _)) | exact quiet_more (held_any _ _))))
          go_wp2
          go_ret
          exact ⟨⟨_, rfl⟩, by repeat (first | exact below_n1 _ _ | apply bdn2)⟩
        · skip
          cases v4
          · skip
            go_enter Try.func56, Try.ntmps56
            go_wp2
            refine wp_loop_rounds 4 ?_
            rw [rounds_succ]
            go_wp2_with fail
            go_quiet ((go_at_call 104; (first | exact Calls.quiet_of_same (flip (held_any _ _)) | exact quiet_more (held_any _ _))))
            go_wp2
            rw [rounds_succ]
            go_wp2_with fail
            go_quiet ((go_at_call 104; (first | exact Calls.quiet_of_same (flip (held_any _ _)) | exact quiet_more (held_any _ _))))
            go_wp2
            rw [rounds_succ]
            go_wp2_with fail
            go_quiet ((go_at_call 104; (first | exact Calls.quiet_of_same (flip (held_any _ _)) | exact quiet_more (held_any _ _))))
            go_wp2
            go_ret
            exact ⟨⟨_, rfl⟩, by repeat (first | exact below_n1 _ _ | apply bdn2)⟩
          · skip
            cases v5
            · skip
              go_enter Try.func56, Try.ntmps56
              go_wp2
              refine wp_loop_rounds 4 ?_
              rw [rounds_succ]
              go_wp2_with fail
              go_quiet ((go_at_call 104; (first | exact Calls.quiet_of_same (flip (held_any _ _)) | exact quiet_more (held_any _ _))))
              go_wp2
              rw [rounds_succ]
              go_wp2_with fail
              go_quiet ((go_at_call 104; (first | exact Calls.quiet_of_same (flip (held_any _ _)) | exact quiet_more (held_any _ _))))
              go_wp2
              rw [rounds_succ]
              go_wp2_with fail
              go_quiet ((go_at_call 104; (first | exact Calls.quiet_of_same (flip (held_any _ _)) | exact quiet_more (held_any _ _))))
              go_wp2
              go_ret
              exact ⟨⟨_, rfl⟩, by repeat (first | exact below_n1 _ _ | apply bdn2)⟩
            · skip
              go_enter Try.func56, Try.ntmps56
              go_wp2
              refine wp_loop_rounds 4 ?_
              rw [rounds_succ]
              go_wp2_with fail
              go_quiet ((go_at_call 104; (first | exact Calls.quiet_of_same (flip (held_any _ _)) | exact quiet_more (held_any _ _))))
              go_wp2
              rw [rounds_succ]
              go_wp2_with fail
              go_quiet ((go_at_call 104; (first | exact Calls.quiet_of_same (flip (held_any _ _)) | exact quiet_more (held_any _ _))))
              go_wp2
              rw [rounds_succ]
              go_wp2_with fail
              go_quiet ((go_at_call 104; (first | exact Calls.quiet_of_same (flip (held_any _ _)) | exact quiet_more (held_any _ _))))
              go_wp2
              rw [rounds_succ]
              go_wp2
              go_ret
              exact ⟨⟨_, rfl⟩, by repeat (first | exact below_n1 _ _ | apply bdn2)⟩

end Go.Proofs.Ytfeihojobmagnaa.Bx
