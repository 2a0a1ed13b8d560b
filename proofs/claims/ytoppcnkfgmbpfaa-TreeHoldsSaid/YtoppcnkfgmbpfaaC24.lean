/- The contract of the document's own amount, and the first axis widest. -/
import Derived.Test.YtoppcnkfgmbpfaaC23
namespace Go.Proofs.Ytoppcnkfgmbpfaa.Ve
open Go.RowKit Go.Proofs.Ytoppcnkfgmbpfaa Go.Proofs.Ytoppcnkfgmbpfaa.Wa

theorem below_draws {B : Nat} {a w : World} (h : Below B a w) (n : Nat) : Below B a (w.drewN n) := h.trans ⟨rfl, rfl, rfl, Nat.le_refl _, fun _ _ => rfl⟩

theorem quiet_more {P : Program} {f : FuncId} {args : Array Value} {w : World} {i j : Nat} {v : Value} (h : Calls P f args (w.drewN (i + j)) fun e w' => e = .returned v ∧ w.drewN (i + j) = w') :
    Calls P f args (w.drewN (i + j)) fun e w' => e = .returned v ∧ ∃ m, w' = w.drewN (i + m) := h.mono fun _ _ ⟨x, y⟩ => ⟨x, j, y.symm⟩

theorem ramount_any (n : Int) (w : World) : Calls Try.prog 54 #[.int .i64 n] w fun e w' => e = .returned (.int .i64 (Pl.amount n)) ∧ w = w' := by
  have b0 := Pl.held_lo n
  have b1 := Pl.held_hi n
  by_cases h : Pl.held n < 0
  · go_enter Try.func54, Try.ntmps54
    go_wp2_with (go_at_call 69; refine (held_any _ _).mono ?_; rintro e w1 ⟨rfl, rfl⟩)
    go_ret
    exact ⟨ret_int (by unfold Pl.amount; rw [if_pos h]), rfl⟩
  · go_enter Try.func54, Try.ntmps54
    go_wp2_with (go_at_call 69; refine (held_any _ _).mono ?_; rintro e w1 ⟨rfl, rfl⟩)
    go_ret
    exact ⟨ret_int (by unfold Pl.amount; rw [if_neg (by omega)]), rfl⟩

set_option maxHeartbeats 4000000 in
theorem rwidest_0 (ax ay az : Int) (h1 : Pl.amount ay ≤ Pl.amount ax) (h2 : Pl.amount az ≤ Pl.amount ax) (w : World) :
    Calls Try.prog 33 #[V3 ax ay az] w fun e w' => e = .returned (.int .i64 0) ∧ Below w.heap.size w w' := by
  go_enter Try.func33, Try.ntmps33
  go_wp2
  refine wp_loop_rounds 3 ?_
  rw [rounds_succ]
  go_wp2_with fail
  go_quiet ((go_at_call 54; (first | exact Calls.quiet_of_same (flip (ramount_any _ _)) | exact quiet_more (ramount_any _ _))))
  go_wp2
  go_ret
  exact ⟨rfl, by repeat (first | exact below_n1 _ _ | refine below_draws ?_ _)⟩

set_option maxHeartbeats 4000000 in
theorem rwidest_1 (ax ay az : Int) (h1 : Pl.amount ax < Pl.amount ay) (h2 : Pl.amount az ≤ Pl.amount ay) (w : World) :
    Calls Try.prog 33 #[V3 ax ay az] w fun e w' => e = .returned (.int .i64 1) ∧ Below w.heap.size w w' := by
  have d0 : decide (Pl.amount ay ≤ Pl.amount ax) = false := by simp; omega
  have p0 : Pl.amount ax ≤ Pl.amount ay := by omega
  go_enter Try.func33, Try.ntmps33
  go_wp2
  refine wp_loop_rounds 3 ?_
  rw [rounds_succ]
  go_wp2_with fail
  go_quiet ((go_at_call 54; (first | exact Calls.quiet_of_same (flip (ramount_any _ _)) | exact quiet_more (ramount_any _ _))))
  go_wp2
  rw [rounds_succ]
  go_wp2_with fail
  go_quiet ((go_at_call 54; (first | exact Calls.quiet_of_same (flip (ramount_any _ _)) | exact quiet_more (ramount_any _ _))))
  go_wp2
  go_ret
  exact ⟨rfl, by repeat (first | exact below_n1 _ _ | refine below_draws ?_ _)⟩

end Go.Proofs.Ytoppcnkfgmbpfaa.Ve
