/- The contract of layer 2's widest axis. -/
import Derived.Test.YtoppcnkfgmbpfaaE05
import Derived.WalkLawsBesides
namespace Go.Proofs.Ytoppcnkfgmbpfaa.Ve
open Go.RowKit Go.Proofs.Ytoppcnkfgmbpfaa Go.Proofs.Ytoppcnkfgmbpfaa.Wa

set_option maxHeartbeats 1000000 in
theorem vwidest_0 (ax ay az : Int) (h1 : Pl.amount ay ≤ Pl.amount ax) (h2 : Pl.amount az ≤ Pl.amount ax) (w : World) :
    Calls Try.prog 42 #[V3 ax ay az] w fun e w' => e = .returned (.int .i64 0) ∧ Below w.heap.size w w' := by
  go_enter Try.func42, Try.ntmps42
  go_wp2_with fail
  go_region_held3 (fun w' => w'.cell? ⟨w.heap.size, 0, none⟩ = some (.int .i64 ax) ∧ w'.cell? ⟨w.heap.size, 1, none⟩ = some (.int .i64 ay) ∧ w'.cell? ⟨w.heap.size, 2, none⟩ = some (.int .i64 az)) (go_keep) (first | (go_at_call 63; refine (abs_any _ _).mono ?_; rintro e w1 ⟨rfl, rfl⟩))
  go_wp2
  go_ret
  exact ⟨rfl, (below_n1 _ _).drew⟩

set_option maxHeartbeats 1000000 in
theorem vwidest_1 (ax ay az : Int) (h1 : Pl.amount ax < Pl.amount ay) (h2 : Pl.amount az ≤ Pl.amount ay) (w : World) :
    Calls Try.prog 42 #[V3 ax ay az] w fun e w' => e = .returned (.int .i64 1) ∧ Below w.heap.size w w' := by
  go_enter Try.func42, Try.ntmps42
  go_wp2_with fail
  go_region_held3 (fun w' => w'.cell? ⟨w.heap.size, 0, none⟩ = some (.int .i64 ax) ∧ w'.cell? ⟨w.heap.size, 1, none⟩ = some (.int .i64 ay) ∧ w'.cell? ⟨w.heap.size, 2, none⟩ = some (.int .i64 az)) (go_keep) (first | (go_at_call 63; refine (abs_any _ _).mono ?_; rintro e w1 ⟨rfl, rfl⟩))
  go_wp2
  go_ret
  exact ⟨rfl, (below_n1 _ _).drew⟩

set_option maxHeartbeats 1000000 in
theorem vwidest_2 (ax ay az : Int) (h1 : Pl.amount ax < Pl.amount az) (h2 : Pl.amount ay < Pl.amount az) (w : World) :
    Calls Try.prog 42 #[V3 ax ay az] w fun e w' => e = .returned (.int .i64 2) ∧ Below w.heap.size w w' := by
  go_enter Try.func42, Try.ntmps42
  go_wp2_with fail
  go_region_held3 (fun w' => w'.cell? ⟨w.heap.size, 0, none⟩ = some (.int .i64 ax) ∧ w'.cell? ⟨w.heap.size, 1, none⟩ = some (.int .i64 ay) ∧ w'.cell? ⟨w.heap.size, 2, none⟩ = some (.int .i64 az)) (go_keep) (first | (go_at_call 63; refine (abs_any _ _).mono ?_; rintro e w1 ⟨rfl, rfl⟩))
  go_wp2
  go_ret
  exact ⟨rfl, (below_n1 _ _).drew⟩

/-- the first axis whose amount none exceeds -/
def widest (x y z : Int) : Int := if y ≤ x ∧ z ≤ x then 0 else if x ≤ y ∧ z ≤ y then 1 else 2

theorem vwidest_any (ax ay az : Int) (w : World) :
    Calls Try.prog 42 #[V3 ax ay az] w fun e w' => e = .returned (.int .i64 (widest (Pl.amount ax) (Pl.amount ay) (Pl.amount az))) ∧ Below w.heap.size w w' := by
  unfold widest
  by_cases h0 : Pl.amount ay ≤ Pl.amount ax ∧ Pl.amount az ≤ Pl.amount ax
  · rw [if_pos h0]; exact vwidest_0 ax ay az h0.1 h0.2 w
  · rw [if_neg h0]
    by_cases h1 : Pl.amount ax ≤ Pl.amount ay ∧ Pl.amount az ≤ Pl.amount ay
    · rw [if_pos h1]; exact vwidest_1 ax ay az (by omega) h1.2 w
    · rw [if_neg h1]; exact vwidest_2 ax ay az (by omega) (by omega) w

end Go.Proofs.Ytoppcnkfgmbpfaa.Ve

/- The contract of the document's own amount, and the first axis widest. -/
namespace Go.Proofs.Ytoppcnkfgmbpfaa.Ve
open Go.RowKit Go.Proofs.Ytoppcnkfgmbpfaa Go.Proofs.Ytoppcnkfgmbpfaa.Wa

theorem below_draws {B : Nat} {a w : World} (h : Below B a w) (n : Nat) : Below B a (w.drewN n) := h.trans ⟨rfl, rfl, rfl, Nat.le_refl _, fun _ _ => rfl⟩

theorem quiet_more {P : Program} {f : FuncId} {args : Array Value} {w : World} {i j : Nat} {v : Value} (h : Calls P f args (w.drewN (i + j)) fun e w' => e = .returned v ∧ w.drewN (i + j) = w') :
    Calls P f args (w.drewN (i + j)) fun e w' => e = .returned v ∧ ∃ m, w' = w.drewN (i + m) := h.mono fun _ _ ⟨x, y⟩ => ⟨x, j, y.symm⟩

theorem ramount_any (n : Int) (w : World) : Calls Try.prog 54 #[.int .i64 n] w fun e w' => e = .returned (.int .i64 (Pl.amount n)) ∧ w = w' := by
  have b0 := Pl.held_lo n
  have b1 := Pl.held_hi n
  by_cases h : Pl.held n < 0
  · go_enter Try.func54, Try.ntmps54
    go_wp2_with (go_at_call 69; refine (held_any _ _).mono ?_; rintro e w1 ⟨rfl, rfl⟩)
    go_ret
    exact ⟨ret_int (by unfold Pl.amount; rw [if_pos h]), rfl⟩
  · go_enter Try.func54, Try.ntmps54
    go_wp2_with (go_at_call 69; refine (held_any _ _).mono ?_; rintro e w1 ⟨rfl, rfl⟩)
    go_ret
    exact ⟨ret_int (by unfold Pl.amount; rw [if_neg (by omega)]), rfl⟩

set_option maxHeartbeats 4000000 in
theorem rwidest_0 (ax ay az : Int) (h1 : Pl.amount ay ≤ Pl.amount ax) (h2 : Pl.amount az ≤ Pl.amount ax) (w : World) :
    Calls Try.prog 33 #[V3 ax ay az] w fun e w' => e = .returned (.int .i64 0) ∧ Below w.heap.size w w' := by
  go_enter Try.func33, Try.ntmps33
  go_wp2
  refine wp_loop_rounds 3 ?_
  rw [rounds_succ]
  go_wp2_with fail
  go_quiet ((go_at_call 54; (first | exact Calls.quiet_of_same (flip (ramount_any _ _)) | exact quiet_more (ramount_any _ _))))
  go_wp2
  go_ret
  exact ⟨rfl, by repeat (first | exact below_n1 _ _ | refine below_draws ?_ _)⟩

set_option maxHeartbeats 4000000 in
theorem rwidest_1 (ax ay az : Int) (h1 : Pl.amount ax < Pl.amount ay) (h2 : Pl.amount az ≤ Pl.amount ay) (w : World) :
    Calls Try.prog 33 #[V3 ax ay az] w fun e w' => e = .returned (.int .i64 1) ∧ Below w.heap.size w w' := by
  have d0 : decide (Pl.amount ay ≤ Pl.amount ax) = false := by simp; omega
  have p0 : Pl.amount ax ≤ Pl.amount ay := by omega
  go_enter Try.func33, Try.ntmps33
  go_wp2
  refine wp_loop_rounds 3 ?_
  rw [rounds_succ]
  go_wp2_with fail
  go_quiet ((go_at_call 54; (first | exact Calls.quiet_of_same (flip (ramount_any _ _)) | exact quiet_more (ramount_any _ _))))
  go_wp2
  rw [rounds_succ]
  go_wp2_with fail
  go_quiet ((go_at_call 54; (first | exact Calls.quiet_of_same (flip (ramount_any _ _)) | exact quiet_more (ramount_any _ _))))
  go_wp2
  go_ret
  exact ⟨rfl, by repeat (first | exact below_n1 _ _ | refine below_draws ?_ _)⟩

end Go.Proofs.Ytoppcnkfgmbpfaa.Ve

/- The document's own widest axis: the third one, where the first is less than the second. -/
namespace Go.Proofs.Ytoppcnkfgmbpfaa.Ve
open Go.RowKit Go.Proofs.Ytoppcnkfgmbpfaa Go.Proofs.Ytoppcnkfgmbpfaa.Wa

set_option maxHeartbeats 4000000 in
theorem rwidest_2a (ax ay az : Int) (h1 : Pl.amount ax < Pl.amount az) (h2 : Pl.amount ay < Pl.amount az) (h3 : Pl.amount ax < Pl.amount ay) (w : World) :
    Calls Try.prog 33 #[V3 ax ay az] w fun e w' => e = .returned (.int .i64 2) ∧ Below w.heap.size w w' := by
  have d0 : decide (Pl.amount ay ≤ Pl.amount ax) = false := by simp; omega
  have d1 : decide (Pl.amount az ≤ Pl.amount ay) = false := by simp; omega
  have p0 : Pl.amount ax ≤ Pl.amount ay := by omega
  have p1 : Pl.amount ax ≤ Pl.amount az := by omega
  have p2 : Pl.amount ay ≤ Pl.amount az := by omega
  go_enter Try.func33, Try.ntmps33
  go_wp2
  refine wp_loop_rounds 3 ?_
  rw [rounds_succ]
  go_wp2_with fail
  go_quiet ((go_at_call 54; (first | exact Calls.quiet_of_same (flip (ramount_any _ _)) | exact quiet_more (ramount_any _ _))))
  go_wp2
  rw [rounds_succ]
  go_wp2_with fail
  go_quiet ((go_at_call 54; (first | exact Calls.quiet_of_same (flip (ramount_any _ _)) | exact quiet_more (ramount_any _ _))))
  go_wp2
  rw [rounds_succ]
  go_wp2_with fail
  go_quiet ((go_at_call 54; (first | exact Calls.quiet_of_same (flip (ramount_any _ _)) | exact quiet_more (ramount_any _ _))))
  go_wp2
  go_ret
  exact ⟨rfl, by repeat (first | exact below_n1 _ _ | refine below_draws ?_ _)⟩

end Go.Proofs.Ytoppcnkfgmbpfaa.Ve

/- The document's own widest axis: the third one, where the second is less than the first. -/
namespace Go.Proofs.Ytoppcnkfgmbpfaa.Ve
open Go.RowKit Go.Proofs.Ytoppcnkfgmbpfaa Go.Proofs.Ytoppcnkfgmbpfaa.Wa

set_option maxHeartbeats 4000000 in
theorem rwidest_2b (ax ay az : Int) (h1 : Pl.amount ax < Pl.amount az) (h2 : Pl.amount ay < Pl.amount az) (h3 : Pl.amount ay < Pl.amount ax) (w : World) :
    Calls Try.prog 33 #[V3 ax ay az] w fun e w' => e = .returned (.int .i64 2) ∧ Below w.heap.size w w' := by
  have d0 : decide (Pl.amount az ≤ Pl.amount ax) = false := by simp; omega
  have d1 : decide (Pl.amount ax ≤ Pl.amount ay) = false := by simp; omega
  have p0 : Pl.amount ay ≤ Pl.amount ax := by omega
  have p1 : Pl.amount ax ≤ Pl.amount az := by omega
  have p2 : Pl.amount ay ≤ Pl.amount az := by omega
  go_enter Try.func33, Try.ntmps33
  go_wp2
  refine wp_loop_rounds 3 ?_
  rw [rounds_succ]
  go_wp2_with fail
  go_quiet ((go_at_call 54; (first | exact Calls.quiet_of_same (flip (ramount_any _ _)) | exact quiet_more (ramount_any _ _))))
  go_wp2
  rw [rounds_succ]
  go_wp2_with fail
  go_quiet ((go_at_call 54; (first | exact Calls.quiet_of_same (flip (ramount_any _ _)) | exact quiet_more (ramount_any _ _))))
  go_wp2
  rw [rounds_succ]
  go_wp2_with fail
  go_quiet ((go_at_call 54; (first | exact Calls.quiet_of_same (flip (ramount_any _ _)) | exact quiet_more (ramount_any _ _))))
  go_wp2
  go_ret
  exact ⟨rfl, by repeat (first | exact below_n1 _ _ | refine below_draws ?_ _)⟩

end Go.Proofs.Ytoppcnkfgmbpfaa.Ve

/- The document's own widest axis: the third one, where the others are as wide. -/
namespace Go.Proofs.Ytoppcnkfgmbpfaa.Ve
open Go.RowKit Go.Proofs.Ytoppcnkfgmbpfaa Go.Proofs.Ytoppcnkfgmbpfaa.Wa

set_option maxHeartbeats 4000000 in
theorem rwidest_2c (ax ay az : Int) (h1 : Pl.amount ax < Pl.amount az) (h2 : Pl.amount ay < Pl.amount az) (h3 : Pl.amount ay ≤ Pl.amount ax) (h4 : Pl.amount ax ≤ Pl.amount ay) (w : World) :
    Calls Try.prog 33 #[V3 ax ay az] w fun e w' => e = .returned (.int .i64 2) ∧ Below w.heap.size w w' := by
  have d0 : decide (Pl.amount az ≤ Pl.amount ax) = false := by simp; omega
  have d1 : decide (Pl.amount az ≤ Pl.amount ay) = false := by simp; omega
  have p0 : Pl.amount ax ≤ Pl.amount az := by omega
  have p1 : Pl.amount ay ≤ Pl.amount az := by omega
  go_enter Try.func33, Try.ntmps33
  go_wp2
  refine wp_loop_rounds 3 ?_
  rw [rounds_succ]
  go_wp2_with fail
  go_quiet ((go_at_call 54; (first | exact Calls.quiet_of_same (flip (ramount_any _ _)) | exact quiet_more (ramount_any _ _))))
  go_wp2
  rw [rounds_succ]
  go_wp2_with fail
  go_quiet ((go_at_call 54; (first | exact Calls.quiet_of_same (flip (ramount_any _ _)) | exact quiet_more (ramount_any _ _))))
  go_wp2
  rw [rounds_succ]
  go_wp2_with fail
  go_quiet ((go_at_call 54; (first | exact Calls.quiet_of_same (flip (ramount_any _ _)) | exact quiet_more (ramount_any _ _))))
  go_wp2
  go_ret
  exact ⟨rfl, by repeat (first | exact below_n1 _ _ | refine below_draws ?_ _)⟩

end Go.Proofs.Ytoppcnkfgmbpfaa.Ve

/- The contract of the document's own widest axis. -/
namespace Go.Proofs.Ytoppcnkfgmbpfaa.Ve
open Go.RowKit Go.Proofs.Ytoppcnkfgmbpfaa Go.Proofs.Ytoppcnkfgmbpfaa.Wa

theorem rwidest_any (ax ay az : Int) (w : World) :
    Calls Try.prog 33 #[V3 ax ay az] w fun e w' => e = .returned (.int .i64 (widest (Pl.amount ax) (Pl.amount ay) (Pl.amount az))) ∧ Below w.heap.size w w' := by
  unfold widest
  by_cases h0 : Pl.amount ay ≤ Pl.amount ax ∧ Pl.amount az ≤ Pl.amount ax
  · rw [if_pos h0]; exact rwidest_0 ax ay az h0.1 h0.2 w
  · rw [if_neg h0]
    by_cases h1 : Pl.amount ax ≤ Pl.amount ay ∧ Pl.amount az ≤ Pl.amount ay
    · rw [if_pos h1]; exact rwidest_1 ax ay az (by omega) h1.2 w
    · rw [if_neg h1]
      by_cases h3 : Pl.amount ax < Pl.amount ay
      · exact rwidest_2a ax ay az (by omega) (by omega) h3 w
      · by_cases h4 : Pl.amount ay < Pl.amount ax
        · exact rwidest_2b ax ay az (by omega) (by omega) h4 w
        · exact rwidest_2c ax ay az (by omega) (by omega) (by omega) (by omega) w

end Go.Proofs.Ytoppcnkfgmbpfaa.Ve
