/- The contract of layer 2's widest axis. -/
import Derived.Test.YtoppcnkfgmbpfaaC06
import Derived.WalkLawsBesides
namespace Go.Proofs.Ytoppcnkfgmbpfaa.Ve
open Go.RowKit Go.Proofs.Ytoppcnkfgmbpfaa Go.Proofs.Ytoppcnkfgmbpfaa.Wa

set_option maxHeartbeats 1000000 in
theorem vwidest_0 (ax ay az : Int) (h1 : Pl.amount ay ≤ Pl.amount ax) (h2 : Pl.amount az ≤ Pl.amount ax) (w : World) :
    Calls Try.prog 42 #[V3 ax ay az] w fun e w' => e = .returned (.int .i64 0) ∧ Below w.heap.size w w' := by
  go_enter Try.func42, Try.ntmps42
  go_wp2_with fail
  go_region_held3 (fun w' => w'.cell? ⟨w.heap.size, 0, none⟩ = some (.int .i64 ax) ∧ w'.cell? ⟨w.heap.size, 1, none⟩ = some (.int .i64 ay) ∧ w'.cell? ⟨w.heap.size, 2, none⟩ = some (.int .i64 az)) (go_keep) (first | (go_at_call 63; refine (abs_any _ _).mono ?_; rintro e w1 ⟨rfl, rfl⟩))
  go_wp2
  go_ret
  exact ⟨rfl, (below_n1 _ _).drew⟩

set_option maxHeartbeats 1000000 in
theorem vwidest_1 (ax ay az : Int) (h1 : Pl.amount ax < Pl.amount ay) (h2 : Pl.amount az ≤ Pl.amount ay) (w : World) :
    Calls Try.prog 42 #[V3 ax ay az] w fun e w' => e = .returned (.int .i64 1) ∧ Below w.heap.size w w' := by
  go_enter Try.func42, Try.ntmps42
  go_wp2_with fail
  go_region_held3 (fun w' => w'.cell? ⟨w.heap.size, 0, none⟩ = some (.int .i64 ax) ∧ w'.cell? ⟨w.heap.size, 1, none⟩ = some (.int .i64 ay) ∧ w'.cell? ⟨w.heap.size, 2, none⟩ = some (.int .i64 az)) (go_keep) (first | (go_at_call 63; refine (abs_any _ _).mono ?_; rintro e w1 ⟨rfl, rfl⟩))
  go_wp2
  go_ret
  exact ⟨rfl, (below_n1 _ _).drew⟩

set_option maxHeartbeats 1000000 in
theorem vwidest_2 (ax ay az : Int) (h1 : Pl.amount ax < Pl.amount az) (h2 : Pl.amount ay < Pl.amount az) (w : World) :
    Calls Try.prog 42 #[V3 ax ay az] w fun e w' => e = .returned (.int .i64 2) ∧ Below w.heap.size w w' := by
  go_enter Try.func42, Try.ntmps42
  go_wp2_with fail
  go_region_held3 (fun w' => w'.cell? ⟨w.heap.size, 0, none⟩ = some (.int .i64 ax) ∧ w'.cell? ⟨w.heap.size, 1, none⟩ = some (.int .i64 ay) ∧ w'.cell? ⟨w.heap.size, 2, none⟩ = some (.int .i64 az)) (go_keep) (first | (go_at_call 63; refine (abs_any _ _).mono ?_; rintro e w1 ⟨rfl, rfl⟩))
  go_wp2
  go_ret
  exact ⟨rfl, (below_n1 _ _).drew⟩

/-- the first axis whose amount none exceeds -/
def widest (x y z : Int) : Int := if y ≤ x ∧ z ≤ x then 0 else if x ≤ y ∧ z ≤ y then 1 else 2

theorem vwidest_any (ax ay az : Int) (w : World) :
    Calls Try.prog 42 #[V3 ax ay az] w fun e w' => e = .returned (.int .i64 (widest (Pl.amount ax) (Pl.amount ay) (Pl.amount az))) ∧ Below w.heap.size w w' := by
  unfold widest
  by_cases h0 : Pl.amount ay ≤ Pl.amount ax ∧ Pl.amount az ≤ Pl.amount ax
  · rw [if_pos h0]; exact vwidest_0 ax ay az h0.1 h0.2 w
  · rw [if_neg h0]
    by_cases h1 : Pl.amount ax ≤ Pl.amount ay ∧ Pl.amount az ≤ Pl.amount ay
    · rw [if_pos h1]; exact vwidest_1 ax ay az (by omega) h1.2 w
    · rw [if_neg h1]; exact vwidest_2 ax ay az (by omega) (by omega) w

end Go.Proofs.Ytoppcnkfgmbpfaa.Ve
