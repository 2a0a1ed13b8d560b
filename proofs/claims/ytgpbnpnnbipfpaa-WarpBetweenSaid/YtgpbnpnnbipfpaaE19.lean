/- The contract of layer 5's each at products. -/
import Derived.Test.YtgpbnpnnbipfpaaE12
namespace Go.Proofs.Ytgpbnpnnbipfpaa.He
open Go.RowKit Go.Proofs.Ytgpbnpnnbipfpaa Go.Proofs.Ytgpbnpnnbipfpaa.Wa Go.Proofs.Ytgpbnpnnbipfpaa.Ve

set_option maxHeartbeats 800000 in
theorem heach_mul (ax ay az bx by_ bz : Int) (w : World) :
    Calls Try.prog 36 #[V3 ax ay az, V3 bx by_ bz, .func (.func 44) #[] #[]] w fun e w' => e = .returned (V3 (Pl.mul ax bx) (Pl.mul ay by_) (Pl.mul az bz)) ∧ Below w.heap.size w w' := by
  go_enter Try.func36, Try.ntmps36
  go_wp2_with fail
  go_region_held3 (fun w' => w'.cell? ⟨w.heap.size, 0, none⟩ = some (.int .i64 ax) ∧ w'.cell? ⟨w.heap.size, 1, none⟩ = some (.int .i64 ay) ∧ w'.cell? ⟨w.heap.size, 2, none⟩ = some (.int .i64 az) ∧ w'.cell? ⟨w.heap.size + 1, 0, none⟩ = some (.int .i64 bx) ∧ w'.cell? ⟨w.heap.size + 1, 1, none⟩ = some (.int .i64 by_) ∧ w'.cell? ⟨w.heap.size + 1, 2, none⟩ = some (.int .i64 bz)) (go_keep) (first | (go_at_call 44; refine (mul_any _ _ _).mono ?_; rintro e w1 ⟨rfl, rfl⟩))
  go_wp2
  exact bodyPost_ret (v := V3 (Pl.mul ax bx) (Pl.mul ay by_) (Pl.mul az bz)) (by simp [results, Try.results36, go_sem]) rfl ⟨rfl, below3 _ _ _ _⟩

end Go.Proofs.Ytgpbnpnnbipfpaa.He

/- The contract of layer 5's each at quotients. -/
namespace Go.Proofs.Ytgpbnpnnbipfpaa.He
open Go.RowKit Go.Proofs.Ytgpbnpnnbipfpaa Go.Proofs.Ytgpbnpnnbipfpaa.Wa Go.Proofs.Ytgpbnpnnbipfpaa.Ve

end Go.Proofs.Ytgpbnpnnbipfpaa.He
