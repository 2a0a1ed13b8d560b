/- The contract of layer 2's each at products. -/
import Derived.Test.YtgpbnpnnbipfpaaE12
import Derived.Test.YtgpbnpnnbipfpaaE13
import Derived.Test.YtgpbnpnnbipfpaaE14
namespace Go.Proofs.Ytgpbnpnnbipfpaa.Ve
open Go.RowKit Go.Proofs.Ytgpbnpnnbipfpaa Go.Proofs.Ytgpbnpnnbipfpaa.Wa

set_option maxHeartbeats 800000 in
theorem each_mul (ax ay az bx by_ bz : Int) (w : World) :
    Calls Try.prog 43 #[V3 ax ay az, V3 bx by_ bz, .func (.func 44) #[] #[]] w fun e w' => e = .returned (V3 (Pl.mul ax bx) (Pl.mul ay by_) (Pl.mul az bz)) ∧ Below w.heap.size w w' := by
  go_enter Try.func43, Try.ntmps43
  go_wp2_with fail
  go_region_held3 (fun w' => w'.cell? ⟨w.heap.size, 0, none⟩ = some (.int .i64 ax) ∧ w'.cell? ⟨w.heap.size, 1, none⟩ = some (.int .i64 ay) ∧ w'.cell? ⟨w.heap.size, 2, none⟩ = some (.int .i64 az) ∧ w'.cell? ⟨w.heap.size + 1, 0, none⟩ = some (.int .i64 bx) ∧ w'.cell? ⟨w.heap.size + 1, 1, none⟩ = some (.int .i64 by_) ∧ w'.cell? ⟨w.heap.size + 1, 2, none⟩ = some (.int .i64 bz)) (go_keep) (first | (go_at_call 44; refine (mul_any _ _ _).mono ?_; rintro e w1 ⟨rfl, rfl⟩))
  go_wp2
  exact bodyPost_ret (v := V3 (Pl.mul ax bx) (Pl.mul ay by_) (Pl.mul az bz)) (by simp [results, Try.results43, go_sem]) rfl ⟨rfl, below3 _ _ _ _⟩

end Go.Proofs.Ytgpbnpnnbipfpaa.Ve

/- The contract of layer 2's each at ways between two. -/
namespace Go.Proofs.Ytgpbnpnnbipfpaa.Ve
open Go.RowKit Go.Proofs.Ytgpbnpnnbipfpaa Go.Proofs.Ytgpbnpnnbipfpaa.Wa

end Go.Proofs.Ytgpbnpnnbipfpaa.Ve

/- The contracts of layer 2's functions on points, number by number. -/
namespace Go.Proofs.Ytgpbnpnnbipfpaa.Ve
open Go.RowKit Go.Proofs.Ytgpbnpnnbipfpaa Go.Proofs.Ytgpbnpnnbipfpaa.Wa

theorem to_any (ax ay az : Int) (w : World) :
    Calls Try.prog 21 #[V3 ax ay az] w fun e w' => e = .returned (V3 ax ay az) ∧ Below w.heap.size w w' := by
  go_enter Try.func21, Try.ntmps21
  go_wp2
  exact bodyPost_ret (v := V3 ax ay az) (by simp [results, Try.results21, go_sem]) rfl ⟨rfl, below_n2 _ _ _⟩

end Go.Proofs.Ytgpbnpnnbipfpaa.Ve
