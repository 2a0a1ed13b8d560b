/- The contract of layer 5's each at products. -/
import Derived.Test.YtpinpkhalccjhaaDoorF10
namespace Go.Proofs.YtpinpkhalccjhaaDoor.He
open Go.RowKit Go.Proofs.YtpinpkhalccjhaaDoor Go.Proofs.YtpinpkhalccjhaaDoor.Wa Go.Proofs.YtpinpkhalccjhaaDoor.Ve

set_option maxHeartbeats 800000 in
theorem heach_mul (ax ay az bx by_ bz : Int) (w : World) :
    Calls Tryd.prog 94 #[V3 ax ay az, V3 bx by_ bz, .func (.func 117) #[] #[]] w fun e w' => e = .returned (V3 (Pl.mul ax bx) (Pl.mul ay by_) (Pl.mul az bz)) ∧ Below w.heap.size w w' := by
  go_enter Tryd.func94, Tryd.ntmps94
  go_wp2_with fail
  go_region_held3 (fun w' => w'.cell? ⟨w.heap.size, 0, none⟩ = some (.int .i64 ax) ∧ w'.cell? ⟨w.heap.size, 1, none⟩ = some (.int .i64 ay) ∧ w'.cell? ⟨w.heap.size, 2, none⟩ = some (.int .i64 az) ∧ w'.cell? ⟨w.heap.size + 1, 0, none⟩ = some (.int .i64 bx) ∧ w'.cell? ⟨w.heap.size + 1, 1, none⟩ = some (.int .i64 by_) ∧ w'.cell? ⟨w.heap.size + 1, 2, none⟩ = some (.int .i64 bz)) (go_keep) (first | (go_at_call 117; refine (mul_any _ _ _).mono ?_; rintro e w1 ⟨rfl, rfl⟩))
  go_wp2
  exact bodyPost_ret (v := V3 (Pl.mul ax bx) (Pl.mul ay by_) (Pl.mul az bz)) (by simp [results, Tryd.results94, go_sem]) rfl ⟨rfl, below3 _ _ _ _⟩

end Go.Proofs.YtpinpkhalccjhaaDoor.He

/- The contract of layer 5's each at quotients. -/
namespace Go.Proofs.YtpinpkhalccjhaaDoor.He
open Go.RowKit Go.Proofs.YtpinpkhalccjhaaDoor Go.Proofs.YtpinpkhalccjhaaDoor.Wa Go.Proofs.YtpinpkhalccjhaaDoor.Ve

set_option maxHeartbeats 800000 in
theorem heach_div (ax ay az bx by_ bz : Int) (w : World) :
    Calls Tryd.prog 94 #[V3 ax ay az, V3 bx by_ bz, .func (.func 61) #[] #[]] w fun e w' => e = .returned (V3 (Pl.div ax bx) (Pl.div ay by_) (Pl.div az bz)) ∧ Below w.heap.size w w' := by
  go_enter Tryd.func94, Tryd.ntmps94
  go_wp2_with fail
  go_region_held3 (fun w' => w'.cell? ⟨w.heap.size, 0, none⟩ = some (.int .i64 ax) ∧ w'.cell? ⟨w.heap.size, 1, none⟩ = some (.int .i64 ay) ∧ w'.cell? ⟨w.heap.size, 2, none⟩ = some (.int .i64 az) ∧ w'.cell? ⟨w.heap.size + 1, 0, none⟩ = some (.int .i64 bx) ∧ w'.cell? ⟨w.heap.size + 1, 1, none⟩ = some (.int .i64 by_) ∧ w'.cell? ⟨w.heap.size + 1, 2, none⟩ = some (.int .i64 bz)) (go_keep) (first | (go_at_call 61; refine (div_any _ _ _).mono ?_; rintro e w1 ⟨rfl, rfl⟩))
  go_wp2
  exact bodyPost_ret (v := V3 (Pl.div ax bx) (Pl.div ay by_) (Pl.div az bz)) (by simp [results, Tryd.results94, go_sem]) rfl ⟨rfl, below3 _ _ _ _⟩

end Go.Proofs.YtpinpkhalccjhaaDoor.He

/- The contract of layer 5's each at ways between two. -/
namespace Go.Proofs.YtpinpkhalccjhaaDoor.He
open Go.RowKit Go.Proofs.YtpinpkhalccjhaaDoor Go.Proofs.YtpinpkhalccjhaaDoor.Wa Go.Proofs.YtpinpkhalccjhaaDoor.Ve

end Go.Proofs.YtpinpkhalccjhaaDoor.He
