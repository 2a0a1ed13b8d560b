/- The contract of layer 5's each at sums. -/
import Derived.Test.YtpinpkhalccjhaaDoorF10
namespace Go.Proofs.YtpinpkhalccjhaaDoor.He
open Go.RowKit Go.Proofs.YtpinpkhalccjhaaDoor Go.Proofs.YtpinpkhalccjhaaDoor.Wa Go.Proofs.YtpinpkhalccjhaaDoor.Ve

set_option maxHeartbeats 800000 in
theorem heach_add (ax ay az bx by_ bz : Int) (w : World) :
    Calls Tryd.prog 94 #[V3 ax ay az, V3 bx by_ bz, .func (.func 62) #[] #[]] w fun e w' => e = .returned (V3 (Pl.add ax bx) (Pl.add ay by_) (Pl.add az bz)) ∧ Below w.heap.size w w' := by
  go_enter Tryd.func94, Tryd.ntmps94
  go_wp2_with fail
  go_region_held3 (fun w' => w'.cell? ⟨w.heap.size, 0, none⟩ = some (.int .i64 ax) ∧ w'.cell? ⟨w.heap.size, 1, none⟩ = some (.int .i64 ay) ∧ w'.cell? ⟨w.heap.size, 2, none⟩ = some (.int .i64 az) ∧ w'.cell? ⟨w.heap.size + 1, 0, none⟩ = some (.int .i64 bx) ∧ w'.cell? ⟨w.heap.size + 1, 1, none⟩ = some (.int .i64 by_) ∧ w'.cell? ⟨w.heap.size + 1, 2, none⟩ = some (.int .i64 bz)) (go_keep) (first | (go_at_call 62; refine (add_any _ _ _).mono ?_; rintro e w1 ⟨rfl, rfl⟩))
  go_wp2
  exact bodyPost_ret (v := V3 (Pl.add ax bx) (Pl.add ay by_) (Pl.add az bz)) (by simp [results, Tryd.results94, go_sem]) rfl ⟨rfl, below3 _ _ _ _⟩

end Go.Proofs.YtpinpkhalccjhaaDoor.He

/- The contract of layer 5's each at differences. -/
namespace Go.Proofs.YtpinpkhalccjhaaDoor.He
open Go.RowKit Go.Proofs.YtpinpkhalccjhaaDoor Go.Proofs.YtpinpkhalccjhaaDoor.Wa Go.Proofs.YtpinpkhalccjhaaDoor.Ve

set_option maxHeartbeats 800000 in
theorem heach_sub (ax ay az bx by_ bz : Int) (w : World) :
    Calls Tryd.prog 94 #[V3 ax ay az, V3 bx by_ bz, .func (.func 144) #[] #[]] w fun e w' => e = .returned (V3 (Pl.sub ax bx) (Pl.sub ay by_) (Pl.sub az bz)) ∧ Below w.heap.size w w' := by
  go_enter Tryd.func94, Tryd.ntmps94
  go_wp2_with fail
  go_region_held3 (fun w' => w'.cell? ⟨w.heap.size, 0, none⟩ = some (.int .i64 ax) ∧ w'.cell? ⟨w.heap.size, 1, none⟩ = some (.int .i64 ay) ∧ w'.cell? ⟨w.heap.size, 2, none⟩ = some (.int .i64 az) ∧ w'.cell? ⟨w.heap.size + 1, 0, none⟩ = some (.int .i64 bx) ∧ w'.cell? ⟨w.heap.size + 1, 1, none⟩ = some (.int .i64 by_) ∧ w'.cell? ⟨w.heap.size + 1, 2, none⟩ = some (.int .i64 bz)) (go_keep) (first | (go_at_call 144; refine (sub_any _ _ _).mono ?_; rintro e w1 ⟨rfl, rfl⟩))
  go_wp2
  exact bodyPost_ret (v := V3 (Pl.sub ax bx) (Pl.sub ay by_) (Pl.sub az bz)) (by simp [results, Tryd.results94, go_sem]) rfl ⟨rfl, below3 _ _ _ _⟩

end Go.Proofs.YtpinpkhalccjhaaDoor.He
