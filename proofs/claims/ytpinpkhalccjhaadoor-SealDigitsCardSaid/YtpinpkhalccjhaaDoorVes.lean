/- The contract of layer 2's each at differences. -/
import Derived.Test.YtpinpkhalccjhaaDoorVb
namespace Go.Proofs.YtpinpkhalccjhaaDoor.Ve
open Go.RowKit Go.Proofs.YtpinpkhalccjhaaDoor Go.Proofs.YtpinpkhalccjhaaDoor.Wa

set_option maxHeartbeats 800000 in
theorem each_sub (ax ay az bx by_ bz : Int) (w : World) :
    Calls Tryd.prog 150 #[V3 ax ay az, V3 bx by_ bz, .func (.func 144) #[] #[]] w fun e w' => e = .returned (V3 (Pl.sub ax bx) (Pl.sub ay by_) (Pl.sub az bz)) ∧ Below w.heap.size w w' := by
  go_enter Tryd.func150, Tryd.ntmps150
  go_wp2_with fail
  go_region_held3 (fun w' => w'.cell? ⟨w.heap.size, 0, none⟩ = some (.int .i64 ax) ∧ w'.cell? ⟨w.heap.size, 1, none⟩ = some (.int .i64 ay) ∧ w'.cell? ⟨w.heap.size, 2, none⟩ = some (.int .i64 az) ∧ w'.cell? ⟨w.heap.size + 1, 0, none⟩ = some (.int .i64 bx) ∧ w'.cell? ⟨w.heap.size + 1, 1, none⟩ = some (.int .i64 by_) ∧ w'.cell? ⟨w.heap.size + 1, 2, none⟩ = some (.int .i64 bz)) (go_keep) (first | (go_at_call 144; refine (sub_any _ _ _).mono ?_; rintro e w1 ⟨rfl, rfl⟩))
  go_wp2
  exact bodyPost_ret (v := V3 (Pl.sub ax bx) (Pl.sub ay by_) (Pl.sub az bz)) (by simp [results, Tryd.results150, go_sem]) rfl ⟨rfl, below3 _ _ _ _⟩

end Go.Proofs.YtpinpkhalccjhaaDoor.Ve
