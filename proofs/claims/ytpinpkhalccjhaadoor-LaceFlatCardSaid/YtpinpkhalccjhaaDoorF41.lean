/- The contracts of layer 2's inner product, length and number along an axis. -/
import Derived.Test.YtpinpkhalccjhaaDoorF11
import Derived.Test.YtpinpkhalccjhaaDoorF12
import Derived.Test.YtpinpkhalccjhaaDoorF40
namespace Go.Proofs.YtpinpkhalccjhaaDoor.Ve
open Go.RowKit Go.Proofs.YtpinpkhalccjhaaDoor Go.Proofs.YtpinpkhalccjhaaDoor.Wa

set_option maxHeartbeats 1000000 in
theorem dot_any (ax ay az bx by_ bz : Int) (w : World) :
    Calls Tryd.prog 145 #[V3 ax ay az, V3 bx by_ bz] w fun e w' => e = .returned (.int .i64 (Pl.add (Pl.add (Pl.add 0 (Pl.mul ax bx)) (Pl.mul ay by_)) (Pl.mul az bz))) ∧ Below w.heap.size w w' := by
  go_enter Tryd.func145, Tryd.ntmps145
  go_wp2_with fail
  refine (each_mul _ _ _ _ _ _ _).mono ?_
  rintro e w1 ⟨rfl, hb⟩
  obtain ⟨hc, hf⟩ := bcell hb
  go_wp2_with fail
  refine (Ls.sum_row _ 3 3 [Pl.mul ax bx, Pl.mul ay by_, Pl.mul az bz] rfl (by omega) _ ?_).mono ?_
  · intro j hj
    match j, hj with
    | 0, _ => go_simp
    | 1, _ => go_simp
    | 2, _ => go_simp
  rintro e w2 ⟨rfl, rfl⟩
  go_wp2
  go_ret
  exact ⟨rfl, (below_c2 hb).trans ((below_n2 _ _ _).mono (below_c2 hb).size)⟩

end Go.Proofs.YtpinpkhalccjhaaDoor.Ve
