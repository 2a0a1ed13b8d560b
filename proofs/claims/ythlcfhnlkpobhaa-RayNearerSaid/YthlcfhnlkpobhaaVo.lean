/- The contracts of layer 2's inner product, length and number along an axis. -/
import Derived.Test.YthlcfhnlkpobhaaVc
import Derived.Test.YthlcfhnlkpobhaaVem
import Derived.Test.YthlcfhnlkpobhaaLf
namespace Go.Proofs.Ythlcfhnlkpobhaa.Ve
open Go.RowKit Go.Proofs.Ythlcfhnlkpobhaa Go.Proofs.Ythlcfhnlkpobhaa.Wa

set_option maxHeartbeats 1000000 in
theorem dot_any (ax ay az bx by_ bz : Int) (w : World) :
    Calls Try.prog 87 #[V3 ax ay az, V3 bx by_ bz] w fun e w' => e = .returned (.int .i64 (Pl.add (Pl.add (Pl.add 0 (Pl.mul ax bx)) (Pl.mul ay by_)) (Pl.mul az bz))) ∧ Below w.heap.size w w' := by
  go_enter Try.func87, Try.ntmps87
  go_wp2_with fail
  refine (each_mul _ _ _ _ _ _ _).mono ?_
  rintro e w1 ⟨rfl, hb⟩
  obtain ⟨hc, hf⟩ := bcell hb
  go_wp2_with fail
  refine (Ls.sum_row _ 3 3 [Pl.mul ax bx, Pl.mul ay by_, Pl.mul az bz] rfl (by omega) _ ?_).mono ?_
  · intro j hj
    match j, hj with
    | 0, _ => go_simp
    | 1, _ => go_simp
    | 2, _ => go_simp
  rintro e w2 ⟨rfl, rfl⟩
  go_wp2
  go_ret
  exact ⟨rfl, (below_c2 hb).trans ((below_n2 _ _ _).mono (below_c2 hb).size)⟩

theorem len_any3 (ax ay az : Int) (w : World) :
    Calls Try.prog 178 #[V3 ax ay az] w fun e w' => e = .returned (.int .i64 (Pl.root (Pl.add (Pl.add (Pl.add 0 (Pl.mul ax ax)) (Pl.mul ay ay)) (Pl.mul az az)))) ∧ Below w.heap.size w w' := by
  go_enter Try.func178, Try.ntmps178
  go_wp2_with (first | (go_at_call 87; refine (dot_any _ _ _ _ _ _ _).mono ?_; rintro e w1 ⟨rfl, hb⟩) | (go_at_call 176; refine (root_any _ _).mono ?_; rintro e w2 ⟨rfl, rfl⟩))
  go_ret
  exact ⟨rfl, below_c1 hb⟩

end Go.Proofs.Ythlcfhnlkpobhaa.Ve
