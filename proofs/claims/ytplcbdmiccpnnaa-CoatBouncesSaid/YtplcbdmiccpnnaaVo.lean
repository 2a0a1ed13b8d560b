/- The contracts of layer 2's inner product, length and number along an axis. -/
import Derived.Test.YtplcbdmiccpnnaaVc
import Derived.Test.YtplcbdmiccpnnaaVem
import Derived.Test.YtplcbdmiccpnnaaLf
namespace Go.Proofs.Ytplcbdmiccpnnaa.Ve
open Go.RowKit Go.Proofs.Ytplcbdmiccpnnaa Go.Proofs.Ytplcbdmiccpnnaa.Wa

set_option maxHeartbeats 1000000 in
theorem dot_any (ax ay az bx by_ bz : Int) (w : World) :
    Calls Try.prog 23 #[V3 ax ay az, V3 bx by_ bz] w fun e w' => e = .returned (.int .i64 (Pl.add (Pl.add (Pl.add 0 (Pl.mul ax bx)) (Pl.mul ay by_)) (Pl.mul az bz))) ∧ Below w.heap.size w w' := by
  go_enter Try.func23, Try.ntmps23
  go_wp2_with fail
  refine (each_mul _ _ _ _ _ _ _).mono ?_
  rintro e w1 ⟨rfl, hb⟩
  obtain ⟨hc, hf⟩ := bcell hb
  go_wp2_with fail
  refine (Ls.sum_row _ 3 3 [Pl.mul ax bx, Pl.mul ay by_, Pl.mul az bz] rfl (by omega) _ ?_).mono ?_
  · intro j hj
    match j, hj with
    | 0, _ => go_simp
    | 1, _ => go_simp
    | 2, _ => go_simp
  rintro e w2 ⟨rfl, rfl⟩
  go_wp2
  go_ret
  exact ⟨rfl, (below_c2 hb).trans ((below_n2 _ _ _).mono (below_c2 hb).size)⟩

theorem len_any3 (ax ay az : Int) (w : World) :
    Calls Try.prog 56 #[V3 ax ay az] w fun e w' => e = .returned (.int .i64 (Pl.root (Pl.add (Pl.add (Pl.add 0 (Pl.mul ax ax)) (Pl.mul ay ay)) (Pl.mul az az)))) ∧ Below w.heap.size w w' := by
  go_enter Try.func56, Try.ntmps56
  go_wp2_with (first | (go_at_call 23; refine (dot_any _ _ _ _ _ _ _).mono ?_; rintro e w1 ⟨rfl, hb⟩) | (go_at_call 81; refine (root_any _ _).mono ?_; rintro e w2 ⟨rfl, rfl⟩))
  go_ret
  exact ⟨rfl, below_c1 hb⟩

theorem at_any (ax ay az i : Int) (w : World) :
    Calls Try.prog 96 #[V3 ax ay az, .int .i64 i] w fun e w' => e = .returned (.int .i64 (if i = 0 then ax else if i = 1 then ay else az)) ∧ Below w.heap.size w w' := by
  by_cases h0 : i = 0
  · subst h0
    go_enter Try.func96, Try.ntmps96
    go_wp2
    go_ret
    exact ⟨rfl, below_n1 _ _⟩
  · by_cases h1 : i = 1
    · subst h1
      go_enter Try.func96, Try.ntmps96
      go_wp2
      go_ret
      exact ⟨rfl, below_n1 _ _⟩
    · have e : (if i = 0 then ax else if i = 1 then ay else az) = az := by rw [if_neg h0, if_neg h1]
      rw [e]
      go_enter Try.func96, Try.ntmps96
      go_wp2
      go_ret
      exact ⟨rfl, below_n1 _ _⟩

end Go.Proofs.Ytplcbdmiccpnnaa.Ve
