/- The document's own widest axis: the third one, where the first is less than the second. -/
import Derived.Test.YtdnmfiekfkmbbaaVza
namespace Go.Proofs.Ytdnmfiekfkmbbaa.Ve
open Go.RowKit Go.Proofs.Ytdnmfiekfkmbbaa Go.Proofs.Ytdnmfiekfkmbbaa.Wa

set_option maxHeartbeats 4000000 in
theorem rwidest_2a (ax ay az : Int) (h1 : Pl.amount ax < Pl.amount az) (h2 : Pl.amount ay < Pl.amount az) (h3 : Pl.amount ax < Pl.amount ay) (w : World) :
    Calls Try.prog 34 #[V3 ax ay az] w fun e w' => e = .returned (.int .i64 2) ∧ Below w.heap.size w w' := by
  have d0 : decide (Pl.amount ay ≤ Pl.amount ax) = false := by simp; omega
  have d1 : decide (Pl.amount az ≤ Pl.amount ay) = false := by simp; omega
  have p0 : Pl.amount ax ≤ Pl.amount ay := by omega
  have p1 : Pl.amount ax ≤ Pl.amount az := by omega
  have p2 : Pl.amount ay ≤ Pl.amount az := by omega
  go_enter Try.func34, Try.ntmps34
  go_wp2
  refine wp_loop_rounds 3 ?_
  rw [rounds_succ]
  go_wp2_with fail
  go_quiet ((go_at_call 70; (first | exact Calls.quiet_of_same (flip (ramount_any _ _)) | exact quiet_more (ramount_any _ _))))
  go_wp2
  rw [rounds_succ]
  go_wp2_with fail
  go_quiet ((go_at_call 70; (first | exact Calls.quiet_of_same (flip (ramount_any _ _)) | exact quiet_more (ramount_any _ _))))
  go_wp2
  rw [rounds_succ]
  go_wp2_with fail
  go_quiet ((go_at_call 70; (first | exact Calls.quiet_of_same (flip (ramount_any _ _)) | exact quiet_more (ramount_any _ _))))
  go_wp2
  go_ret
  exact ⟨rfl, by repeat (first | exact below_n1 _ _ | refine below_draws ?_ _)⟩

end Go.Proofs.Ytdnmfiekfkmbbaa.Ve
