/- The document's examples, asked by each statement of layer 2. -/
import Derived.Test.YtdnmfiekfkmbbaaVx
import Derived.Test.YtdnmfiekfkmbbaaVw
namespace Go.Proofs.Ytdnmfiekfkmbbaa.Ve
open Go.RowKit Go.Proofs.Ytdnmfiekfkmbbaa Go.Proofs.Ytdnmfiekfkmbbaa.Wa

theorem ex_cross (w : World) : Calls Try.prog 27 #[V3 65536 0 0, V3 0 65536 0] w fun e w' => e = .returned (V3 0 0 65536) ∧ Below w.heap.size w w' := by
  have := cross_any 65536 0 0 0 65536 0 w
  rwa [show Pl.sub (Pl.mul 0 0) (Pl.mul 0 65536) = 0 by decide, show Pl.sub (Pl.mul 0 0) (Pl.mul 65536 0) = 0 by decide, show Pl.sub (Pl.mul 65536 65536) (Pl.mul 0 0) = 65536 by decide] at this

theorem ex_widest (w : World) : Calls Try.prog 33 #[V3 1 (-2) 2] w fun e w' => e = .returned (.int .i64 1) ∧ Below w.heap.size w w' := by
  have := vwidest_any 1 (-2) 2 w
  rwa [show widest (Pl.amount 1) (Pl.amount (-2)) (Pl.amount 2) = 1 by decide] at this

theorem awake_any (w : World) : Calls Try.prog 9 #[] w fun e w' => e = .returned (.bool true) ∧ Below w.heap.size w w' := by
  go_enter Try.func9, Try.ntmps9
  go_wp2_with (first | (go_at_call 27; refine (ex_cross _).mono ?_; rintro e w1 ⟨rfl, hb1⟩) | (go_at_call 33; refine (ex_widest _).mono ?_; rintro e w2 ⟨rfl, hb2⟩))
  go_ret
  exact ⟨rfl, hb1.trans (hb2.mono hb1.size)⟩

end Go.Proofs.Ytdnmfiekfkmbbaa.Ve
