/- The document's examples, asked by each statement of layer 2. -/
import Derived.Test.YtohnjhnfhmfiiaaVx
import Derived.Test.YtohnjhnfhmfiiaaVw
namespace Go.Proofs.Ytohnjhnfhmfiiaa.Ve
open Go.RowKit Go.Proofs.Ytohnjhnfhmfiiaa Go.Proofs.Ytohnjhnfhmfiiaa.Wa

theorem ex_cross (w : World) : Calls Try.prog 70 #[V3 65536 0 0, V3 0 65536 0] w fun e w' => e = .returned (V3 0 0 65536) ∧ Below w.heap.size w w' := by
  have := cross_any 65536 0 0 0 65536 0 w
  rwa [show Pl.sub (Pl.mul 0 0) (Pl.mul 0 65536) = 0 by decide, show Pl.sub (Pl.mul 0 0) (Pl.mul 65536 0) = 0 by decide, show Pl.sub (Pl.mul 65536 65536) (Pl.mul 0 0) = 65536 by decide] at this

theorem ex_widest (w : World) : Calls Try.prog 71 #[V3 1 (-2) 2] w fun e w' => e = .returned (.int .i64 1) ∧ Below w.heap.size w w' := by
  have := vwidest_any 1 (-2) 2 w
  rwa [show widest (Pl.amount 1) (Pl.amount (-2)) (Pl.amount 2) = 1 by decide] at this

theorem awake_any (w : World) : Calls Try.prog 15 #[] w fun e w' => e = .returned (.bool true) ∧ Below w.heap.size w w' := by
  go_enter Try.func15, Try.ntmps15
  go_wp2_with (first | (go_at_call 70; refine (ex_cross _).mono ?_; rintro e w1 ⟨rfl, hb1⟩) | (go_at_call 71; refine (ex_widest _).mono ?_; rintro e w2 ⟨rfl, hb2⟩))
  go_ret
  exact ⟨rfl, hb1.trans (hb2.mono hb1.size)⟩

end Go.Proofs.Ytohnjhnfhmfiiaa.Ve
