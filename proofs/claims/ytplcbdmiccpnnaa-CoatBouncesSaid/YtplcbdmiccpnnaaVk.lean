/- The document's examples, asked by each statement of layer 2. -/
import Derived.Test.YtplcbdmiccpnnaaVx
import Derived.Test.YtplcbdmiccpnnaaVw
namespace Go.Proofs.Ytplcbdmiccpnnaa.Ve
open Go.RowKit Go.Proofs.Ytplcbdmiccpnnaa Go.Proofs.Ytplcbdmiccpnnaa.Wa

theorem ex_widest (w : World) : Calls Try.prog 95 #[V3 1 (-2) 2] w fun e w' => e = .returned (.int .i64 1) ∧ Below w.heap.size w w' := by
  have := vwidest_any 1 (-2) 2 w
  rwa [show widest (Pl.amount 1) (Pl.amount (-2)) (Pl.amount 2) = 1 by decide] at this

end Go.Proofs.Ytplcbdmiccpnnaa.Ve
