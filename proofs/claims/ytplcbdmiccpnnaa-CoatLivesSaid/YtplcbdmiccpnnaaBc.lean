/- Boxes: the document's questions, axis by axis. -/
import Derived.Test.YtplcbdmiccpnnaaBa
import Derived.BigQuiet
namespace Go.Proofs.Ytplcbdmiccpnnaa.Bx
open Go.RowKit Go.Proofs.Ytplcbdmiccpnnaa Go.Proofs.Ytplcbdmiccpnnaa.Wa Go.Proofs.Ytplcbdmiccpnnaa.Ve
set_option linter.unusedVariables false
set_option linter.unusedSimpArgs false

theorem bdn {B : Nat} {w wr : World} (h : Below B w wr) (k : Nat) : Below B w (wr.drewN k) := ⟨h.os, h.tape, h.output, h.size, h.block⟩

theorem ret_b {p q : Bool} (h : q = p) : Ending.returned (.bool p) = .returned (.bool q) := by rw [h]

end Go.Proofs.Ytplcbdmiccpnnaa.Bx
