/- The contract of layer 2's outer product. -/
import Derived.Test.YtplcbdmiccpnnaaVf
namespace Go.Proofs.Ytplcbdmiccpnnaa.Ve
open Go.RowKit Go.Proofs.Ytplcbdmiccpnnaa Go.Proofs.Ytplcbdmiccpnnaa.Wa

end Go.Proofs.Ytplcbdmiccpnnaa.Ve
