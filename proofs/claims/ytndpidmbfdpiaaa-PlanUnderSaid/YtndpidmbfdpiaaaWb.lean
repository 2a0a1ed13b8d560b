/- The contracts of layer 1's quotient, and of the document's own functions that only reckon. -/
import Derived.Test.YtndpidmbfdpiaaaWa
namespace Go.Proofs.Ytndpidmbfdpiaaa.Wa
open Go.RowKit Go.Proofs.Ytndpidmbfdpiaaa

end Go.Proofs.Ytndpidmbfdpiaaa.Wa
