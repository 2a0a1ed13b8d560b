/- The contracts of layer 1's quotient, and of the document's own functions that only reckon. -/
import Derived.Test.YtjejghfeeonghaaWa
namespace Go.Proofs.Ytjejghfeeonghaa.Wa
open Go.RowKit Go.Proofs.Ytjejghfeeonghaa

end Go.Proofs.Ytjejghfeeonghaa.Wa
