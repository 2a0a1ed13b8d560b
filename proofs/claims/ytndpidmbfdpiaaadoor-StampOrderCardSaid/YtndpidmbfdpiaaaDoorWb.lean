/- The contracts of layer 1's quotient, and of the document's own functions that only reckon. -/
import Derived.Test.YtndpidmbfdpiaaaDoorWa
namespace Go.Proofs.YtndpidmbfdpiaaaDoor.Wa
open Go.RowKit Go.Proofs.YtndpidmbfdpiaaaDoor

end Go.Proofs.YtndpidmbfdpiaaaDoor.Wa
