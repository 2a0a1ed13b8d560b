/- The contract of layer 2's each at ways between two. -/
import Derived.Test.YtndpidmbfdpiaaaDoorVb
namespace Go.Proofs.YtndpidmbfdpiaaaDoor.Ve
open Go.RowKit Go.Proofs.YtndpidmbfdpiaaaDoor Go.Proofs.YtndpidmbfdpiaaaDoor.Wa

end Go.Proofs.YtndpidmbfdpiaaaDoor.Ve
