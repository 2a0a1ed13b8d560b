/- The contracts of layer 2's functions on points, number by number. -/
import Derived.Test.YtndpidmbfdpiaaaDoorVc
import Derived.Test.YtndpidmbfdpiaaaDoorVea
import Derived.Test.YtndpidmbfdpiaaaDoorVes
import Derived.Test.YtndpidmbfdpiaaaDoorVem
import Derived.Test.YtndpidmbfdpiaaaDoorVex
namespace Go.Proofs.YtndpidmbfdpiaaaDoor.Ve
open Go.RowKit Go.Proofs.YtndpidmbfdpiaaaDoor Go.Proofs.YtndpidmbfdpiaaaDoor.Wa

end Go.Proofs.YtndpidmbfdpiaaaDoor.Ve
