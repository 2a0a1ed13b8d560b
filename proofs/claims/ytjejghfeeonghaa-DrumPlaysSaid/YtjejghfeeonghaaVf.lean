/- The contracts of layer 2's functions on points, number by number. -/
import Derived.Test.YtjejghfeeonghaaVc
import Derived.Test.YtjejghfeeonghaaVea
import Derived.Test.YtjejghfeeonghaaVes
import Derived.Test.YtjejghfeeonghaaVem
import Derived.Test.YtjejghfeeonghaaVex
namespace Go.Proofs.Ytjejghfeeonghaa.Ve
open Go.RowKit Go.Proofs.Ytjejghfeeonghaa Go.Proofs.Ytjejghfeeonghaa.Wa

end Go.Proofs.Ytjejghfeeonghaa.Ve
