/- The contract of layer 2's each at sums. -/
import Derived.Test.YtjejghfeeonghaaVb
namespace Go.Proofs.Ytjejghfeeonghaa.Ve
open Go.RowKit Go.Proofs.Ytjejghfeeonghaa Go.Proofs.Ytjejghfeeonghaa.Wa

end Go.Proofs.Ytjejghfeeonghaa.Ve
