/- The contract of layer 2's each at sums. -/
import Derived.Test.YtjejghfeeonghaaDoorVb
namespace Go.Proofs.YtjejghfeeonghaaDoor.Ve
open Go.RowKit Go.Proofs.YtjejghfeeonghaaDoor Go.Proofs.YtjejghfeeonghaaDoor.Wa

end Go.Proofs.YtjejghfeeonghaaDoor.Ve
