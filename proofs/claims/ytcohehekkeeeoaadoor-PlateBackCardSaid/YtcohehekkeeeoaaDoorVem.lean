/- The contract of layer 2's each at products. -/
import Derived.Test.YtcohehekkeeeoaaDoorVb
namespace Go.Proofs.YtcohehekkeeeoaaDoor.Ve
open Go.RowKit Go.Proofs.YtcohehekkeeeoaaDoor Go.Proofs.YtcohehekkeeeoaaDoor.Wa

end Go.Proofs.YtcohehekkeeeoaaDoor.Ve
