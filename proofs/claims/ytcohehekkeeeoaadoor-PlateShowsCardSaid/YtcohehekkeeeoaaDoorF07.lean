/- Nothing of its own: what it imports. -/
import Derived.Shelf.Strconv.Itoa0
import Derived.Test.YtcohehekkeeeoaaDoorF06
namespace Go.Proofs.YtcohehekkeeeoaaDoor
end Go.Proofs.YtcohehekkeeeoaaDoor
