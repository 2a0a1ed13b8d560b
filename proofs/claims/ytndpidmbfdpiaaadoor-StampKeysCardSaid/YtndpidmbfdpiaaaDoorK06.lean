/- Nothing of its own: what it imports. -/
import Derived.Shelf.Strconv.Itoa0
import Derived.Test.YtndpidmbfdpiaaaDoorK05
namespace Go.Proofs.YtndpidmbfdpiaaaDoor
end Go.Proofs.YtndpidmbfdpiaaaDoor
