/- Nothing of its own: what it imports. -/
import Derived.Shelf.Strconv.Itoa0
import Derived.Test.YtndpidmbfdpiaaaWb
namespace Go.Proofs.Ytndpidmbfdpiaaa
end Go.Proofs.Ytndpidmbfdpiaaa
