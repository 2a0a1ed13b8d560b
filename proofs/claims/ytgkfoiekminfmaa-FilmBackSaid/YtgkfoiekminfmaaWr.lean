/- Nothing of its own: what it imports. -/
import Derived.Shelf.Strconv.Itoa0
import Derived.Test.YtgkfoiekminfmaaWb
namespace Go.Proofs.Ytgkfoiekminfmaa
end Go.Proofs.Ytgkfoiekminfmaa
