/- Nothing of its own: what it imports. -/
import Derived.Shelf.Strconv.Itoa0
import Derived.Test.YtgkfoiekminfmaaC15
namespace Go.Proofs.Ytgkfoiekminfmaa
end Go.Proofs.Ytgkfoiekminfmaa
