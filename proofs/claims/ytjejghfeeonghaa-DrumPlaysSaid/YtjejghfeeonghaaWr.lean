/- Nothing of its own: what it imports. -/
import Derived.Shelf.Strconv.Itoa0
import Derived.Test.YtjejghfeeonghaaWb
namespace Go.Proofs.Ytjejghfeeonghaa
end Go.Proofs.Ytjejghfeeonghaa
