/- Nothing of its own: what it imports. -/
import Derived.Shelf.Strconv.Itoa0
import Derived.Test.YtfeihojobmagnaaWb
namespace Go.Proofs.Ytfeihojobmagnaa
end Go.Proofs.Ytfeihojobmagnaa
