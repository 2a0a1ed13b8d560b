/- Nothing of its own: what it imports. -/
import Derived.Shelf.Strconv.Itoa0
import Derived.Test.YtgpbnpnnbipfpaaE10
namespace Go.Proofs.Ytgpbnpnnbipfpaa
end Go.Proofs.Ytgpbnpnnbipfpaa
