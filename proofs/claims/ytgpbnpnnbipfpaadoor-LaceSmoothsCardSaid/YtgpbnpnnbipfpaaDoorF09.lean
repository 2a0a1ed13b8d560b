/- Nothing of its own: what it imports. -/
import Derived.Shelf.Strconv.Itoa0
import Derived.Test.YtgpbnpnnbipfpaaDoorF08
namespace Go.Proofs.YtgpbnpnnbipfpaaDoor
end Go.Proofs.YtgpbnpnnbipfpaaDoor
