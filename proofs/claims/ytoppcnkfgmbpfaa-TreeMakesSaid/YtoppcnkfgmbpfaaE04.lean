/- Nothing of its own: what it imports. -/
import Derived.Shelf.Strconv.Itoa0
import Derived.Test.YtoppcnkfgmbpfaaE03
namespace Go.Proofs.Ytoppcnkfgmbpfaa
end Go.Proofs.Ytoppcnkfgmbpfaa
