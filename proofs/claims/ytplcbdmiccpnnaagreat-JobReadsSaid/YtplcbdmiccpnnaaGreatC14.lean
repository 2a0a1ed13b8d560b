/- Nothing of its own: what it imports. -/
import Derived.Shelf.Strconv.Itoa0
import Derived.Test.YtplcbdmiccpnnaaGreatC13
namespace Go.Proofs.YtplcbdmiccpnnaaGreat
end Go.Proofs.YtplcbdmiccpnnaaGreat
