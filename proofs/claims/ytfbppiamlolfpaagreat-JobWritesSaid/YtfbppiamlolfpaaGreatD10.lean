/- Nothing of its own: what it imports. -/
import Derived.Shelf.Strconv.Itoa0
import Derived.Test.YtfbppiamlolfpaaGreatD09
namespace Go.Proofs.YtfbppiamlolfpaaGreat
end Go.Proofs.YtfbppiamlolfpaaGreat
