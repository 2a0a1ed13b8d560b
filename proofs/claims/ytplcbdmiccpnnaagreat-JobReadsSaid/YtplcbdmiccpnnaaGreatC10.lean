/- Layer 7: the contracts of a reader's blob. -/
import Derived.Test.YtplcbdmiccpnnaaGreatC08
import Derived.Test.YtplcbdmiccpnnaaGreatC09
import Derived.Shelf.Strconv.Itoa0
namespace Go.Proofs.YtplcbdmiccpnnaaGreat.Re
open Go.RowKit Go.Proofs.YtplcbdmiccpnnaaGreat Go.Proofs.YtplcbdmiccpnnaaGreat.Rp

theorem max_wrap (x : Int) (h : x ≤ 9223372036854775807) : IntKind.u64.wrap (max x 0) = max x 0 := by rw [IntKind.wrap_u64]; omega

end Go.Proofs.YtplcbdmiccpnnaaGreat.Re
