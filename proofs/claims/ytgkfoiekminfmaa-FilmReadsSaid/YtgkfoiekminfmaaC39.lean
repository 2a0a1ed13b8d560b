/- Layer 7: the contracts of a reader's blob. -/
import Derived.Test.YtgkfoiekminfmaaC33
import Derived.Test.YtgkfoiekminfmaaC38
import Derived.Shelf.Strconv.Itoa0
namespace Go.Proofs.Ytgkfoiekminfmaa.Re
open Go.RowKit Go.Proofs.Ytgkfoiekminfmaa Go.Proofs.Ytgkfoiekminfmaa.Rp

theorem max_wrap (x : Int) (h : x ≤ 9223372036854775807) : IntKind.u64.wrap (max x 0) = max x 0 := by rw [IntKind.wrap_u64]; omega

end Go.Proofs.Ytgkfoiekminfmaa.Re
