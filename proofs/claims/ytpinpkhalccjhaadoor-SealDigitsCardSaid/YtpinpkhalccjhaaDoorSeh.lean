/- Layer 22: the document's example, reckoned. -/
import Derived.Test.YtpinpkhalccjhaaDoorSef
namespace Go.Proofs.YtpinpkhalccjhaaDoor.Se
open Go Go.RowKit Go.Proofs.YtpinpkhalccjhaaDoor

theorem sha_abc : sha [97, 98, 99] = [186, 120, 22, 191, 143, 1, 207, 234, 65, 65, 64, 222, 93, 174, 34, 35, 176, 3, 97, 163, 150, 23, 122, 156, 180, 16, 255, 97, 242, 0, 21, 173] := by decide +kernel
end Go.Proofs.YtpinpkhalccjhaaDoor.Se
