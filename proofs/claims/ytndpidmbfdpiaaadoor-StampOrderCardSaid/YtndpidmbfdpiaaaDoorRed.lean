/- Layer 7: the contracts of the library's Clone, of a writer's Bytes; the document's example. -/
import Derived.Test.YtndpidmbfdpiaaaDoorRec
namespace Go.Proofs.YtndpidmbfdpiaaaDoor.Re
open Go.RowKit Go.Proofs.YtndpidmbfdpiaaaDoor Go.Proofs.YtndpidmbfdpiaaaDoor.Rp

/-! ### the document's example -/
def example7 : List UInt8 := [2, 1, 255, 255, 255, 255, 255]

theorem example7_is : ([] : List UInt8) ++ numsOf 2 [258] ++ numsOf 5 [-1] = example7 := by decide +kernel

end Go.Proofs.YtndpidmbfdpiaaaDoor.Re
