/- The contract of layer 2's widest axis. -/
import Derived.Test.YthlcfhnlkpobhaaVc
import Derived.WalkLawsBesides
namespace Go.Proofs.Ythlcfhnlkpobhaa.Ve
open Go.RowKit Go.Proofs.Ythlcfhnlkpobhaa Go.Proofs.Ythlcfhnlkpobhaa.Wa

/-- the first axis whose amount none exceeds -/
def widest (x y z : Int) : Int := if y ≤ x ∧ z ≤ x then 0 else if x ≤ y ∧ z ≤ y then 1 else 2

end Go.Proofs.Ythlcfhnlkpobhaa.Ve
