/- The contract of layer 2's widest axis. -/
import Derived.Test.YtfeihojobmagnaaVc
import Derived.WalkLawsBesides
namespace Go.Proofs.Ytfeihojobmagnaa.Ve
open Go.RowKit Go.Proofs.Ytfeihojobmagnaa Go.Proofs.Ytfeihojobmagnaa.Wa

/-- the first axis whose amount none exceeds -/
def widest (x y z : Int) : Int := if y ≤ x ∧ z ≤ x then 0 else if x ≤ y ∧ z ≤ y then 1 else 2

end Go.Proofs.Ytfeihojobmagnaa.Ve
