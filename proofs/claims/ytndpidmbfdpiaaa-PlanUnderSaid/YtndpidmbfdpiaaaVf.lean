/- The contracts of layer 2's functions on points, number by number. -/
import Derived.Test.YtndpidmbfdpiaaaVc
import Derived.Test.YtndpidmbfdpiaaaVea
import Derived.Test.YtndpidmbfdpiaaaVes
import Derived.Test.YtndpidmbfdpiaaaVem
import Derived.Test.YtndpidmbfdpiaaaVex
namespace Go.Proofs.Ytndpidmbfdpiaaa.Ve
open Go.RowKit Go.Proofs.Ytndpidmbfdpiaaa Go.Proofs.Ytndpidmbfdpiaaa.Wa

end Go.Proofs.Ytndpidmbfdpiaaa.Ve
