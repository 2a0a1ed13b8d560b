/- The contract of layer 2's each at differences. -/
import Derived.Test.YtndpidmbfdpiaaaVb
namespace Go.Proofs.Ytndpidmbfdpiaaa.Ve
open Go.RowKit Go.Proofs.Ytndpidmbfdpiaaa Go.Proofs.Ytndpidmbfdpiaaa.Wa

end Go.Proofs.Ytndpidmbfdpiaaa.Ve
