/- The contract of layer 2's each at ways between two. -/
import Derived.Test.YtgkfoiekminfmaaVb
namespace Go.Proofs.Ytgkfoiekminfmaa.Ve
open Go.RowKit Go.Proofs.Ytgkfoiekminfmaa Go.Proofs.Ytgkfoiekminfmaa.Wa

end Go.Proofs.Ytgkfoiekminfmaa.Ve
