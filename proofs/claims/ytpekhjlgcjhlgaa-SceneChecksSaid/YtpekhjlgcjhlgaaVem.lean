/- The contract of layer 2's each at products. -/
import Derived.Test.YtpekhjlgcjhlgaaVb
namespace Go.Proofs.Ytpekhjlgcjhlgaa.Ve
open Go.RowKit Go.Proofs.Ytpekhjlgcjhlgaa Go.Proofs.Ytpekhjlgcjhlgaa.Wa

end Go.Proofs.Ytpekhjlgcjhlgaa.Ve
