/- The contract of a fold by sums. -/
import Derived.Test.YtpekhjlgcjhlgaaVfb
import Derived.Test.YtpekhjlgcjhlgaaVea
namespace Go.Proofs.Ytpekhjlgcjhlgaa.Ve
open Go.RowKit Go.Proofs.Ytpekhjlgcjhlgaa Go.Proofs.Ytpekhjlgcjhlgaa.Wa

end Go.Proofs.Ytpekhjlgcjhlgaa.Ve
