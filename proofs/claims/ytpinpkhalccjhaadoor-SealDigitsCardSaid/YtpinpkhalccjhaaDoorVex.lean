/- The contract of layer 2's each at ways between two. -/
import Derived.Test.YtpinpkhalccjhaaDoorVb
namespace Go.Proofs.YtpinpkhalccjhaaDoor.Ve
open Go.RowKit Go.Proofs.YtpinpkhalccjhaaDoor Go.Proofs.YtpinpkhalccjhaaDoor.Wa

end Go.Proofs.YtpinpkhalccjhaaDoor.Ve
