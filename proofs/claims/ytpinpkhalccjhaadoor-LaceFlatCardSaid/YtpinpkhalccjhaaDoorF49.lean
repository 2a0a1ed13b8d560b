/- What layer 20's claims share. -/
import Derived.Test.YtpinpkhalccjhaaDoorF34
import Derived.Test.YtpinpkhalccjhaaDoorF26
import Derived.Test.YtpinpkhalccjhaaDoorF27
import Derived.Test.YtpinpkhalccjhaaDoorF37
import Derived.Test.YtpinpkhalccjhaaDoorF38
import Derived.Test.YtpinpkhalccjhaaDoorF39
import Derived.Test.YtpinpkhalccjhaaDoorF48
namespace Go.Proofs.YtpinpkhalccjhaaDoor
end Go.Proofs.YtpinpkhalccjhaaDoor
