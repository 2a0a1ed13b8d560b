/- Nothing of its own: what LaceFlat's walk imports. -/
import Derived.Test.YtpinpkhalccjhaaDoorF49
import Derived.Test.YtpinpkhalccjhaaDoorF31
import Derived.Test.YtpinpkhalccjhaaDoorF35
import Derived.Test.YtpinpkhalccjhaaDoorF50
namespace Go.Proofs.YtpinpkhalccjhaaDoor
end Go.Proofs.YtpinpkhalccjhaaDoor
