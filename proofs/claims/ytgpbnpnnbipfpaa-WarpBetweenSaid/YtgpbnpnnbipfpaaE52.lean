/- What layer 19's claims share. -/
import Derived.Test.YtgpbnpnnbipfpaaE39
import Derived.Test.YtgpbnpnnbipfpaaE35
import Derived.Test.YtgpbnpnnbipfpaaE36
import Derived.Test.YtgpbnpnnbipfpaaE41
import Derived.Test.YtgpbnpnnbipfpaaE42
import Derived.Test.YtgpbnpnnbipfpaaE51
import Derived.Test.YtgpbnpnnbipfpaaE30
namespace Go.Proofs.Ytgpbnpnnbipfpaa
end Go.Proofs.Ytgpbnpnnbipfpaa
