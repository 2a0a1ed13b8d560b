/- What layer 20's claims share. -/
import Derived.Test.YtgpbnpnnbipfpaaDoorF37
import Derived.Test.YtgpbnpnnbipfpaaDoorF30
import Derived.Test.YtgpbnpnnbipfpaaDoorF31
import Derived.Test.YtgpbnpnnbipfpaaDoorF32
import Derived.Test.YtgpbnpnnbipfpaaDoorF39
import Derived.Test.YtgpbnpnnbipfpaaDoorF40
import Derived.Test.YtgpbnpnnbipfpaaDoorF41
import Derived.Test.YtgpbnpnnbipfpaaDoorF50
namespace Go.Proofs.YtgpbnpnnbipfpaaDoor
end Go.Proofs.YtgpbnpnnbipfpaaDoor
