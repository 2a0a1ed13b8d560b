/- What PlateShows reaches. -/
import Derived.Test.YtcohehekkeeeoaaDoorF37
import Derived.Test.YtcohehekkeeeoaaDoorF38
import Derived.Test.YtcohehekkeeeoaaDoorF40
import Derived.Test.YtcohehekkeeeoaaDoorF43
import Derived.Test.YtcohehekkeeeoaaDoorF44
import Derived.Test.YtcohehekkeeeoaaDoorF45
import Derived.Test.YtcohehekkeeeoaaDoorF42
import Derived.Test.YtcohehekkeeeoaaDoorF25
import Derived.Test.YtcohehekkeeeoaaDoorF17
import Derived.Test.YtcohehekkeeeoaaDoorF49
import Derived.Test.YtcohehekkeeeoaaDoorF19
import Derived.Test.YtcohehekkeeeoaaDoorF51
namespace Go.Proofs.YtcohehekkeeeoaaDoor
end Go.Proofs.YtcohehekkeeeoaaDoor
