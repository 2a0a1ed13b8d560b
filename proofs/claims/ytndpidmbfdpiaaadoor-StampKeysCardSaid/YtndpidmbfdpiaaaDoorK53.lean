/- Layer 26 (stamp): all that StampKeys' frame stands on. -/
import Derived.Test.YtndpidmbfdpiaaaDoorK51
import Derived.Test.YtndpidmbfdpiaaaDoorK52

