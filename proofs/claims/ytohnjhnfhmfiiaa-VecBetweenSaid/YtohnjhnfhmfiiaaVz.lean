/- The contract of the document's own widest axis. -/
import Derived.Test.YtohnjhnfhmfiiaaVzb
import Derived.Test.YtohnjhnfhmfiiaaVzc
import Derived.Test.YtohnjhnfhmfiiaaVzd
namespace Go.Proofs.Ytohnjhnfhmfiiaa.Ve
open Go.RowKit Go.Proofs.Ytohnjhnfhmfiiaa Go.Proofs.Ytohnjhnfhmfiiaa.Wa

end Go.Proofs.Ytohnjhnfhmfiiaa.Ve
