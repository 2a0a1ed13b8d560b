/- The contract of the document's own outer product. -/
import Derived.Test.YtohnjhnfhmfiiaaVc
namespace Go.Proofs.Ytohnjhnfhmfiiaa.Ve
open Go.RowKit Go.Proofs.Ytohnjhnfhmfiiaa Go.Proofs.Ytohnjhnfhmfiiaa.Wa

end Go.Proofs.Ytohnjhnfhmfiiaa.Ve
