/- The document's own widest axis: the third one, where the first is less than the second. -/
import Derived.Test.YtohnjhnfhmfiiaaVza
namespace Go.Proofs.Ytohnjhnfhmfiiaa.Ve
open Go.RowKit Go.Proofs.Ytohnjhnfhmfiiaa Go.Proofs.Ytohnjhnfhmfiiaa.Wa

end Go.Proofs.Ytohnjhnfhmfiiaa.Ve
