/- The document's own widest axis: the third one, where the others are as wide. -/
import Derived.Test.YtohnjhnfhmfiiaaVza
namespace Go.Proofs.Ytohnjhnfhmfiiaa.Ve
open Go.RowKit Go.Proofs.Ytohnjhnfhmfiiaa Go.Proofs.Ytohnjhnfhmfiiaa.Wa

end Go.Proofs.Ytohnjhnfhmfiiaa.Ve
