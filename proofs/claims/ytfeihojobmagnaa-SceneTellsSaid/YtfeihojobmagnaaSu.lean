/- Scenes: the contract of whether a shape may be, by the document. -/
import Derived.Test.YtfeihojobmagnaaSt
import Derived.Test.YtfeihojobmagnaaSd
namespace Go.Proofs.Ytfeihojobmagnaa.Sc
open Go.RowKit Go.Proofs.Ytfeihojobmagnaa Go.Proofs.Ytfeihojobmagnaa.Wa Go.Proofs.Ytfeihojobmagnaa.Ve Go.Proofs.Ytfeihojobmagnaa.Tk
set_option linter.unusedVariables false

end Go.Proofs.Ytfeihojobmagnaa.Sc
