/- Lights smoothed: Level, Smooth by the document. -/
import Derived.Test.YtpinpkhalccjhaaDoorF44
import Derived.Test.YtpinpkhalccjhaaDoorF46
import Derived.Test.YtpinpkhalccjhaaDoorF22
import Derived.Deep.AppendLies
namespace Go.Proofs.YtpinpkhalccjhaaDoor.Fm
open Go Go.RowKit Go.Proofs.YtpinpkhalccjhaaDoor Go.Proofs.YtpinpkhalccjhaaDoor.Rp Go.Proofs.YtpinpkhalccjhaaDoor.Re Go.Proofs.YtpinpkhalccjhaaDoor.Au Go.Proofs.YtpinpkhalccjhaaDoor.Jw
set_option linter.unusedVariables false
set_option linter.unusedSimpArgs false

end Go.Proofs.YtpinpkhalccjhaaDoor.Fm
