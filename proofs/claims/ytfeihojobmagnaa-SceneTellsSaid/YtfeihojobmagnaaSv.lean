/- Scenes: the contract of the document's Check. -/
import Derived.Test.YtfeihojobmagnaaSu
import Derived.Test.YtfeihojobmagnaaSj
import Derived.Test.YtfeihojobmagnaaSq
import Derived.Test.YtfeihojobmagnaaTq
import Derived.Deep.MidRow
import Derived.Deep.RegionHeld3
import Derived.StillTailTactics
namespace Go.Proofs.Ytfeihojobmagnaa.Sc
open Go.RowKit Go.Proofs.Ytfeihojobmagnaa Go.Proofs.Ytfeihojobmagnaa.Wa Go.Proofs.Ytfeihojobmagnaa.Ve Go.Proofs.Ytfeihojobmagnaa.Tk Go.Proofs.Ytfeihojobmagnaa.Ls
set_option linter.unusedVariables false

theorem wh_first {s : Scn} (h : hdB s = true) : ∀ k, k < 1 → wh s k = -1 := fun k hk => by
  obtain rfl : k = 0 := by omega
  show onceB (hdB s) = -1
  rw [h]; rfl

end Go.Proofs.Ytfeihojobmagnaa.Sc
