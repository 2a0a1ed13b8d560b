/- Lights smoothed: how much a pixel counts for another one, by the document. -/
import Derived.Test.YtpinpkhalccjhaaDoorF29
import Derived.Test.YtpinpkhalccjhaaDoorF15
import Derived.Test.YtpinpkhalccjhaaDoorF21
namespace Go.Proofs.YtpinpkhalccjhaaDoor.Fm
open Go Go.RowKit Go.Proofs.YtpinpkhalccjhaaDoor Go.Proofs.YtpinpkhalccjhaaDoor.Rp Go.Proofs.YtpinpkhalccjhaaDoor.Re Go.Proofs.YtpinpkhalccjhaaDoor.Au Go.Proofs.YtpinpkhalccjhaaDoor.Jw
set_option linter.unusedVariables false
set_option linter.unusedSimpArgs false

def pdf (d0 d1 d2 : Int) : Nat → Int
  | 0 => 0
  | 1 => Pl.add 0 (Pl.amount d0)
  | 2 => Pl.add (Pl.add 0 (Pl.amount d0)) (Pl.amount d1)
  | _ => Pl.add (Pl.add (Pl.add 0 (Pl.amount d0)) (Pl.amount d1)) (Pl.amount d2)

theorem sub_bd (a b : Int) : -2147483648 ≤ Pl.sub a b ∧ Pl.sub a b ≤ 2147483648 := by unfold Pl.sub; exact ⟨Pl.held_lo _, Pl.held_hi _⟩

end Go.Proofs.YtpinpkhalccjhaaDoor.Fm
