/- The contract of the document's own widest axis. -/
import Derived.Test.YtdnmfiekfkmbbaaVzb
import Derived.Test.YtdnmfiekfkmbbaaVzc
import Derived.Test.YtdnmfiekfkmbbaaVzd
namespace Go.Proofs.Ytdnmfiekfkmbbaa.Ve
open Go.RowKit Go.Proofs.Ytdnmfiekfkmbbaa Go.Proofs.Ytdnmfiekfkmbbaa.Wa

theorem rwidest_any (ax ay az : Int) (w : World) :
    Calls Try.prog 34 #[V3 ax ay az] w fun e w' => e = .returned (.int .i64 (widest (Pl.amount ax) (Pl.amount ay) (Pl.amount az))) ∧ Below w.heap.size w w' := by
  unfold widest
  by_cases h0 : Pl.amount ay ≤ Pl.amount ax ∧ Pl.amount az ≤ Pl.amount ax
  · rw [if_pos h0]; exact rwidest_0 ax ay az h0.1 h0.2 w
  · rw [if_neg h0]
    by_cases h1 : Pl.amount ax ≤ Pl.amount ay ∧ Pl.amount az ≤ Pl.amount ay
    · rw [if_pos h1]; exact rwidest_1 ax ay az (by omega) h1.2 w
    · rw [if_neg h1]
      by_cases h3 : Pl.amount ax < Pl.amount ay
      · exact rwidest_2a ax ay az (by omega) (by omega) h3 w
      · by_cases h4 : Pl.amount ay < Pl.amount ax
        · exact rwidest_2b ax ay az (by omega) (by omega) h4 w
        · exact rwidest_2c ax ay az (by omega) (by omega) (by omega) (by omega) w

end Go.Proofs.Ytdnmfiekfkmbbaa.Ve
