/- The contracts of layer 2's inner product, length and number along an axis. -/
import Derived.Test.YtoppcnkfgmbpfaaE05
import Derived.Test.YtoppcnkfgmbpfaaE06
import Derived.Test.YtoppcnkfgmbpfaaE12
namespace Go.Proofs.Ytoppcnkfgmbpfaa.Ve
open Go.RowKit Go.Proofs.Ytoppcnkfgmbpfaa Go.Proofs.Ytoppcnkfgmbpfaa.Wa

theorem at_any (ax ay az i : Int) (w : World) :
    Calls Try.prog 43 #[V3 ax ay az, .int .i64 i] w fun e w' => e = .returned (.int .i64 (if i = 0 then ax else if i = 1 then ay else az)) ∧ Below w.heap.size w w' := by
  by_cases h0 : i = 0
  · subst h0
    go_enter Try.func43, Try.ntmps43
    go_wp2
    go_ret
    exact ⟨rfl, below_n1 _ _⟩
  · by_cases h1 : i = 1
    · subst h1
      go_enter Try.func43, Try.ntmps43
      go_wp2
      go_ret
      exact ⟨rfl, below_n1 _ _⟩
    · have e : (if i = 0 then ax else if i = 1 then ay else az) = az := by rw [if_neg h0, if_neg h1]
      rw [e]
      go_enter Try.func43, Try.ntmps43
      go_wp2
      go_ret
      exact ⟨rfl, below_n1 _ _⟩

end Go.Proofs.Ytoppcnkfgmbpfaa.Ve
