/- The contracts of layer 2's functions on points, number by number. -/
import Derived.Test.YtpinpkhalccjhaaDoorVc
import Derived.Test.YtpinpkhalccjhaaDoorVea
import Derived.Test.YtpinpkhalccjhaaDoorVes
import Derived.Test.YtpinpkhalccjhaaDoorVem
import Derived.Test.YtpinpkhalccjhaaDoorVex
namespace Go.Proofs.YtpinpkhalccjhaaDoor.Ve
open Go.RowKit Go.Proofs.YtpinpkhalccjhaaDoor Go.Proofs.YtpinpkhalccjhaaDoor.Wa

theorem to_any (ax ay az : Int) (w : World) :
    Calls Tryd.prog 51 #[V3 ax ay az] w fun e w' => e = .returned (V3 ax ay az) ∧ Below w.heap.size w w' := by
  go_enter Tryd.func51, Tryd.ntmps51
  go_wp2
  exact bodyPost_ret (v := V3 ax ay az) (by simp [results, Tryd.results51, go_sem]) rfl ⟨rfl, below_n2 _ _ _⟩

end Go.Proofs.YtpinpkhalccjhaaDoor.Ve
