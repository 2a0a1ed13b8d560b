/- The contracts of layer 2's functions on points, number by number. -/
import Derived.Test.YtjejghfeeonghaaDoorVc
import Derived.Test.YtjejghfeeonghaaDoorVea
import Derived.Test.YtjejghfeeonghaaDoorVes
import Derived.Test.YtjejghfeeonghaaDoorVem
import Derived.Test.YtjejghfeeonghaaDoorVex
namespace Go.Proofs.YtjejghfeeonghaaDoor.Ve
open Go.RowKit Go.Proofs.YtjejghfeeonghaaDoor Go.Proofs.YtjejghfeeonghaaDoor.Wa

theorem to_any (ax ay az : Int) (w : World) :
    Calls Tryd.prog 35 #[V3 ax ay az] w fun e w' => e = .returned (V3 ax ay az) ∧ Below w.heap.size w w' := by
  go_enter Tryd.func35, Tryd.ntmps35
  go_wp2
  exact bodyPost_ret (v := V3 ax ay az) (by simp [results, Tryd.results35, go_sem]) rfl ⟨rfl, below_n2 _ _ _⟩

end Go.Proofs.YtjejghfeeonghaaDoor.Ve
