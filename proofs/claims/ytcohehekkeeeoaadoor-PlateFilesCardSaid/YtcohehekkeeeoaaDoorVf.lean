/- The contracts of layer 2's functions on points, number by number. -/
import Derived.Test.YtcohehekkeeeoaaDoorVc
import Derived.Test.YtcohehekkeeeoaaDoorVea
import Derived.Test.YtcohehekkeeeoaaDoorVes
import Derived.Test.YtcohehekkeeeoaaDoorVem
import Derived.Test.YtcohehekkeeeoaaDoorVex
namespace Go.Proofs.YtcohehekkeeeoaaDoor.Ve
open Go.RowKit Go.Proofs.YtcohehekkeeeoaaDoor Go.Proofs.YtcohehekkeeeoaaDoor.Wa

theorem to_any (ax ay az : Int) (w : World) :
    Calls Tryd.prog 29 #[V3 ax ay az] w fun e w' => e = .returned (V3 ax ay az) ∧ Below w.heap.size w w' := by
  go_enter Tryd.func29, Tryd.ntmps29
  go_wp2
  exact bodyPost_ret (v := V3 ax ay az) (by simp [results, Tryd.results29, go_sem]) rfl ⟨rfl, below_n2 _ _ _⟩

end Go.Proofs.YtcohehekkeeeoaaDoor.Ve
