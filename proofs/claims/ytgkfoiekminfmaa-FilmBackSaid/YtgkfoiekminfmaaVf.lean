/- The contracts of layer 2's functions on points, number by number. -/
import Derived.Test.YtgkfoiekminfmaaVc
import Derived.Test.YtgkfoiekminfmaaVea
import Derived.Test.YtgkfoiekminfmaaVes
import Derived.Test.YtgkfoiekminfmaaVem
import Derived.Test.YtgkfoiekminfmaaVex
namespace Go.Proofs.Ytgkfoiekminfmaa.Ve
open Go.RowKit Go.Proofs.Ytgkfoiekminfmaa Go.Proofs.Ytgkfoiekminfmaa.Wa

theorem to_any (ax ay az : Int) (w : World) :
    Calls Try.prog 30 #[V3 ax ay az] w fun e w' => e = .returned (V3 ax ay az) ∧ Below w.heap.size w w' := by
  go_enter Try.func30, Try.ntmps30
  go_wp2
  exact bodyPost_ret (v := V3 ax ay az) (by simp [results, Try.results30, go_sem]) rfl ⟨rfl, below_n2 _ _ _⟩

theorem from_any (ax ay az : Int) (w : World) :
    Calls Try.prog 50 #[V3 ax ay az] w fun e w' => e = .returned (V3 ax ay az) ∧ Below w.heap.size w w' := by
  go_enter Try.func50, Try.ntmps50
  go_wp2
  exact bodyPost_ret (v := V3 ax ay az) (by simp [results, Try.results50, go_sem]) rfl ⟨rfl, below_n2 _ _ _⟩

end Go.Proofs.Ytgkfoiekminfmaa.Ve
