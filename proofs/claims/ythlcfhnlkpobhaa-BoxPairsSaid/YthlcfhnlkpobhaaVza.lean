/- The contract of the document's own amount, and the first axis widest. -/
import Derived.Test.YthlcfhnlkpobhaaVw
namespace Go.Proofs.Ythlcfhnlkpobhaa.Ve
open Go.RowKit Go.Proofs.Ythlcfhnlkpobhaa Go.Proofs.Ythlcfhnlkpobhaa.Wa

theorem below_draws {B : Nat} {a w : World} (h : Below B a w) (n : Nat) : Below B a (w.drewN n) := h.trans ⟨rfl, rfl, rfl, Nat.le_refl _, fun _ _ => rfl⟩

theorem quiet_more {P : Program} {f : FuncId} {args : Array Value} {w : World} {i j : Nat} {v : Value} (h : Calls P f args (w.drewN (i + j)) fun e w' => e = .returned v ∧ w.drewN (i + j) = w') :
    Calls P f args (w.drewN (i + j)) fun e w' => e = .returned v ∧ ∃ m, w' = w.drewN (i + m) := h.mono fun _ _ ⟨x, y⟩ => ⟨x, j, y.symm⟩

end Go.Proofs.Ythlcfhnlkpobhaa.Ve
