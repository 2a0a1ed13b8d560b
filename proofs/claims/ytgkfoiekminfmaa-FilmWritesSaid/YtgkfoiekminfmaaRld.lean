/- Layer 7: a value that is laid by the document: the contract, kind by kind. -/
import Derived.Test.YtgkfoiekminfmaaRlc
import Derived.Maps.AppendAt
namespace Go.Proofs.Ytgkfoiekminfmaa.Re
open Go.RowKit Go.Proofs.Ytgkfoiekminfmaa Go.Proofs.Ytgkfoiekminfmaa.Rp
set_option linter.unusedVariables false

theorem own_new {S : Nat → Prop} {w : World} {base : Nat} {v : Value} {l : List UInt8} (h : w.ownsRow base 5 1 v l.length (vals l)) (hS : ∀ k, S k → k < base) : Own S v l w :=
  ⟨own_mono h (Nat.zero_le _), fun q hq e => by have := (h.lt q hq).1; have := hS q e; omega⟩
theorem own_form3 {base : Nat} {w : World} {v : Value} {n : Nat} {xs : List Value} (h : w.ownsRow base 5 1 v n xs) : ∃ a m c, v = .slice a m c := by
  obtain ⟨a, c, hv⟩ := own_form h
  exact ⟨a, n, c, hv⟩
theorem own_keep {S : Nat → Prop} {v : Value} {l : List UInt8} {w w' : World} (h : Own S v l w) (hb : Below w.heap.size w w') : Own S v l w' :=
  ⟨own_heap h.1 fun q hq => hb.block q (h.1.lt q hq).2, h.2⟩

end Go.Proofs.Ytgkfoiekminfmaa.Re
