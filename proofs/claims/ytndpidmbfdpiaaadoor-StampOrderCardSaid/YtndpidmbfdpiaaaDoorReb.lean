/- Layer 7: the contracts of a writer's numbers of one, two, four, eight and five bytes. -/
import Derived.Test.YtndpidmbfdpiaaaDoorRea
namespace Go.Proofs.YtndpidmbfdpiaaaDoor.Re
open Go.RowKit Go.Proofs.YtndpidmbfdpiaaaDoor Go.Proofs.YtndpidmbfdpiaaaDoor.Rp

/-- a slice of integers that stays while a writer writes -/
def Ints (S : Nat → Prop) (w : World) (a : Option Addr) (zs : List Int) : Prop :=
  zs = [] ∨ ∃ b off, a = some ⟨b, off, none⟩ ∧ ∀ w', Aw S w w' → ∀ j, j < zs.length → w'.cell? ⟨b, off + j, none⟩ = some (.int .i64 (zs.getD j 0))

theorem Ints.cons {S : Nat → Prop} {w : World} {b : Nat} {cs : Array Value} {t : TypeId} {fr : Nat × Nat} (zs : List Int) (hb : w.heap[b]? = some (.cells cs t fr)) (hS : S b) (hc : ∀ j, j < zs.length → cs[j]? = some (.int .i64 (zs.getD j 0))) : Ints S w (some ⟨b, 0, none⟩) zs :=
  .inr ⟨b, 0, rfl, fun w' ha j hj => by
    rw [Nat.zero_add, cell_of_row w' b j cs t fr ((ha.block b hS (lt_of_heap hb)).trans hb)]; exact hc j hj⟩

theorem Ints.one {S : Nat → Prop} {w : World} (x : Int) (t : TypeId) : Ints (fun k => S k ∨ k = w.heap.size) (w.alloc (.cells #[.int .i64 x] t)) (some ⟨w.heap.size, 0, none⟩) [x] :=
  Ints.cons [x] (heap_alloc_last w _) (.inr rfl) (fun j hj => by
    match j, hj with
    | 0, _ => rfl)

theorem Ints.one2 {S : Nat → Prop} {w : World} (x : Int) (t : TypeId) (b : Nat) (hb : b = w.heap.size) : Ints (fun k => S k ∨ k = b) (w.alloc (.cells #[.int .i64 x] t)) (some ⟨b, 0, none⟩) [x] := by
  subst hb; exact Ints.one x t

theorem WAt.push2 {g : Nat} {S : Nat → Prop} {l : List UInt8} {w : World} (h : WAt g S l w) (o : Obj) (b : Nat) (hb : b = w.heap.size) : WAt g (fun k => S k ∨ k = b) l (w.alloc o) := by
  subst hb; exact h.push o

end Go.Proofs.YtndpidmbfdpiaaaDoor.Re
