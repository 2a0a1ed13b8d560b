/- Layer 7: the contracts of a writer's points, lights, sums, blobs, and of its bytes; the document's example. -/
import Derived.Test.YtndpidmbfdpiaaaDoorReb
namespace Go.Proofs.YtndpidmbfdpiaaaDoor.Re
open Go.RowKit Go.Proofs.YtndpidmbfdpiaaaDoor Go.Proofs.YtndpidmbfdpiaaaDoor.Rp

abbrev V3 (x y z : Int) : Value := .agg #[.int .i64 x, .int .i64 y, .int .i64 z]

theorem heap_last2 (w : World) (o o2 : Obj) : ((w.alloc o).alloc o2).heap[w.heap.size + 1]? = some o2 := by
  have h := heap_alloc_last (w.alloc o) o2
  simpa using h

theorem three_cells (x y z : Int) : ∀ j, j < [x, y, z].length → (#[.int .i64 x, .int .i64 y, .int .i64 z] : Array Value)[j]? = some (.int .i64 ([x, y, z].getD j 0)) := by
  intro j hj
  match j, hj with
  | 0, _ => rfl
  | 1, _ => rfl
  | 2, _ => rfl

theorem bs_block {w : World} {b : Nat} {t : TypeId} {fr : Nat × Nat} (p : List UInt8) (cap : Nat) (hb : w.heap[b]? = some (.cells (vals p).toArray t fr)) : Bs w (.slice (some ⟨b, 0, none⟩) p.length cap) p :=
  .inr ⟨_, cap, rfl, fun j u hu => by
    rw [Addr.add_mid, Nat.zero_add, cell_of_row w b j _ t fr hb]; simpa using hu⟩

end Go.Proofs.YtndpidmbfdpiaaaDoor.Re
