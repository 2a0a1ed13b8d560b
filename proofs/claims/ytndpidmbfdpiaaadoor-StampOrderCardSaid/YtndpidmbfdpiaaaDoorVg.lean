/- What the laws' walks over points share: the points that came in, behind calls and new variables. -/
import Derived.Test.YtndpidmbfdpiaaaDoorVc
import Derived.ChangeKeysEq
import Derived.OwnWalk
namespace Go.Proofs.YtndpidmbfdpiaaaDoor.Ve
open Go.RowKit Go.Proofs.YtndpidmbfdpiaaaDoor Go.Proofs.YtndpidmbfdpiaaaDoor.Wa

theorem old1 {w : World} {k j : Nat} {v : Value} (o1 : Obj) (hk : k < w.heap.size) (h : w.cell? ⟨k, j, none⟩ = some v) : (w.alloc o1).cell? ⟨k, j, none⟩ = some v := by
  rw [World.cell?_alloc_past _ _ _ hk]; exact h

theorem old2 {w : World} {k j : Nat} {v : Value} (o1 o2 : Obj) (hk : k < w.heap.size) (h : w.cell? ⟨k, j, none⟩ = some v) : ((w.alloc o1).alloc o2).cell? ⟨k, j, none⟩ = some v :=
  old1 o2 (by simp; omega) (old1 o1 hk h)

theorem infoInt : (Tryd.prog.info? 2).map (fun i => (i.zero, i.size, i.bytes)) = some (some (.int .i64 0), 1, 8) := by kernel_rfl

theorem cellsInt : Tryd.prog.cellsOf 2 = 1 := by kernel_rfl

theorem held_on {W w9 : World} {p : Addr} {v : Value} (hbn : Below W.heap.size W w9) (h : W.cell? p = some v) : w9.cell? p = some v :=
  (hbn.cell (World.block_lt_of_cell? _ _ h)).trans h

end Go.Proofs.YtndpidmbfdpiaaaDoor.Ve
