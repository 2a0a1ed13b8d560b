/- More of what the walks over points share: worlds behind new blocks and a call that makes memory. -/
import Derived.Test.YtndpidmbfdpiaaaDoorVb
namespace Go.Proofs.YtndpidmbfdpiaaaDoor.Ve
open Go.RowKit Go.Proofs.YtndpidmbfdpiaaaDoor Go.Proofs.YtndpidmbfdpiaaaDoor.Wa

theorem below_n1 (w : World) (o1 : Obj) : Below w.heap.size w (w.alloc o1) := (Below.refl _ _).alloc (Nat.le_refl _) o1

theorem below_n2 (w : World) (o1 o2 : Obj) : Below w.heap.size w ((w.alloc o1).alloc o2) := (below_n1 w o1).alloc (by simp) o2

theorem below_n3 (w : World) (o1 o2 o3 : Obj) : Below w.heap.size w (((w.alloc o1).alloc o2).alloc o3) := (below_n2 w o1 o2).alloc (by simp; omega) o3

theorem below_n4 (w : World) (o1 o2 o3 o4 : Obj) : Below w.heap.size w ((((w.alloc o1).alloc o2).alloc o3).alloc o4) := (below_n3 w o1 o2 o3).alloc (by simp; omega) o4

theorem below_put3 {B : Nat} {a w : World} (h : Below B a w) {k : Nat} (hk : B ≤ k) (x y z : Value) : Below B a (((w.setCell ⟨k, 0, none⟩ x).setCell ⟨k, 1, none⟩ y).setCell ⟨k, 2, none⟩ z) :=
  ((h.setCell hk x).setCell hk y).setCell hk z

theorem below_c1 {w w1 : World} {o1 : Obj} (hb : Below (w.alloc o1).heap.size (w.alloc o1) w1) : Below w.heap.size w w1 := (below_n1 w o1).trans (hb.mono (by simp))

theorem below_c2 {w w1 : World} {o1 o2 : Obj} (hb : Below ((w.alloc o1).alloc o2).heap.size ((w.alloc o1).alloc o2) w1) : Below w.heap.size w w1 := (below_n2 w o1 o2).trans (hb.mono (by simp; omega))

theorem below_c3 {w w1 : World} {o1 o2 o3 : Obj} (hb : Below (((w.alloc o1).alloc o2).alloc o3).heap.size (((w.alloc o1).alloc o2).alloc o3) w1) : Below w.heap.size w w1 := (below_n3 w o1 o2 o3).trans (hb.mono (by simp; omega))

theorem below_c4 {w w1 : World} {o1 o2 o3 o4 : Obj} (hb : Below ((((w.alloc o1).alloc o2).alloc o3).alloc o4).heap.size ((((w.alloc o1).alloc o2).alloc o3).alloc o4) w1) : Below w.heap.size w w1 := (below_n4 w o1 o2 o3 o4).trans (hb.mono (by simp; omega))

theorem below_d1 {w w1 : World} {o1 : Obj} (hb : Below (w.alloc o1).drew.heap.size (w.alloc o1).drew w1) : Below w.heap.size w w1 := below_c1 ⟨hb.os, hb.tape, hb.output, hb.size, hb.block⟩

theorem below_d2 {w w1 : World} {o1 o2 : Obj} (hb : Below ((w.alloc o1).alloc o2).drew.heap.size ((w.alloc o1).alloc o2).drew w1) : Below w.heap.size w w1 := below_c2 ⟨hb.os, hb.tape, hb.output, hb.size, hb.block⟩

theorem below_d3 {w w1 : World} {o1 o2 o3 : Obj} (hb : Below (((w.alloc o1).alloc o2).alloc o3).drew.heap.size (((w.alloc o1).alloc o2).alloc o3).drew w1) : Below w.heap.size w w1 := below_c3 ⟨hb.os, hb.tape, hb.output, hb.size, hb.block⟩

theorem below_d4 {w w1 : World} {o1 o2 o3 o4 : Obj} (hb : Below ((((w.alloc o1).alloc o2).alloc o3).alloc o4).drew.heap.size ((((w.alloc o1).alloc o2).alloc o3).alloc o4).drew w1) : Below w.heap.size w w1 := below_c4 ⟨hb.os, hb.tape, hb.output, hb.size, hb.block⟩

end Go.Proofs.YtndpidmbfdpiaaaDoor.Ve
