/- What the walks over points share: a point as a value; worlds behind new blocks; a quiet call inside a region. -/
import Derived.Test.YtndpidmbfdpiaaaDoorK06
import Derived.StillTailTactics
import Derived.Deep.RegionHeld3
import Derived.Deep.DeepFit
import Derived.ChangeKeysEq
import Derived.OwnWalk
namespace Go.Proofs.YtndpidmbfdpiaaaDoor.Ve
open Go.RowKit Go.Proofs.YtndpidmbfdpiaaaDoor Go.Proofs.YtndpidmbfdpiaaaDoor.Wa

/-- a point as a value -/
abbrev V3 (x y z : Int) : Value := .agg #[.int .i64 x, .int .i64 y, .int .i64 z]

theorem below3 (w : World) (o1 o2 o3 : Obj) : Below w.heap.size w (((w.alloc o1).alloc o2).alloc o3).drew :=
  ((((Below.refl _ _).alloc (Nat.le_refl _) o1).alloc (by simp) o2).alloc (by simp; omega) o3).drew

theorem bcell {W w1 : World} (hb : Below W.heap.size W w1) : (∀ b o, b < W.heap.size → w1.cell? ⟨b, o, none⟩ = W.cell? ⟨b, o, none⟩) ∧ (∀ b o, b < W.heap.size → w1.frozen? ⟨b, o, none⟩ = W.frozen? ⟨b, o, none⟩) :=
  ⟨fun b o h => hb.cell (p := ⟨b, o, none⟩) h, fun b o h => hb.frozen (p := ⟨b, o, none⟩) h⟩

theorem cells2 (w : World) (a b c d e f : Value) (t : TypeId) (o : Obj) :
    (((w.alloc (.cells #[a, b, c] t)).alloc (.cells #[d, e, f] t)).alloc o).drew.cell? ⟨w.heap.size, 0, none⟩ = some a ∧ (((w.alloc (.cells #[a, b, c] t)).alloc (.cells #[d, e, f] t)).alloc o).drew.cell? ⟨w.heap.size, 1, none⟩ = some b ∧ (((w.alloc (.cells #[a, b, c] t)).alloc (.cells #[d, e, f] t)).alloc o).drew.cell? ⟨w.heap.size, 2, none⟩ = some c ∧
    (((w.alloc (.cells #[a, b, c] t)).alloc (.cells #[d, e, f] t)).alloc o).drew.cell? ⟨w.heap.size + 1, 0, none⟩ = some d ∧ (((w.alloc (.cells #[a, b, c] t)).alloc (.cells #[d, e, f] t)).alloc o).drew.cell? ⟨w.heap.size + 1, 1, none⟩ = some e ∧ (((w.alloc (.cells #[a, b, c] t)).alloc (.cells #[d, e, f] t)).alloc o).drew.cell? ⟨w.heap.size + 1, 2, none⟩ = some f := by
  refine ⟨?_, ?_, ?_, ?_, ?_, ?_⟩ <;> go_simp

/-- a region whose last operations stand in one order, what is ahead of them only reads and calls quietly: the world behind the draw under a name of its own -/
theorem still_tail {P : Program} {id : Nat} {Q : Exit → Act → World → Prop} {a : Act} {w : World} {l : List Oper} (n : Nat) (hm : P.follows .mixedOrders = true) (hB : Region.lexTailB .any l.toArray n = true)
    (h : ∀ W : World, Hid (W = w.drew) → wpStill P l.toArray W (fun a' => wpList P l.toArray Q (l.drop n) a' W) (l.take n) a) : (Code.region id l.toArray true).wp P Q a w :=
  wp_region_still_tail n hm hB (h w.drew rfl)

theorem past3 {w : World} {b : Nat} {v : Value} (hb : b < w.heap.size) (hp : w.cell? ⟨b, 0, none⟩ = some v) : ∀ o1 o2 o3, (((w.alloc o1).alloc o2).alloc o3).cell? ⟨b, 0, none⟩ = some v := fun o1 o2 o3 => by
  rw [World.cell?_alloc_past _ _ _ (by simp; omega), World.cell?_alloc_past _ _ _ (by simp; omega), World.cell?_alloc_past _ _ _ hb]; exact hp

theorem flip {P : Program} {f : FuncId} {args : Array Value} {w : World} {v : Value} (h : Calls P f args w fun e w' => e = .returned v ∧ w = w') : Calls P f args w (fun e w'' => e = .returned v ∧ w'' = w) :=
  h.mono fun _ _ ⟨a, b⟩ => ⟨a, b.symm⟩

end Go.Proofs.YtndpidmbfdpiaaaDoor.Ve

/- More of what the walks over points share: worlds behind new blocks and a call that makes memory. -/
namespace Go.Proofs.YtndpidmbfdpiaaaDoor.Ve
open Go.RowKit Go.Proofs.YtndpidmbfdpiaaaDoor Go.Proofs.YtndpidmbfdpiaaaDoor.Wa

theorem below_n1 (w : World) (o1 : Obj) : Below w.heap.size w (w.alloc o1) := (Below.refl _ _).alloc (Nat.le_refl _) o1

theorem below_n2 (w : World) (o1 o2 : Obj) : Below w.heap.size w ((w.alloc o1).alloc o2) := (below_n1 w o1).alloc (by simp) o2

theorem below_n3 (w : World) (o1 o2 o3 : Obj) : Below w.heap.size w (((w.alloc o1).alloc o2).alloc o3) := (below_n2 w o1 o2).alloc (by simp; omega) o3

theorem below_n4 (w : World) (o1 o2 o3 o4 : Obj) : Below w.heap.size w ((((w.alloc o1).alloc o2).alloc o3).alloc o4) := (below_n3 w o1 o2 o3).alloc (by simp; omega) o4

theorem below_put3 {B : Nat} {a w : World} (h : Below B a w) {k : Nat} (hk : B ≤ k) (x y z : Value) : Below B a (((w.setCell ⟨k, 0, none⟩ x).setCell ⟨k, 1, none⟩ y).setCell ⟨k, 2, none⟩ z) :=
  ((h.setCell hk x).setCell hk y).setCell hk z

theorem below_c1 {w w1 : World} {o1 : Obj} (hb : Below (w.alloc o1).heap.size (w.alloc o1) w1) : Below w.heap.size w w1 := (below_n1 w o1).trans (hb.mono (by simp))

theorem below_c2 {w w1 : World} {o1 o2 : Obj} (hb : Below ((w.alloc o1).alloc o2).heap.size ((w.alloc o1).alloc o2) w1) : Below w.heap.size w w1 := (below_n2 w o1 o2).trans (hb.mono (by simp; omega))

theorem below_c3 {w w1 : World} {o1 o2 o3 : Obj} (hb : Below (((w.alloc o1).alloc o2).alloc o3).heap.size (((w.alloc o1).alloc o2).alloc o3) w1) : Below w.heap.size w w1 := (below_n3 w o1 o2 o3).trans (hb.mono (by simp; omega))

theorem below_c4 {w w1 : World} {o1 o2 o3 o4 : Obj} (hb : Below ((((w.alloc o1).alloc o2).alloc o3).alloc o4).heap.size ((((w.alloc o1).alloc o2).alloc o3).alloc o4) w1) : Below w.heap.size w w1 := (below_n4 w o1 o2 o3 o4).trans (hb.mono (by simp; omega))

theorem below_d1 {w w1 : World} {o1 : Obj} (hb : Below (w.alloc o1).drew.heap.size (w.alloc o1).drew w1) : Below w.heap.size w w1 := below_c1 ⟨hb.os, hb.tape, hb.output, hb.size, hb.block⟩

theorem below_d2 {w w1 : World} {o1 o2 : Obj} (hb : Below ((w.alloc o1).alloc o2).drew.heap.size ((w.alloc o1).alloc o2).drew w1) : Below w.heap.size w w1 := below_c2 ⟨hb.os, hb.tape, hb.output, hb.size, hb.block⟩

theorem below_d3 {w w1 : World} {o1 o2 o3 : Obj} (hb : Below (((w.alloc o1).alloc o2).alloc o3).drew.heap.size (((w.alloc o1).alloc o2).alloc o3).drew w1) : Below w.heap.size w w1 := below_c3 ⟨hb.os, hb.tape, hb.output, hb.size, hb.block⟩

theorem below_d4 {w w1 : World} {o1 o2 o3 o4 : Obj} (hb : Below ((((w.alloc o1).alloc o2).alloc o3).alloc o4).drew.heap.size ((((w.alloc o1).alloc o2).alloc o3).alloc o4).drew w1) : Below w.heap.size w w1 := below_c4 ⟨hb.os, hb.tape, hb.output, hb.size, hb.block⟩

end Go.Proofs.YtndpidmbfdpiaaaDoor.Ve

/- The contract of layer 2's each at sums. -/
namespace Go.Proofs.YtndpidmbfdpiaaaDoor.Ve
open Go.RowKit Go.Proofs.YtndpidmbfdpiaaaDoor Go.Proofs.YtndpidmbfdpiaaaDoor.Wa

end Go.Proofs.YtndpidmbfdpiaaaDoor.Ve

/- The contract of layer 2's each at differences. -/
namespace Go.Proofs.YtndpidmbfdpiaaaDoor.Ve
open Go.RowKit Go.Proofs.YtndpidmbfdpiaaaDoor Go.Proofs.YtndpidmbfdpiaaaDoor.Wa

end Go.Proofs.YtndpidmbfdpiaaaDoor.Ve

/- The contract of layer 2's each at products. -/
namespace Go.Proofs.YtndpidmbfdpiaaaDoor.Ve
open Go.RowKit Go.Proofs.YtndpidmbfdpiaaaDoor Go.Proofs.YtndpidmbfdpiaaaDoor.Wa

end Go.Proofs.YtndpidmbfdpiaaaDoor.Ve

/- The contract of layer 2's each at ways between two. -/
namespace Go.Proofs.YtndpidmbfdpiaaaDoor.Ve
open Go.RowKit Go.Proofs.YtndpidmbfdpiaaaDoor Go.Proofs.YtndpidmbfdpiaaaDoor.Wa

end Go.Proofs.YtndpidmbfdpiaaaDoor.Ve

/- The contracts of layer 2's functions on points, number by number. -/
namespace Go.Proofs.YtndpidmbfdpiaaaDoor.Ve
open Go.RowKit Go.Proofs.YtndpidmbfdpiaaaDoor Go.Proofs.YtndpidmbfdpiaaaDoor.Wa

end Go.Proofs.YtndpidmbfdpiaaaDoor.Ve

/- What the laws' walks over points share: the points that came in, behind calls and new variables. -/
namespace Go.Proofs.YtndpidmbfdpiaaaDoor.Ve
open Go.RowKit Go.Proofs.YtndpidmbfdpiaaaDoor Go.Proofs.YtndpidmbfdpiaaaDoor.Wa

theorem old1 {w : World} {k j : Nat} {v : Value} (o1 : Obj) (hk : k < w.heap.size) (h : w.cell? ⟨k, j, none⟩ = some v) : (w.alloc o1).cell? ⟨k, j, none⟩ = some v := by
  rw [World.cell?_alloc_past _ _ _ hk]; exact h

theorem old2 {w : World} {k j : Nat} {v : Value} (o1 o2 : Obj) (hk : k < w.heap.size) (h : w.cell? ⟨k, j, none⟩ = some v) : ((w.alloc o1).alloc o2).cell? ⟨k, j, none⟩ = some v :=
  old1 o2 (by simp; omega) (old1 o1 hk h)

theorem infoInt : (Tryd.prog.info? 2).map (fun i => (i.zero, i.size, i.bytes)) = some (some (.int .i64 0), 1, 8) := by kernel_rfl

theorem cellsInt : Tryd.prog.cellsOf 2 = 1 := by kernel_rfl

theorem held_on {W w9 : World} {p : Addr} {v : Value} (hbn : Below W.heap.size W w9) (h : W.cell? p = some v) : w9.cell? p = some v :=
  (hbn.cell (World.block_lt_of_cell? _ _ h)).trans h

end Go.Proofs.YtndpidmbfdpiaaaDoor.Ve
