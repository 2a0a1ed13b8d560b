/- What the walks over points share: a point as a value; worlds behind new blocks; a quiet call inside a region. -/
import Derived.Test.YtndpidmbfdpiaaaDoorWr
import Derived.StillTailTactics
import Derived.Deep.RegionHeld3
import Derived.Deep.DeepFit
namespace Go.Proofs.YtndpidmbfdpiaaaDoor.Ve
open Go.RowKit Go.Proofs.YtndpidmbfdpiaaaDoor Go.Proofs.YtndpidmbfdpiaaaDoor.Wa

/-- a point as a value -/
abbrev V3 (x y z : Int) : Value := .agg #[.int .i64 x, .int .i64 y, .int .i64 z]

theorem below3 (w : World) (o1 o2 o3 : Obj) : Below w.heap.size w (((w.alloc o1).alloc o2).alloc o3).drew :=
  ((((Below.refl _ _).alloc (Nat.le_refl _) o1).alloc (by simp) o2).alloc (by simp; omega) o3).drew

theorem bcell {W w1 : World} (hb : Below W.heap.size W w1) : (∀ b o, b < W.heap.size → w1.cell? ⟨b, o, none⟩ = W.cell? ⟨b, o, none⟩) ∧ (∀ b o, b < W.heap.size → w1.frozen? ⟨b, o, none⟩ = W.frozen? ⟨b, o, none⟩) :=
  ⟨fun b o h => hb.cell (p := ⟨b, o, none⟩) h, fun b o h => hb.frozen (p := ⟨b, o, none⟩) h⟩

theorem cells2 (w : World) (a b c d e f : Value) (t : TypeId) (o : Obj) :
    (((w.alloc (.cells #[a, b, c] t)).alloc (.cells #[d, e, f] t)).alloc o).drew.cell? ⟨w.heap.size, 0, none⟩ = some a ∧ (((w.alloc (.cells #[a, b, c] t)).alloc (.cells #[d, e, f] t)).alloc o).drew.cell? ⟨w.heap.size, 1, none⟩ = some b ∧ (((w.alloc (.cells #[a, b, c] t)).alloc (.cells #[d, e, f] t)).alloc o).drew.cell? ⟨w.heap.size, 2, none⟩ = some c ∧
    (((w.alloc (.cells #[a, b, c] t)).alloc (.cells #[d, e, f] t)).alloc o).drew.cell? ⟨w.heap.size + 1, 0, none⟩ = some d ∧ (((w.alloc (.cells #[a, b, c] t)).alloc (.cells #[d, e, f] t)).alloc o).drew.cell? ⟨w.heap.size + 1, 1, none⟩ = some e ∧ (((w.alloc (.cells #[a, b, c] t)).alloc (.cells #[d, e, f] t)).alloc o).drew.cell? ⟨w.heap.size + 1, 2, none⟩ = some f := by
  refine ⟨?_, ?_, ?_, ?_, ?_, ?_⟩ <;> go_simp

/-- a region whose last operations stand in one order, what is ahead of them only reads and calls quietly: the world behind the draw under a name of its own -/
theorem still_tail {P : Program} {id : Nat} {Q : Exit → Act → World → Prop} {a : Act} {w : World} {l : List Oper} (n : Nat) (hm : P.follows .mixedOrders = true) (hB : Region.lexTailB .any l.toArray n = true)
    (h : ∀ W : World, Hid (W = w.drew) → wpStill P l.toArray W (fun a' => wpList P l.toArray Q (l.drop n) a' W) (l.take n) a) : (Code.region id l.toArray true).wp P Q a w :=
  wp_region_still_tail n hm hB (h w.drew rfl)

theorem past3 {w : World} {b : Nat} {v : Value} (hb : b < w.heap.size) (hp : w.cell? ⟨b, 0, none⟩ = some v) : ∀ o1 o2 o3, (((w.alloc o1).alloc o2).alloc o3).cell? ⟨b, 0, none⟩ = some v := fun o1 o2 o3 => by
  rw [World.cell?_alloc_past _ _ _ (by simp; omega), World.cell?_alloc_past _ _ _ (by simp; omega), World.cell?_alloc_past _ _ _ hb]; exact hp

theorem flip {P : Program} {f : FuncId} {args : Array Value} {w : World} {v : Value} (h : Calls P f args w fun e w' => e = .returned v ∧ w = w') : Calls P f args w (fun e w'' => e = .returned v ∧ w'' = w) :=
  h.mono fun _ _ ⟨a, b⟩ => ⟨a, b.symm⟩

end Go.Proofs.YtndpidmbfdpiaaaDoor.Ve
