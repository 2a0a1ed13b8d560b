/- Layer 7: the contracts of a writer's New and put. -/
import Derived.Test.YtndpidmbfdpiaaaDoorK10
import Derived.Laws.AppendOwnNone
namespace Go.Proofs.YtndpidmbfdpiaaaDoor.Re
open Go.RowKit Go.Proofs.YtndpidmbfdpiaaaDoor Go.Proofs.YtndpidmbfdpiaaaDoor.Rp

theorem num_byte (n k : Nat) (x : Int) (hx : x = ((n / 256 ^ k % 256 : Nat) : Int)) (w : World) : ∀ j u, (vals [byteAt n k])[j]? = some u → (w.alloc (.cells #[.int .u8 x] 5)).cell? ((⟨w.heap.size, 0, none⟩ : Addr).add j) = some u := by
  intro j u hu
  match j, hu with
  | 0, hu => simp [vals, byteAt_toNat] at hu; subst hu; subst hx; simp [Addr.add]
  | j + 1, hu => simp [vals] at hu

theorem shr_byte (n k : Nat) : (n : Int) / 2 ^ (8 * k) % 256 = ((n / 256 ^ k % 256 : Nat) : Int) := by
  have e : (2 : Int) ^ (8 * k) = ((256 ^ k : Nat) : Int) := by
    rw [Int.pow_mul]; simp
  rw [e]; simp

end Go.Proofs.YtndpidmbfdpiaaaDoor.Re

/- Layer 7: the contracts of a writer's numbers of one, two, four, eight and five bytes. -/
namespace Go.Proofs.YtndpidmbfdpiaaaDoor.Re
open Go.RowKit Go.Proofs.YtndpidmbfdpiaaaDoor Go.Proofs.YtndpidmbfdpiaaaDoor.Rp

/-- a slice of integers that stays while a writer writes -/
def Ints (S : Nat → Prop) (w : World) (a : Option Addr) (zs : List Int) : Prop :=
  zs = [] ∨ ∃ b off, a = some ⟨b, off, none⟩ ∧ ∀ w', Aw S w w' → ∀ j, j < zs.length → w'.cell? ⟨b, off + j, none⟩ = some (.int .i64 (zs.getD j 0))

theorem Ints.cons {S : Nat → Prop} {w : World} {b : Nat} {cs : Array Value} {t : TypeId} {fr : Nat × Nat} (zs : List Int) (hb : w.heap[b]? = some (.cells cs t fr)) (hS : S b) (hc : ∀ j, j < zs.length → cs[j]? = some (.int .i64 (zs.getD j 0))) : Ints S w (some ⟨b, 0, none⟩) zs :=
  .inr ⟨b, 0, rfl, fun w' ha j hj => by
    rw [Nat.zero_add, cell_of_row w' b j cs t fr ((ha.block b hS (lt_of_heap hb)).trans hb)]; exact hc j hj⟩

theorem Ints.one {S : Nat → Prop} {w : World} (x : Int) (t : TypeId) : Ints (fun k => S k ∨ k = w.heap.size) (w.alloc (.cells #[.int .i64 x] t)) (some ⟨w.heap.size, 0, none⟩) [x] :=
  Ints.cons [x] (heap_alloc_last w _) (.inr rfl) (fun j hj => by
    match j, hj with
    | 0, _ => rfl)

theorem Ints.one2 {S : Nat → Prop} {w : World} (x : Int) (t : TypeId) (b : Nat) (hb : b = w.heap.size) : Ints (fun k => S k ∨ k = b) (w.alloc (.cells #[.int .i64 x] t)) (some ⟨b, 0, none⟩) [x] := by
  subst hb; exact Ints.one x t

theorem WAt.push2 {g : Nat} {S : Nat → Prop} {l : List UInt8} {w : World} (h : WAt g S l w) (o : Obj) (b : Nat) (hb : b = w.heap.size) : WAt g (fun k => S k ∨ k = b) l (w.alloc o) := by
  subst hb; exact h.push o

end Go.Proofs.YtndpidmbfdpiaaaDoor.Re

/- Layer 7: the contracts of a writer's points, lights, sums, blobs, and of its bytes; the document's example. -/
namespace Go.Proofs.YtndpidmbfdpiaaaDoor.Re
open Go.RowKit Go.Proofs.YtndpidmbfdpiaaaDoor Go.Proofs.YtndpidmbfdpiaaaDoor.Rp

abbrev V3 (x y z : Int) : Value := .agg #[.int .i64 x, .int .i64 y, .int .i64 z]

theorem heap_last2 (w : World) (o o2 : Obj) : ((w.alloc o).alloc o2).heap[w.heap.size + 1]? = some o2 := by
  have h := heap_alloc_last (w.alloc o) o2
  simpa using h

theorem three_cells (x y z : Int) : ∀ j, j < [x, y, z].length → (#[.int .i64 x, .int .i64 y, .int .i64 z] : Array Value)[j]? = some (.int .i64 ([x, y, z].getD j 0)) := by
  intro j hj
  match j, hj with
  | 0, _ => rfl
  | 1, _ => rfl
  | 2, _ => rfl

theorem bs_block {w : World} {b : Nat} {t : TypeId} {fr : Nat × Nat} (p : List UInt8) (cap : Nat) (hb : w.heap[b]? = some (.cells (vals p).toArray t fr)) : Bs w (.slice (some ⟨b, 0, none⟩) p.length cap) p :=
  .inr ⟨_, cap, rfl, fun j u hu => by
    rw [Addr.add_mid, Nat.zero_add, cell_of_row w b j _ t fr hb]; simpa using hu⟩

end Go.Proofs.YtndpidmbfdpiaaaDoor.Re

/- Layer 7: the contracts of the library's Clone, of a writer's Bytes; the document's example. -/
namespace Go.Proofs.YtndpidmbfdpiaaaDoor.Re
open Go.RowKit Go.Proofs.YtndpidmbfdpiaaaDoor Go.Proofs.YtndpidmbfdpiaaaDoor.Rp

/-! ### the document's example -/
def example7 : List UInt8 := [2, 1, 255, 255, 255, 255, 255]

theorem example7_is : ([] : List UInt8) ++ numsOf 2 [258] ++ numsOf 5 [-1] = example7 := by decide +kernel

end Go.Proofs.YtndpidmbfdpiaaaDoor.Re

/- Layer 7: a value of the statements: what it is, how it lies in memory, and what it is laid as. -/
namespace Go.Proofs.YtndpidmbfdpiaaaDoor.Re
open Go.RowKit Go.Proofs.YtndpidmbfdpiaaaDoor Go.Proofs.YtndpidmbfdpiaaaDoor.Rp

/-- a value: its kind, its number, its point, its sum, its bytes and where they lie, how many at most -/
structure It where
  kind : Int
  n : Int
  v0 : Int
  v1 : Int
  v2 : Int
  d : List UInt8
  a : Option Addr
  plen : Nat
  pcap : Nat
  p : List UInt8
  most : Int

/-- its cells -/
def It.cells (x : It) : List Value := .int .i64 x.kind :: .int .i64 x.n :: .int .i64 x.v0 :: .int .i64 x.v1 :: .int .i64 x.v2 :: (vals x.d ++ [.slice x.a x.plen x.pcap, .int .i64 x.most])

def ItOk (x : It) : Prop := x.d.length = 32 ∧ (x.p.length ≤ 3000 → x.plen ≤ 3000) ∧ (-9223372036854775808 ≤ x.n ∧ x.n ≤ 9223372036854775807) ∧ (-9223372036854775808 ≤ x.most ∧ x.most ≤ 9223372036854775807)

theorem It.cells_length {x : It} (h : ItOk x) : x.cells.length = 39 := by simp [It.cells, vals_length, h.1]

theorem It.cell_d {x : It} (h : ItOk x) (j : Nat) (hj : j < 32) : x.cells[5 + j]? = (vals x.d)[j]? := by
  unfold It.cells
  rw [show 5 + j = j + 1 + 1 + 1 + 1 + 1 by omega]
  simp only [List.getElem?_cons_succ]
  rw [List.getElem?_append_left (by rw [vals_length, h.1]; exact hj)]
theorem It.cell_p {x : It} (h : ItOk x) : x.cells[37]? = some (.slice x.a x.plen x.pcap) := by
  unfold It.cells
  simp only [List.getElem?_cons_succ]
  rw [List.getElem?_append_right (by rw [vals_length, h.1]; omega), vals_length, h.1]
  rfl
theorem It.cell_m {x : It} (h : ItOk x) : x.cells[38]? = some (.int .i64 x.most) := by
  unfold It.cells
  simp only [List.getElem?_cons_succ]
  rw [List.getElem?_append_right (by rw [vals_length, h.1]; omega), vals_length, h.1]
  rfl

/-- what a walk asks of a value in a block of its own -/
theorem box_facts {w : World} {b : Nat} {t : TypeId} {fr : Nat × Nat} {x : It} (hx : ItOk x) (hb : w.heap[b]? = some (.cells x.cells.toArray t fr)) :
    (w.cell? ⟨b, 0, none⟩ = some (.int .i64 x.kind) ∧ w.cell? ⟨b, 1, none⟩ = some (.int .i64 x.n) ∧ w.cell? ⟨b, 2, none⟩ = some (.int .i64 x.v0) ∧ w.cell? ⟨b, 3, none⟩ = some (.int .i64 x.v1) ∧ w.cell? ⟨b, 4, none⟩ = some (.int .i64 x.v2) ∧
      w.cell? ⟨b, 37, none⟩ = some (.slice x.a x.plen x.pcap) ∧ w.cell? ⟨b, 38, none⟩ = some (.int .i64 x.most)) ∧ w.rangeAt b 5 (vals x.d) := by
  have hc : ∀ j, w.cell? ⟨b, j, none⟩ = x.cells[j]? := fun j => by rw [cell_of_row w b j _ t fr hb]; simp
  refine ⟨⟨by rw [hc]; rfl, by rw [hc]; rfl, by rw [hc]; rfl, by rw [hc]; rfl, by rw [hc]; rfl, by rw [hc]; exact It.cell_p hx, by rw [hc]; exact It.cell_m hx⟩, fun j v hv => ?_⟩
  have hj : j < 32 := by have := (List.getElem?_eq_some_iff.1 hv).1; rw [vals_length, hx.1] at this; exact this
  rw [hc, It.cell_d hx j hj]; exact hv

/-- what a value is laid as, by the document -/
def enc (x : It) : List UInt8 :=
  if x.kind = 0 then bytesOf (u64 x.n) 1 else if x.kind = 1 then bytesOf (u64 x.n) 2 else if x.kind = 2 then bytesOf (u64 x.n) 4 else if x.kind = 3 then bytesOf (u64 x.n) 8 else
  if x.kind = 4 then bytesOf (u64 x.n) 5 else if x.kind = 5 then numsOf 5 [x.v0, x.v1, x.v2] else if x.kind = 6 then numsOf 5 [x.v0, x.v1, x.v2] else if x.kind = 7 then x.d else
  if x.kind = 8 then bytesOf x.p.length 4 ++ x.p else []
theorem enc_length {x : It} (hx : ItOk x) (hp : x.p.length ≤ 3000) : (enc x).length ≤ 3004 := by
  unfold enc
  repeat' split
  all_goals simp [bytesOf_length, numsOf_length, hx.1]
  omega
end Go.Proofs.YtndpidmbfdpiaaaDoor.Re
