/- Layer 7: a value of the statements: what it is, how it lies in memory, and what it is laid as. -/
import Derived.Test.YtndpidmbfdpiaaaDoorRed
namespace Go.Proofs.YtndpidmbfdpiaaaDoor.Re
open Go.RowKit Go.Proofs.YtndpidmbfdpiaaaDoor Go.Proofs.YtndpidmbfdpiaaaDoor.Rp

/-- a value: its kind, its number, its point, its sum, its bytes and where they lie, how many at most -/
structure It where
  kind : Int
  n : Int
  v0 : Int
  v1 : Int
  v2 : Int
  d : List UInt8
  a : Option Addr
  plen : Nat
  pcap : Nat
  p : List UInt8
  most : Int

/-- its cells -/
def It.cells (x : It) : List Value := .int .i64 x.kind :: .int .i64 x.n :: .int .i64 x.v0 :: .int .i64 x.v1 :: .int .i64 x.v2 :: (vals x.d ++ [.slice x.a x.plen x.pcap, .int .i64 x.most])

def ItOk (x : It) : Prop := x.d.length = 32 ∧ (x.p.length ≤ 3000 → x.plen ≤ 3000) ∧ (-9223372036854775808 ≤ x.n ∧ x.n ≤ 9223372036854775807) ∧ (-9223372036854775808 ≤ x.most ∧ x.most ≤ 9223372036854775807)

theorem It.cells_length {x : It} (h : ItOk x) : x.cells.length = 39 := by simp [It.cells, vals_length, h.1]

theorem It.cell_d {x : It} (h : ItOk x) (j : Nat) (hj : j < 32) : x.cells[5 + j]? = (vals x.d)[j]? := by
  unfold It.cells
  rw [show 5 + j = j + 1 + 1 + 1 + 1 + 1 by omega]
  simp only [List.getElem?_cons_succ]
  rw [List.getElem?_append_left (by rw [vals_length, h.1]; exact hj)]
theorem It.cell_p {x : It} (h : ItOk x) : x.cells[37]? = some (.slice x.a x.plen x.pcap) := by
  unfold It.cells
  simp only [List.getElem?_cons_succ]
  rw [List.getElem?_append_right (by rw [vals_length, h.1]; omega), vals_length, h.1]
  rfl
theorem It.cell_m {x : It} (h : ItOk x) : x.cells[38]? = some (.int .i64 x.most) := by
  unfold It.cells
  simp only [List.getElem?_cons_succ]
  rw [List.getElem?_append_right (by rw [vals_length, h.1]; omega), vals_length, h.1]
  rfl

/-- what a walk asks of a value in a block of its own -/
theorem box_facts {w : World} {b : Nat} {t : TypeId} {fr : Nat × Nat} {x : It} (hx : ItOk x) (hb : w.heap[b]? = some (.cells x.cells.toArray t fr)) :
    (w.cell? ⟨b, 0, none⟩ = some (.int .i64 x.kind) ∧ w.cell? ⟨b, 1, none⟩ = some (.int .i64 x.n) ∧ w.cell? ⟨b, 2, none⟩ = some (.int .i64 x.v0) ∧ w.cell? ⟨b, 3, none⟩ = some (.int .i64 x.v1) ∧ w.cell? ⟨b, 4, none⟩ = some (.int .i64 x.v2) ∧
      w.cell? ⟨b, 37, none⟩ = some (.slice x.a x.plen x.pcap) ∧ w.cell? ⟨b, 38, none⟩ = some (.int .i64 x.most)) ∧ w.rangeAt b 5 (vals x.d) := by
  have hc : ∀ j, w.cell? ⟨b, j, none⟩ = x.cells[j]? := fun j => by rw [cell_of_row w b j _ t fr hb]; simp
  refine ⟨⟨by rw [hc]; rfl, by rw [hc]; rfl, by rw [hc]; rfl, by rw [hc]; rfl, by rw [hc]; rfl, by rw [hc]; exact It.cell_p hx, by rw [hc]; exact It.cell_m hx⟩, fun j v hv => ?_⟩
  have hj : j < 32 := by have := (List.getElem?_eq_some_iff.1 hv).1; rw [vals_length, hx.1] at this; exact this
  rw [hc, It.cell_d hx j hj]; exact hv

/-- what a value is laid as, by the document -/
def enc (x : It) : List UInt8 :=
  if x.kind = 0 then bytesOf (u64 x.n) 1 else if x.kind = 1 then bytesOf (u64 x.n) 2 else if x.kind = 2 then bytesOf (u64 x.n) 4 else if x.kind = 3 then bytesOf (u64 x.n) 8 else
  if x.kind = 4 then bytesOf (u64 x.n) 5 else if x.kind = 5 then numsOf 5 [x.v0, x.v1, x.v2] else if x.kind = 6 then numsOf 5 [x.v0, x.v1, x.v2] else if x.kind = 7 then x.d else
  if x.kind = 8 then bytesOf x.p.length 4 ++ x.p else []
theorem enc_length {x : It} (hx : ItOk x) (hp : x.p.length ≤ 3000) : (enc x).length ≤ 3004 := by
  unfold enc
  repeat' split
  all_goals simp [bytesOf_length, numsOf_length, hx.1]
  omega
end Go.Proofs.YtndpidmbfdpiaaaDoor.Re
