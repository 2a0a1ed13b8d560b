/- Layer 7: a reader that is made, without what its laws ask beside. -/
import Derived.Test.YtgkfoiekminfmaaRen
namespace Go.Proofs.Ytgkfoiekminfmaa.Re
open Go.RowKit Go.Proofs.Ytgkfoiekminfmaa Go.Proofs.Ytgkfoiekminfmaa.Rp
set_option linter.unusedVariables false

theorem own_form3 {base : Nat} {w : World} {v : Value} {n : Nat} {xs : List Value} (h : w.ownsRow base 5 1 v n xs) : ∃ a m c, v = .slice a m c := by
  obtain ⟨a, c, hv⟩ := own_form h
  exact ⟨a, n, c, hv⟩

/-- a new reader in block gr, its bytes in a row of their own, both from block D on and ahead of block E -/
def RR (D E gr : Nat) (l : List UInt8) (w : World) : Prop :=
  D ≤ gr ∧ gr < E ∧ E ≤ w.heap.size ∧ (∀ j, w.frozen? ⟨gr, j, none⟩ = false) ∧ w.cell? ⟨gr, 1, none⟩ = some (.int .i64 0) ∧
    ∃ v, w.cell? ⟨gr, 0, none⟩ = some v ∧ w.ownsRow D 5 1 v l.length (vals l) ∧ ∀ q, v.ownBlock = some q → q ≠ gr ∧ q < E
theorem RR.on {D E gr : Nat} {l : List UInt8} {w w' : World} (h : RR D E gr l w) (hb : Below w.heap.size w w') : RR D E gr l w' := by
  obtain ⟨h1, h2, h3, h4, h5, v, h6, h7, h8⟩ := h
  have hg : gr < w.heap.size := by omega
  exact ⟨h1, h2, Nat.le_trans h3 hb.size, fun j => (hb.frozen (p := ⟨gr, j, none⟩) hg).trans (h4 j), (hb.cell (p := ⟨gr, 1, none⟩) hg).trans h5, v, (hb.cell (p := ⟨gr, 0, none⟩) hg).trans h6, own_heap h7 fun q hq => hb.block q (h7.lt q hq).2, h8⟩

theorem RR.rat {D E gr : Nat} {l : List UInt8} {w : World} (h : RR D E gr l w) : RAt gr E (l, 0) w := by
  obtain ⟨h1, h2, h3, h4, h5, v, h6, h7, h8⟩ := h
  refine ⟨h2, h3, h4, h5, v, h6, ?_⟩
  have h7' := h7
  rcases h7.2 with ⟨rfl, h0⟩ | ⟨q, cap, cur, rfl, k1, k2, k3, k4, k5, k6⟩
  · exact .inl ⟨rfl, List.eq_nil_of_length_eq_zero h0⟩
  · have hq := h8 q rfl
    refine .inr ⟨q, 0, cap, rfl, k3, hq.1, hq.2, fun j u hu => ?_⟩
    have hj : j < l.length := by have := (List.getElem?_eq_some_iff.1 hu).1; rwa [vals_length] at this
    rw [Nat.zero_add, h7'.cellAt j (by omega)]; exact hu

theorem read_any (l : List UInt8) (v : Value) (w : World) (hb : Bs w v l) (hsz : l.length ≤ 140737488355328) :
    Calls Try.prog 40 #[v] w fun e w' => (∃ gr, e = .returned (.pointer (some ⟨gr, 0, none⟩)) ∧ Hid (RR w.heap.size w'.heap.size gr l w')) ∧ Below w.heap.size w w' := by
  go_enter Try.func40, Try.ntmps40
  go_wp2_with fail
  refine (clone_any l v _ hb hsz).mono ?_
  rintro e w1 ⟨⟨v', rfl, ho⟩, hb1⟩
  obtain ⟨a9, n9, c9, hv9⟩ := own_form3 ho
  subst hv9
  have hs1 := hb1.size
  have HR := Lib.hid (show RR w.heap.size (w1.heap.size + 1) w1.heap.size l (w1.alloc (.cells #[.slice a9 n9 c9, .int .i64 0] 114)) from
    ⟨hs1, by omega, by simp, fun j => by go_simp, by go_simp, _, by go_simp, own_heap ho fun q hq => Below.heap_alloc _ _ _ (ho.lt q hq).2, fun q hq => by have := (ho.lt q hq).2; omega⟩)
  have hfin : Below w.heap.size w (w1.alloc (.cells #[.slice a9 n9 c9, .int .i64 0] 114)) := hb1.alloc hs1 _
  clear ho
  go_wp2
  go_ret
  exact ⟨⟨_, rfl, by simpa using HR⟩, hfin⟩

end Go.Proofs.Ytgkfoiekminfmaa.Re
