/- Layer 7: a question to both readers; a reader that is made; what a walk keeps of it. -/
import Derived.Test.YtgabpmoibmhigaaRmg
import Derived.Test.YtgabpmoibmhigaaRmh
import Derived.Test.YtgabpmoibmhigaaRmi
import Derived.Test.YtgabpmoibmhigaaRmj
import Derived.Test.YtgabpmoibmhigaaRlf
namespace Go.Proofs.Ytgabpmoibmhigaa.Re
open Go.RowKit Go.Proofs.Ytgabpmoibmhigaa Go.Proofs.Ytgabpmoibmhigaa.Rp
set_option linter.unusedVariables false

theorem reads_any (p : Value) (gr B g N : Nat) (a : Option Addr) (n c : Nat) (lb : List UInt8) (s : St) (w0 w : World) (x : It) (hx : ItOk x) (h : Two p gr B g N a n c lb s s w0 w) :
    Calls Try.prog 15 #[p, .pointer (some ⟨g, 0, none⟩), .agg x.cells.toArray] w fun e w' => e = .returned (.bool true) ∧ ∃ t, Two p gr B g N a n c lb t t w0 w' := by
  by_cases hk : x.kind < 0 ∨ 10 < x.kind
  · exact reads_other p gr B g N a n c lb s w0 w x hx hk h
  · have hc : x.kind = 0 ∨ x.kind = 1 ∨ x.kind = 2 ∨ x.kind = 3 ∨ x.kind = 4 ∨ x.kind = 5 ∨ x.kind = 6 ∨ x.kind = 7 ∨ x.kind = 8 ∨ x.kind = 9 ∨ x.kind = 10 := by omega
    rcases hc with hk | hk | hk | hk | hk | hk | hk | hk | hk | hk | hk
    · exact reads_0 p gr B g N a n c lb s w0 w x hx hk h
    · exact reads_1 p gr B g N a n c lb s w0 w x hx hk h
    · exact reads_2 p gr B g N a n c lb s w0 w x hx hk h
    · exact reads_3 p gr B g N a n c lb s w0 w x hx hk h
    · exact reads_4 p gr B g N a n c lb s w0 w x hx hk h
    · exact reads_5 p gr B g N a n c lb s w0 w x hx hk h
    · exact reads_6 p gr B g N a n c lb s w0 w x hx hk h
    · exact reads_7 p gr B g N a n c lb s w0 w x hx hk h
    · exact reads_8 p gr B g N a n c lb s w0 w x hx hk h
    · exact reads_9 p gr B g N a n c lb s w0 w x hx hk h
    · exact reads_10 p gr B g N a n c lb s w0 w x hx hk h

/-- a new reader in block gr, its bytes in a row of their own, both from block D on and ahead of block E -/
def RR (D E gr : Nat) (l : List UInt8) (w : World) : Prop :=
  D ≤ gr ∧ gr < E ∧ E ≤ w.heap.size ∧ (∀ j, w.frozen? ⟨gr, j, none⟩ = false) ∧ w.cell? ⟨gr, 1, none⟩ = some (.int .i64 0) ∧
    ∃ v, w.cell? ⟨gr, 0, none⟩ = some v ∧ w.ownsRow D 5 1 v l.length (vals l) ∧ ∀ q, v.ownBlock = some q → q ≠ gr ∧ q < E
theorem RR.on {D E gr : Nat} {l : List UInt8} {w w' : World} (h : RR D E gr l w) (hb : Below w.heap.size w w') : RR D E gr l w' := by
  obtain ⟨h1, h2, h3, h4, h5, v, h6, h7, h8⟩ := h
  have hg : gr < w.heap.size := by omega
  exact ⟨h1, h2, Nat.le_trans h3 hb.size, fun j => (hb.frozen (p := ⟨gr, j, none⟩) hg).trans (h4 j), (hb.cell (p := ⟨gr, 1, none⟩) hg).trans h5, v, (hb.cell (p := ⟨gr, 0, none⟩) hg).trans h6, own_heap h7 fun q hq => hb.block q (h7.lt q hq).2, h8⟩
theorem RR.set {D E gr : Nat} {l : List UInt8} {w : World} (h : RR D E gr l w) {q : Nat} (hq : q < D) (j : Nat) (u : Value) : RR D E gr l (w.setCell ⟨q, j, none⟩ u) := by
  obtain ⟨h1, h2, h3, h4, h5, v, h6, h7, h8⟩ := h
  exact ⟨h1, h2, by simpa using h3, fun j => by rw [World.frozen?_setCell]; exact h4 j, by rw [cfar (by omega)]; exact h5, v, by rw [cfar (by omega)]; exact h6, own_setCell_far h7 hq j u, h8⟩
theorem RR.rat {D E gr : Nat} {l : List UInt8} {w : World} (h : RR D E gr l w) : RAt gr E (l, 0) w := by
  obtain ⟨h1, h2, h3, h4, h5, v, h6, h7, h8⟩ := h
  refine ⟨h2, h3, h4, h5, v, h6, ?_⟩
  have h7' := h7
  rcases h7.2 with ⟨rfl, h0⟩ | ⟨q, cap, cur, rfl, k1, k2, k3, k4, k5, k6⟩
  · exact .inl ⟨rfl, List.eq_nil_of_length_eq_zero h0⟩
  · have hq := h8 q rfl
    refine .inr ⟨q, 0, cap, rfl, k3, hq.1, hq.2, fun j u hu => ?_⟩
    have hj : j < l.length := by have := (List.getElem?_eq_some_iff.1 hu).1; rwa [vals_length] at this
    rw [Nat.zero_add, h7'.cellAt j (by omega)]; exact hu

theorem MAt.set {g N : Nat} {a : Option Addr} {n c : Nat} {lb : List UInt8} {s : St} {w : World} (h : MAt g N a n c lb s w) {b : Nat} (hN : N ≤ b) (hb : b ≠ g) (i : Nat) (u : Value) : MAt g N a n c lb s (w.setCell ⟨b, i, none⟩ u) := by
  obtain ⟨h1, h2, h3, h4, h5, h6, h7, h8, p, h9, h10, h11⟩ := h
  exact ⟨h1, by simpa using h2, fun j => by rw [World.frozen?_setCell]; exact h3 j, by rw [cfar (Ne.symm hb)]; exact h4, by rw [cfar (Ne.symm hb)]; exact h5, mset _ h6 (fun ad e he => by have := h8 ad e he; omega), h7, h8, p, h9, h10, by rw [cfar (Ne.symm hb)]; exact h11⟩
theorem MAt.start {N : Nat} {a : Option Addr} {n c : Nat} {lb : List UInt8} (w : World) (hN : N ≤ w.heap.size) (hb : Bs w (.slice a n c) lb) (hn : n ≤ 140737488355328) (hlt : ∀ ad, a = some ad → lb ≠ [] → ad.block < N) :
    MAt w.heap.size N a n c lb (lb, 0) (w.alloc (.cells #[.slice a n c, .int .i64 0, .int .i64 0] 43)) :=
  ⟨hN, by simp, fun j => by go_simp, by go_simp, by go_simp, hb.on (below_n1 _ _), hn, hlt, 0, Nat.zero_le _, by simp, by go_simp⟩

theorem read_any (l : List UInt8) (v : Value) (w : World) (hb : Bs w v l) (hsz : l.length ≤ 140737488355328) :
    Calls Try.prog 14 #[v] w fun e w' => (∃ gr, e = .returned (.pointer (some ⟨gr, 0, none⟩)) ∧ Hid (RR w.heap.size w'.heap.size gr l w')) ∧ Below w.heap.size w w' := by
  go_enter Try.func14, Try.ntmps14
  go_wp2_with fail
  refine (clone_any l v _ hb hsz).mono ?_
  rintro e w1 ⟨⟨v', rfl, ho⟩, hb1⟩
  obtain ⟨a9, n9, c9, hv9⟩ := own_form3 ho
  subst hv9
  have hs1 := hb1.size
  have HR := Lib.hid (show RR w.heap.size (w1.heap.size + 1) w1.heap.size l (w1.alloc (.cells #[.slice a9 n9 c9, .int .i64 0] 86)) from
    ⟨hs1, by omega, by simp, fun j => by go_simp, by go_simp, _, by go_simp, own_heap ho fun q hq => Below.heap_alloc _ _ _ (ho.lt q hq).2, fun q hq => by have := (ho.lt q hq).2; omega⟩)
  have hfin : Below w.heap.size w (w1.alloc (.cells #[.slice a9 n9 c9, .int .i64 0] 86)) := hb1.alloc hs1 _
  clear ho
  go_wp2
  go_ret
  exact ⟨⟨_, rfl, by simpa using HR⟩, hfin⟩
end Go.Proofs.Ytgabpmoibmhigaa.Re
