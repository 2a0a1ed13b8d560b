/- What the contracts written by program share: rows of cells, kept whole. -/
import Derived.Test.YtndpidmbfdpiaaaDoorK07
import Derived.Deep.MidRow
import Derived.Laws.CopyOwn
import Derived.Deep.DeepCutAuto
import Derived.Deep.RegionHeld3
import Derived.Deep.WholeRow
import Derived.StillTailTactics
namespace Go.Proofs.YtndpidmbfdpiaaaDoor.Au
open Go.RowKit Go.Proofs.YtndpidmbfdpiaaaDoor Go.Proofs.YtndpidmbfdpiaaaDoor.Wa Go.Proofs.YtndpidmbfdpiaaaDoor.Ve

section
variable {P : Program}
theorem step_store_row {ops : Array Oper} {o : Oper} {a : Act} {w : World} {K : Act → World → Prop} {Q : Exit → Act → World → Prop} {E : Prop} (hgd : o.guard = none) (ty : TypeId) (x y : Operand) (ho : o.op = .store ty x y)
    (c c' : Array Value) (b : Nat) (t : TypeId) (hb : w.heap[b]? = some (.cells c t (0, 0))) (hx : a.eval x = .pointer (some ⟨b, 0, none⟩)) (hy : a.eval y = .agg c')
    (hi : (P.info? ty).map (·.size) = some c'.size) (hc : c.size = c'.size) (h1 : c'.all (·.oneCell') = true)
    (h : K (a.put o.dst undef) (w.setRow b c')) : if Region.wanted o (yielded ops a.tmps) = true then Oper.wp P o a w K Q else E := by
  have hw : Region.wanted o (yielded ops a.tmps) = true := by simp [Region.wanted, hgd]
  rw [if_pos hw]
  have hs : (Instr.storeAt ty (.pointer (some ⟨b, 0, none⟩)) (.agg c')).run P w = .ok () (w.setRow b c') := by
    simp only [Instr.storeAt, Instr.sureAddr, Sem.run_bind, Sem.run_pure, Result.andThen]
    exact run_storeVar_row w b t ty c c' hb hi hc h1
  unfold Oper.wp execOp
  simp only [ho, hx, hy, hs, Sem.run_bind, Sem.run_pure, Result.andThen_ok]
  exact h
end

theorem lt_heap {w : World} {k : Nat} {x : Obj} (h : w.heap[k]? = some x) : k < w.heap.size := by
  rcases Nat.lt_or_ge k w.heap.size with h' | h'
  · exact h'
  · rw [Array.getElem?_eq_none h'] at h; cases h

section
variable {P : Program}
/-- a whole row of cells into a block that is known whole -/
theorem wpList_store_row {ops : Array Oper} {rest : List Oper} {op : Oper} {a : Act} {Q : Exit → Act → World → Prop} (hgd : op.guard = none) (ty : TypeId) (x y : Operand) (ho : op.op = .store ty x y)
    (w : World) (c c' : Array Value) (b : Nat) (t : TypeId) (hb : w.heap[b]? = some (.cells c t (0, 0))) (hx : a.eval x = .pointer (some ⟨b, 0, none⟩)) (hy : a.eval y = .agg c')
    (hi : (P.info? ty).map (·.size) = some c'.size) (hc : c.size = c'.size) (h1 : c'.all (·.oneCell') = true)
    (h : wpList P ops Q rest (a.put op.dst undef) (w.setRow b c')) : wpList P ops Q (op :: rest) a w := by
  refine wpList_plain hgd fun _ hK => ?_
  have hs : (Instr.storeAt ty (.pointer (some ⟨b, 0, none⟩)) (.agg c')).run P w = .ok () (w.setRow b c') := by
    simp only [Instr.storeAt, Instr.sureAddr, Sem.run_bind, Sem.run_pure, Result.andThen]
    exact run_storeVar_row w b t ty c c' hb hi hc h1
  unfold Oper.wp execOp
  simp only [ho, hx, hy, hs, Sem.run_bind, Sem.run_pure, Result.andThen_ok]
  exact hK _ _ h
end

theorem part3 {w : World} {b o : Nat} {cs cs' : Array Value} {t : TypeId} (h : w.heap[b]? = some (.cells cs t (0, 0))) (x y z : Value) (he : ((cs.setIfInBounds o x).setIfInBounds (o + 1) y).setIfInBounds (o + 2) z = cs') :
    (((w.setCell ⟨b, o, none⟩ x).setCell ⟨b, o + 1, none⟩ y).setCell ⟨b, o + 2, none⟩ z).heap[b]? = some (.cells cs' t (0, 0)) := by
  rw [← he]
  exact heap_setCell_same _ _ _ _ _ _ (heap_setCell_same _ _ _ _ _ _ (heap_setCell_same _ _ _ _ _ _ h))

theorem put3_other {w : World} {b o k : Nat} (p q : Nat) (x y z : Value) (hk : k ≠ b) :
    (((w.setCell ⟨b, o, none⟩ x).setCell ⟨b, p, none⟩ y).setCell ⟨b, q, none⟩ z).heap[k]? = w.heap[k]? := by
  rw [Below.heap_setCell _ _ _ _ hk, Below.heap_setCell _ _ _ _ hk, Below.heap_setCell _ _ _ _ hk]

theorem below_put3o {B : Nat} {a w : World} (h : Below B a w) {k : Nat} (o : Nat) (hk : B ≤ k) (x y z : Value) : Below B a (((w.setCell ⟨k, o, none⟩ x).setCell ⟨k, o + 1, none⟩ y).setCell ⟨k, o + 2, none⟩ z) :=
  ((h.setCell hk x).setCell hk y).setCell hk z

/-- a slice of things of so many numbers each: none, or a part of a row whose cells are known -/
def RowU (c : Nat) (w : World) (v : Value) (n : Nat) (L : Nat → Int) : Prop :=
  (v = .slice none 0 0 ∧ n = 0) ∨ ∃ g o cap, v = .slice (some ⟨g, o, none⟩) n cap ∧ g < w.heap.size ∧ ∀ j, j < n * c → w.cell? ⟨g, o + j, none⟩ = some (.int .i64 (L j))

theorem RowU.on {c : Nat} {w w' : World} {v : Value} {n : Nat} {L : Nat → Int} (h : RowU c w v n L) (hb : Below w.heap.size w w') : RowU c w' v n L := by
  rcases h with h | ⟨g, o, cap, hv, hg, hp⟩
  · exact .inl h
  · exact .inr ⟨g, o, cap, hv, Nat.lt_of_lt_of_le hg hb.size, fun j hj => (hb.cell (p := ⟨g, o + j, none⟩) hg).trans (hp j hj)⟩

theorem rows1 (w : World) (o : Obj) : (w.alloc o).heap[w.heap.size]? = some o := heap_alloc_last w o

theorem old {w : World} {k : Nat} {x : Obj} (o : Obj) (h : w.heap[k]? = some x) : (w.alloc o).heap[k]? = some x := by
  have hk : k < w.heap.size := by
    rcases Nat.lt_or_ge k w.heap.size with h' | h'
    · exact h'
    · rw [Array.getElem?_eq_none h'] at h; cases h
  exact ((below_n1 w o).block k hk).trans h

theorem rows2 (w : World) (o p : Obj) : ((w.alloc o).alloc p).heap[w.heap.size]? = some o ∧ ((w.alloc o).alloc p).heap[w.heap.size + 1]? = some p :=
  ⟨old _ (rows1 w o), by have h := rows1 (w.alloc o) p; rwa [show (w.alloc o).heap.size = w.heap.size + 1 by simp] at h⟩

theorem rows3 (w : World) (o p q : Obj) : (((w.alloc o).alloc p).alloc q).heap[w.heap.size]? = some o ∧ (((w.alloc o).alloc p).alloc q).heap[w.heap.size + 1]? = some p ∧ (((w.alloc o).alloc p).alloc q).heap[w.heap.size + 1 + 1]? = some q :=
  ⟨old _ (rows2 w o p).1, old _ (rows2 w o p).2, by have h := rows1 ((w.alloc o).alloc p) q; rwa [show ((w.alloc o).alloc p).heap.size = w.heap.size + 1 + 1 by simp] at h⟩

theorem rows4 (w : World) (o p q r : Obj) : ((((w.alloc o).alloc p).alloc q).alloc r).heap[w.heap.size]? = some o ∧ ((((w.alloc o).alloc p).alloc q).alloc r).heap[w.heap.size + 1]? = some p ∧ ((((w.alloc o).alloc p).alloc q).alloc r).heap[w.heap.size + 1 + 1]? = some q ∧ ((((w.alloc o).alloc p).alloc q).alloc r).heap[w.heap.size + 1 + 1 + 1]? = some r :=
  ⟨old _ (rows3 w o p q).1, old _ (rows3 w o p q).2.1, old _ (rows3 w o p q).2.2, by have h := rows1 (((w.alloc o).alloc p).alloc q) r; rwa [show (((w.alloc o).alloc p).alloc q).heap.size = w.heap.size + 1 + 1 + 1 by simp] at h⟩

end Go.Proofs.YtndpidmbfdpiaaaDoor.Au

/- A result that stands in a block of its own, read as a whole row. -/
namespace Go.Proofs.YtndpidmbfdpiaaaDoor.Au
open Go Go.RowKit

theorem results_row {P : Program} {fn : Func} {tmps : Array Value} {a : Nat} {ty t : TypeId} {b : Nat} {cs : Array Value} {d : TypeDesc} {w : World} (hf : fn.results = #[.cell a ty]) (hp : tmps.getD a undef = .pointer (some ⟨b, 0, none⟩)) (hg : w.heap[b]? = some (.cells cs t (0, 0)))
    (hu : P.underlying ty = some d) (hd : (match d with | .struct _ | .array _ _ => true | _ => false) = true) (hi : (P.info? ty).map (·.size) = some cs.size) : (results fn tmps).run P w = .ok (.agg cs) w := by
  have hl := run_loadVar_row (P := P) w b t ty cs (0, 0) d hg hu hd hi
  unfold results
  rw [hf]
  simp only [List.mapM_toArray, List.mapM_cons, List.mapM_nil, Sem.run_bind, Sem.run_pure, hp, asAddr, hl, Result.andThen_ok, Sem.run_map, bind_pure_comp, map_pure]
  simp

end Go.Proofs.YtndpidmbfdpiaaaDoor.Au
