/- Whole rows, loaded: among operations whose order is drawn, and where numbers lie one behind the other. No program in sight. -/
import Derived.Laws.Rows
import Derived.Deep.MidRow
import Derived.Deep.RegionHeld3
namespace Go.Proofs.YtndpidmbfdpiaaaDoor.Lr
open Go
set_option linter.unusedVariables false

section
variable {P : Program}
theorem yieldsIf_load_row {ops : Array Oper} {S : World → Prop} {op : Oper} {a : Act} (hw : Region.wanted op (yielded ops a.tmps) = true) (ty : TypeId) (x : Operand) (ho : op.op = .load ty x)
    (b : Nat) (hx : a.eval x = .pointer (some ⟨b, 0, none⟩)) (t : TypeId) (cs : Array Value) (d : TypeDesc) (hS : ∀ w, S w → w.heap[b]? = some (.cells cs t (0, 0)))
    (hu : P.underlying ty = some d) (hd : (match d with | .struct _ | .array _ _ => true | _ => false) = true) (hi : (P.info? ty).map (·.size) = some cs.size) : YieldsIf P ops S op (.agg cs) a :=
  .inl ⟨hw, fun w hw' => by
    unfold execOp
    simp only [ho, hx, Instr.loadAt, Instr.sureAddr, Sem.run_bind, Sem.run_pure, Result.andThen_ok, run_loadVar_row w b t ty cs (0, 0) d (hS w hw') hu hd hi]⟩
end

theorem range_nums {w : World} {b o n : Nat} {L : Nat → Int} (h : ∀ j, j < n → w.cell? ⟨b, o + j, none⟩ = some (.int .i64 (L j))) : w.rangeAt b o ((List.range n).map fun j => .int .i64 (L j)) := by
  intro j v hv
  by_cases hj : j < n
  · simp [hj] at hv
    rw [h j hj, ← hv]
  · rw [List.getElem?_eq_none (by simp; omega)] at hv; cases hv

theorem range_row {w : World} {b : Nat} {t : TypeId} {cs : List Value} (h : w.heap[b]? = some (.cells cs.toArray t (0, 0))) : w.rangeAt b 0 cs := by
  intro j v hv
  rw [Nat.zero_add, cell_of_row _ _ j _ _ _ h]
  simpa using hv
end Go.Proofs.YtndpidmbfdpiaaaDoor.Lr
