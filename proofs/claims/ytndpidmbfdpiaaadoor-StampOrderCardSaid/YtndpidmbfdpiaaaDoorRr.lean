/- A result that stands in a block of its own, read as a whole row. -/
import Derived.Test.YtndpidmbfdpiaaaDoorAu
namespace Go.Proofs.YtndpidmbfdpiaaaDoor.Au
open Go Go.RowKit

theorem results_row {P : Program} {fn : Func} {tmps : Array Value} {a : Nat} {ty t : TypeId} {b : Nat} {cs : Array Value} {d : TypeDesc} {w : World} (hf : fn.results = #[.cell a ty]) (hp : tmps.getD a undef = .pointer (some ⟨b, 0, none⟩)) (hg : w.heap[b]? = some (.cells cs t (0, 0)))
    (hu : P.underlying ty = some d) (hd : (match d with | .struct _ | .array _ _ => true | _ => false) = true) (hi : (P.info? ty).map (·.size) = some cs.size) : (results fn tmps).run P w = .ok (.agg cs) w := by
  have hl := run_loadVar_row (P := P) w b t ty cs (0, 0) d hg hu hd hi
  unfold results
  rw [hf]
  simp only [List.mapM_toArray, List.mapM_cons, List.mapM_nil, Sem.run_bind, Sem.run_pure, hp, asAddr, hl, Result.andThen_ok, Sem.run_map, bind_pure_comp, map_pure]
  simp

end Go.Proofs.YtndpidmbfdpiaaaDoor.Au
