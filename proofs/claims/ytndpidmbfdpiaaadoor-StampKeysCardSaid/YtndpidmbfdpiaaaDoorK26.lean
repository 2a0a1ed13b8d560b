/- Layer 25, the document's: whether a number is in a list, whether a step may be done, the order. -/
import Derived.Test.YtndpidmbfdpiaaaDoorK23
import Derived.Test.YtndpidmbfdpiaaaDoorK19
namespace Go.Proofs.YtndpidmbfdpiaaaDoor.Pn
open Go Go.RowKit Go.Proofs.YtndpidmbfdpiaaaDoor Go.Proofs.YtndpidmbfdpiaaaDoor.Au Go.Proofs.YtndpidmbfdpiaaaDoor.Re
set_option linter.unusedVariables false
set_option linter.unusedSimpArgs false

theorem Ro.len {w : World} {a : Option Addr} {n c : Nat} {l : List Int} (h : Ro w (.slice a n c) l) : n = l.length ∧ n ≤ 9223372036854775807 := by
  obtain ⟨_, _, _, hv, hn, hm, _⟩ := h
  cases hv
  exact ⟨hn, hm.1⟩
theorem Ro.cap {w : World} {a : Option Addr} {n c : Nat} {l : List Int} (h : Ro w (.slice a n c) l) : n ≤ c := by
  obtain ⟨_, _, _, hv, hn, hm, _⟩ := h
  cases hv
  exact hm.2
theorem Ro.at {w : World} {a : Option Addr} {n c : Nat} {l : List Int} (h : Ro w (.slice a n c) l) {j : Nat} (hj : j < n) : ∃ b off, a = some ⟨b, off, none⟩ ∧ w.cell? ⟨b, off + j, none⟩ = some (.int .i64 (l.getD j 0)) := by
  obtain ⟨_, _, _, hv, hn, hm, h⟩ := h
  cases hv
  rcases h with h | ⟨b, off, ha, _, hc⟩
  · omega
  · exact ⟨b, off, ha, hc j hj⟩
theorem Ro.form {w : World} {v : Value} {l : List Int} (h : Ro w v l) : ∃ a c, v = .slice a l.length c := by
  obtain ⟨a, n, c, hv, hn, _⟩ := h
  exact ⟨a, c, by rw [hv, hn]⟩
theorem has_take {l : List Int} {k : Nat} {m : Int} (h : k < l.length) : has (l.take (k + 1)) m = (has (l.take k) m || l.getD k 0 == m) := by
  have e : l.take (k + 1) = l.take k ++ [l.getD k 0] := by
    rw [List.take_succ_eq_append_getElem h]
    simp [List.getD, h]
  rw [e, has_append]
theorem all_take {l : List Int} {k : Nat} {p : Int → Bool} (h : k < l.length) : (l.take (k + 1)).all p = ((l.take k).all p && p (l.getD k 0)) := by
  have e : l.take (k + 1) = l.take k ++ [l.getD k 0] := by
    rw [List.take_succ_eq_append_getElem h]
    simp [List.getD, h]
  rw [e, List.all_append]
  simp

end Go.Proofs.YtndpidmbfdpiaaaDoor.Pn
