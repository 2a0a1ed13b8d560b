/- The contracts of a law's own keys and tracks: what came in, as the program's. -/
import Derived.Test.YtplcbdmiccpnnaaGreatC16
import Derived.Test.YtplcbdmiccpnnaaGreatC15
import Derived.Test.YtplcbdmiccpnnaaGreatC25
import Derived.Deep.AppendLies
namespace Go.Proofs.YtplcbdmiccpnnaaGreat.Tk
open Go.RowKit Go.Proofs.YtplcbdmiccpnnaaGreat Go.Proofs.YtplcbdmiccpnnaaGreat.Wa Go.Proofs.YtplcbdmiccpnnaaGreat.Ve Go.Proofs.YtplcbdmiccpnnaaGreat.Ls

/-- the values of a row's numbers -/
def flat4 (L : Nat → Int) (k : Nat) : List Value := (List.range (k * 4)).map fun j => .int .i64 (L j)

theorem flat4_step (L : Nat → Int) (k : Nat) : flat4 L (k + 1) = flat4 L k ++ [.int .i64 (L (k * 4)), .int .i64 (L (k * 4 + 1)), .int .i64 (L (k * 4 + 2)), .int .i64 (L (k * 4 + 3))] := by
  simp [flat4, show (k + 1) * 4 = k * 4 + 1 + 1 + 1 + 1 by omega, List.range_succ]

theorem flat4_at (L : Nat → Int) (k j : Nat) (h : j < k * 4) : (flat4 L k)[j]? = some (.int .i64 (L j)) := by
  simp [flat4, h]

theorem infoKey : (Tryz.prog.info? 137).map (fun i => (i.zero, i.size, i.bytes)) = some (some (.agg #[.int .i64 0, .int .i64 0, .int .i64 0, .int .i64 0]), 4, 32) := by kernel_rfl

theorem own_keys {w : World} {base n : Nat} {e : TypeId} {v : Value} {L : Nat → Int} (hn : n * 32 ≤ 140737488351232) (h : w.ownsRow base e 4 v n (flat4 L n)) : ∃ a cap, v = .slice a n cap ∧ KeysAt w a n L ∧ ∀ p, a = some p → base ≤ p.block := by
  rcases h.2 with ⟨hv, h0⟩ | ⟨g, cap, cur, rfl, -, -, -, -, -, -⟩
  · subst h0; exact ⟨none, 0, hv, ⟨hn, .inl rfl⟩, fun p hp => by cases hp⟩
  · exact ⟨some ⟨g, 0, none⟩, cap, rfl, ⟨hn, .inr ⟨g, 0, rfl, (h.lt g rfl).2, fun j hj => by rw [Nat.zero_add]; exact (h.cellAt j hj).trans (flat4_at L n j hj)⟩⟩, fun p hp => by cases hp; exact (h.lt g rfl).1⟩

theorem KeysAt.set {w : World} {a : Option Addr} {n : Nat} {L : Nat → Int} (h : KeysAt w a n L) {q : Nat} (hq : ∀ p, a = some p → q < p.block) (i : Nat) (v : Value) : KeysAt (w.setCell ⟨q, i, none⟩ v) a n L := by
  obtain ⟨h0, h | ⟨b, off, rfl, hlt, hc⟩⟩ := h
  · exact ⟨h0, .inl h⟩
  · have hne : q < b := hq _ rfl
    exact ⟨h0, .inr ⟨b, off, rfl, by simpa using hlt, fun j hj => by rw [World.cell?_setCell_other _ _ _ _ (by first | (simp; done) | (simp; omega))]; exact hc j hj⟩⟩

end Go.Proofs.YtplcbdmiccpnnaaGreat.Tk
