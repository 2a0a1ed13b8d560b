/- The walk of ReelBack, whatever came in. -/
import Derived.Test.YtgabpmoibmhigaaReelBackW
import Derived.Test.YtgabpmoibmhigaaReelBackZ
namespace Go.Proofs.Ytgabpmoibmhigaa.reelBackW
open Go.ChangeShapes Go.WideShapes Go.RowKit Go.Deep Go.Proofs.Ytgabpmoibmhigaa Go.Proofs.Ytgabpmoibmhigaa.Re Go.Proofs.Ytgabpmoibmhigaa.Rp
set_option linter.unusedVariables false

theorem none_cap {H : Type} {enc : TypeId × Value → H} {W : World} {base : Nat} {held : Bool} {len cap : Nat} {d : DataW H} {p : List MemPlace}
    (h : DataW.Trod enc Try.prog W base (fun _ => true) held 22 (.slice none len cap) d p) : len = 0 ∧ cap = 0 := by
  obtain ⟨fuel, hf⟩ := h
  rcases open_slice Try.underlying22 hf with ⟨hcs, _⟩ | ⟨x, l, c, m, n, D, Pl, hcs, _⟩
  · simp [Value.cells] at hcs
    exact hcs
  · simp [Value.cells] at hcs

theorem walk (a0 : Option Addr) (len0 cap0 : Nat) (L : Nat → It) (w : World) (hn : a0 = none → len0 = 0 ∧ cap0 = 0) (hI : Items w a0 L len0) (hl : len0 ≤ 140737488355328) :
    Calls Try.prog 5 #[.slice a0 len0 cap0] w fun e w' => e = .returned (.bool true) ∧ Below w.heap.size w w' := by
  cases a0 with
  | none =>
    obtain ⟨rfl, rfl⟩ := hn rfl
    exact reelBackZ.walk_none w
  | some ad =>
    by_cases h0 : len0 = 0
    · subst h0
      exact reelBackZ.walk_some ad cap0 w
    · rcases hI with h | ⟨b, off, h, hb, hk⟩
      · exact absurd h h0
      · cases h
        exact walk_some b off cap0 len0 L w hb hk hl
end Go.Proofs.Ytgabpmoibmhigaa.reelBackW
