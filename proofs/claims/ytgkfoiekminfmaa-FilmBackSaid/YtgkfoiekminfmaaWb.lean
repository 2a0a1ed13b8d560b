/- The contracts of layer 1's quotient, and of the document's own functions that only reckon. -/
import Derived.Test.YtgkfoiekminfmaaWa
namespace Go.Proofs.Ytgkfoiekminfmaa.Wa
open Go.RowKit Go.Proofs.Ytgkfoiekminfmaa

theorem held_any (n : Int) (w : World) : Calls Try.prog 51 #[.int .i64 n] w fun e w' => e = .returned (.int .i64 (Pl.held n)) ∧ w = w' := by
  by_cases h1 : 2147483648 < n
  · go_enter Try.func51, Try.ntmps51
    go_wp2
    go_ret
    exact ⟨ret_int (by unfold Pl.held; rw [if_pos (by omega)]), rfl⟩
  · by_cases h2 : n < -2147483648
    · go_enter Try.func51, Try.ntmps51
      go_wp2
      go_ret
      exact ⟨ret_int (by unfold Pl.held; rw [if_neg (by omega), if_pos (by omega)]), rfl⟩
    · go_enter Try.func51, Try.ntmps51
      go_wp2
      go_ret
      exact ⟨ret_int (by rw [Pl.held_in (by omega) (by omega)]), rfl⟩

end Go.Proofs.Ytgkfoiekminfmaa.Wa
