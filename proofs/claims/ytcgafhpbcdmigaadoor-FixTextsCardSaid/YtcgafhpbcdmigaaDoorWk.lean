/- The document's examples, asked by each statement of layer 1: they hold, whatever the world. -/
import Derived.Test.YtcgafhpbcdmigaaDoorWt
namespace Go.Proofs.YtcgafhpbcdmigaaDoor.Wa
open Go.RowKit Go.Proofs.YtcgafhpbcdmigaaDoor

theorem ex_mul (w : World) : Calls Tryd.prog 10 #[.int .i64 (-1), .int .i64 1] w fun e w' => e = .returned (.int .i64 (-1)) ∧ w = w' := by
  have := mul_any (-1) 1 w
  rwa [show Pl.mul (-1) 1 = -1 by decide] at this
theorem ex_div (w : World) : Calls Tryd.prog 11 #[.int .i64 65536, .int .i64 196608] w fun e w' => e = .returned (.int .i64 21845) ∧ w = w' := by
  have := div_any 65536 196608 w
  rwa [show Pl.div 65536 196608 = 21845 by decide] at this
theorem ex_root (w : World) : Calls Tryd.prog 12 #[.int .i64 131072] w fun e w' => e = .returned (.int .i64 92681) ∧ w = w' := by
  have := root_any 131072 w
  have e : Pl.root 131072 = 92681 := by
    unfold Pl.root
    rw [if_neg (by omega), Pl.held_in (by omega) (by omega), Pl.rt_uniq (n := (131072 : Int).toNat * 65536) (r := 92681) (by decide) (by decide)]
    rfl
  rwa [e] at this
theorem ex_text (w : World) : Calls Tryd.prog 7 #[.int .i64 (-98304)] w fun e w' => e = .returned (.string ⟨#[45, 49, 46, 53]⟩) ∧ Below w.heap.size w w' := by
  have h1 := itoa_small 1 (by omega) w
  have h2 := text_held (-98304) 98304 (by omega) (by omega) (-98304) (Lib.hid (by decide)) w h1
  have e : Pl.textOf (-98304) = [45, 49, 46, 53] := by
    unfold Pl.textOf
    rw [Lib.decDigits]
    decide
  rw [e] at h2
  exact h2

theorem awake_any (w : World) : Calls Tryd.prog 4 #[] w fun e w' => e = .returned (.bool true) ∧ Below w.heap.size w w' := by
  go_enter Tryd.func4, Tryd.ntmps4
  go_wp2_with (first | (go_at_call 10; refine (ex_mul _).mono ?_; rintro e w1 ⟨rfl, rfl⟩) | (go_at_call 11; refine (ex_div _).mono ?_; rintro e w1 ⟨rfl, rfl⟩) | (go_at_call 12; refine (ex_root _).mono ?_; rintro e w1 ⟨rfl, rfl⟩) | (go_at_call 7; refine (ex_text _).mono ?_; rintro e w1 ⟨rfl, hb⟩))
  go_ret
  exact ⟨rfl, hb⟩
end Go.Proofs.YtcgafhpbcdmigaaDoor.Wa
