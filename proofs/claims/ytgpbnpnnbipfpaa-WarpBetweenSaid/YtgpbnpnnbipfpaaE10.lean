/- The contracts of layer 1's quotient, and of the document's own functions that only reckon. -/
import Derived.Test.YtgpbnpnnbipfpaaE09
namespace Go.Proofs.Ytgpbnpnnbipfpaa.Wa
open Go.RowKit Go.Proofs.Ytgpbnpnnbipfpaa

theorem held_any (n : Int) (w : World) : Calls Try.prog 19 #[.int .i64 n] w fun e w' => e = .returned (.int .i64 (Pl.held n)) ∧ w = w' := by
  by_cases h1 : 2147483648 < n
  · go_enter Try.func19, Try.ntmps19
    go_wp2
    go_ret
    exact ⟨ret_int (by unfold Pl.held; rw [if_pos (by omega)]), rfl⟩
  · by_cases h2 : n < -2147483648
    · go_enter Try.func19, Try.ntmps19
      go_wp2
      go_ret
      exact ⟨ret_int (by unfold Pl.held; rw [if_neg (by omega), if_pos (by omega)]), rfl⟩
    · go_enter Try.func19, Try.ntmps19
      go_wp2
      go_ret
      exact ⟨ret_int (by rw [Pl.held_in (by omega) (by omega)]), rfl⟩

theorem refAdd_any (a b : Int) (w : World) : Calls Try.prog 48 #[.int .i64 a, .int .i64 b] w fun e w' => e = .returned (.int .i64 (Pl.add a b)) ∧ w = w' := by
  have a0 := Pl.held_lo a
  have a1 := Pl.held_hi a
  have b0 := Pl.held_lo b
  have b1 := Pl.held_hi b
  go_enter Try.func48, Try.ntmps48
  go_wp2_with (go_at_call 19; refine (held_any _ _).mono ?_; rintro e w' ⟨rfl, rfl⟩)
  go_ret
  exact ⟨rfl, rfl⟩

theorem refMul_any (a b : Int) (w : World) : Calls Try.prog 49 #[.int .i64 a, .int .i64 b] w fun e w' => e = .returned (.int .i64 (Pl.mul a b)) ∧ w = w' := by
  have ⟨m0, m1⟩ := Pl.mul_bd (Pl.held_lo a) (Pl.held_hi a) (Pl.held_lo b) (Pl.held_hi b)
  go_enter Try.func49, Try.ntmps49
  go_wp2_with (first | (go_at_call 19; refine (held_any _ _).mono ?_; rintro e w' ⟨rfl, rfl⟩) | (go_at_call 50; refine (down_any _ _ (by omega) (by omega) (by omega) (by omega) _).mono ?_; rintro e w' ⟨rfl, rfl⟩))
  go_ret
  exact ⟨rfl, rfl⟩

theorem refUnit_any (a : Int) (w : World) : Calls Try.prog 51 #[.int .i64 a] w fun e w' => e = .returned (.int .i64 (Pl.unit a)) ∧ w = w' := by
  by_cases h1 : a < 0
  · go_enter Try.func51, Try.ntmps51
    go_wp2
    go_ret
    exact ⟨ret_int (by unfold Pl.unit; rw [if_pos (by omega)]), rfl⟩
  · by_cases h2 : 65536 < a
    · go_enter Try.func51, Try.ntmps51
      go_wp2
      go_ret
      exact ⟨ret_int (by unfold Pl.unit; rw [if_neg (by omega), if_pos (by omega)]), rfl⟩
    · go_enter Try.func51, Try.ntmps51
      go_wp2
      go_ret
      exact ⟨ret_int (by unfold Pl.unit; rw [if_neg (by omega), if_neg (by omega)]), rfl⟩

theorem refLerp_any (a b t : Int) (w : World) : Calls Try.prog 41 #[.int .i64 a, .int .i64 b, .int .i64 t] w fun e w' => e = .returned (.int .i64 (Pl.lerp a b t)) ∧ w = w' := by
  have a0 := Pl.held_lo a
  have a1 := Pl.held_hi a
  have b0 := Pl.held_lo b
  have b1 := Pl.held_hi b
  have ⟨m0, m1⟩ := Pl.way_bd (d := Pl.held b - Pl.held a) (u := Pl.unit t) (by omega) (by omega) (Pl.unit_lo t) (Pl.unit_hi t)
  have u0 := Pl.unit_lo t
  have u1 := Pl.unit_hi t
  have HV := Lib.hid (show Pl.held (Pl.held a + ((Pl.held b - Pl.held a) * Pl.unit t) / 65536) = Pl.lerp a b t from Pl.held_in (Pl.lerp_lo a b t) (Pl.lerp_hi a b t))
  go_enter Try.func41, Try.ntmps41
  go_wp2_with (first | (go_at_call 19; refine (held_any _ _).mono ?_; rintro e w' ⟨rfl, rfl⟩) | (go_at_call 50; refine (down_any _ _ (by omega) (by omega) (by omega) (by omega) _).mono ?_; rintro e w' ⟨rfl, rfl⟩) | (go_at_call 51; refine (refUnit_any _ _).mono ?_; rintro e w' ⟨rfl, rfl⟩))
  go_ret
  exact ⟨ret_int HV.out, rfl⟩

end Go.Proofs.Ytgpbnpnnbipfpaa.Wa
