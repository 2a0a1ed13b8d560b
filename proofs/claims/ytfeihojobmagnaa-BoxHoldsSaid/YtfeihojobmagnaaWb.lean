/- The contracts of layer 1's quotient, and of the document's own functions that only reckon. -/
import Derived.Test.YtfeihojobmagnaaWa
namespace Go.Proofs.Ytfeihojobmagnaa.Wa
open Go.RowKit Go.Proofs.Ytfeihojobmagnaa

theorem held_any (n : Int) (w : World) : Calls Try.prog 104 #[.int .i64 n] w fun e w' => e = .returned (.int .i64 (Pl.held n)) ∧ w = w' := by
  by_cases h1 : 2147483648 < n
  · go_enter Try.func104, Try.ntmps104
    go_wp2
    go_ret
    exact ⟨ret_int (by unfold Pl.held; rw [if_pos (by omega)]), rfl⟩
  · by_cases h2 : n < -2147483648
    · go_enter Try.func104, Try.ntmps104
      go_wp2
      go_ret
      exact ⟨ret_int (by unfold Pl.held; rw [if_neg (by omega), if_pos (by omega)]), rfl⟩
    · go_enter Try.func104, Try.ntmps104
      go_wp2
      go_ret
      exact ⟨ret_int (by rw [Pl.held_in (by omega) (by omega)]), rfl⟩

theorem refAdd_any (a b : Int) (w : World) : Calls Try.prog 95 #[.int .i64 a, .int .i64 b] w fun e w' => e = .returned (.int .i64 (Pl.add a b)) ∧ w = w' := by
  have a0 := Pl.held_lo a
  have a1 := Pl.held_hi a
  have b0 := Pl.held_lo b
  have b1 := Pl.held_hi b
  go_enter Try.func95, Try.ntmps95
  go_wp2_with (go_at_call 104; refine (held_any _ _).mono ?_; rintro e w' ⟨rfl, rfl⟩)
  go_ret
  exact ⟨rfl, rfl⟩

theorem refSub_any (a b : Int) (w : World) : Calls Try.prog 92 #[.int .i64 a, .int .i64 b] w fun e w' => e = .returned (.int .i64 (Pl.sub a b)) ∧ w = w' := by
  have a0 := Pl.held_lo a
  have a1 := Pl.held_hi a
  have b0 := Pl.held_lo b
  have b1 := Pl.held_hi b
  go_enter Try.func92, Try.ntmps92
  go_wp2_with (go_at_call 104; refine (held_any _ _).mono ?_; rintro e w' ⟨rfl, rfl⟩)
  go_ret
  exact ⟨rfl, rfl⟩

theorem refMul_any (a b : Int) (w : World) : Calls Try.prog 96 #[.int .i64 a, .int .i64 b] w fun e w' => e = .returned (.int .i64 (Pl.mul a b)) ∧ w = w' := by
  have ⟨m0, m1⟩ := Pl.mul_bd (Pl.held_lo a) (Pl.held_hi a) (Pl.held_lo b) (Pl.held_hi b)
  go_enter Try.func96, Try.ntmps96
  go_wp2_with (first | (go_at_call 104; refine (held_any _ _).mono ?_; rintro e w' ⟨rfl, rfl⟩) | (go_at_call 146; refine (down_any _ _ (by omega) (by omega) (by omega) (by omega) _).mono ?_; rintro e w' ⟨rfl, rfl⟩))
  go_ret
  exact ⟨rfl, rfl⟩

theorem refUnit_any (a : Int) (w : World) : Calls Try.prog 147 #[.int .i64 a] w fun e w' => e = .returned (.int .i64 (Pl.unit a)) ∧ w = w' := by
  by_cases h1 : a < 0
  · go_enter Try.func147, Try.ntmps147
    go_wp2
    go_ret
    exact ⟨ret_int (by unfold Pl.unit; rw [if_pos (by omega)]), rfl⟩
  · by_cases h2 : 65536 < a
    · go_enter Try.func147, Try.ntmps147
      go_wp2
      go_ret
      exact ⟨ret_int (by unfold Pl.unit; rw [if_neg (by omega), if_pos (by omega)]), rfl⟩
    · go_enter Try.func147, Try.ntmps147
      go_wp2
      go_ret
      exact ⟨ret_int (by unfold Pl.unit; rw [if_neg (by omega), if_neg (by omega)]), rfl⟩

theorem refLerp_any (a b t : Int) (w : World) : Calls Try.prog 91 #[.int .i64 a, .int .i64 b, .int .i64 t] w fun e w' => e = .returned (.int .i64 (Pl.lerp a b t)) ∧ w = w' := by
  have a0 := Pl.held_lo a
  have a1 := Pl.held_hi a
  have b0 := Pl.held_lo b
  have b1 := Pl.held_hi b
  have ⟨m0, m1⟩ := Pl.way_bd (d := Pl.held b - Pl.held a) (u := Pl.unit t) (by omega) (by omega) (Pl.unit_lo t) (Pl.unit_hi t)
  have u0 := Pl.unit_lo t
  have u1 := Pl.unit_hi t
  have HV := Lib.hid (show Pl.held (Pl.held a + ((Pl.held b - Pl.held a) * Pl.unit t) / 65536) = Pl.lerp a b t from Pl.held_in (Pl.lerp_lo a b t) (Pl.lerp_hi a b t))
  go_enter Try.func91, Try.ntmps91
  go_wp2_with (first | (go_at_call 104; refine (held_any _ _).mono ?_; rintro e w' ⟨rfl, rfl⟩) | (go_at_call 146; refine (down_any _ _ (by omega) (by omega) (by omega) (by omega) _).mono ?_; rintro e w' ⟨rfl, rfl⟩) | (go_at_call 147; refine (refUnit_any _ _).mono ?_; rintro e w' ⟨rfl, rfl⟩))
  go_ret
  exact ⟨ret_int HV.out, rfl⟩

end Go.Proofs.Ytfeihojobmagnaa.Wa
