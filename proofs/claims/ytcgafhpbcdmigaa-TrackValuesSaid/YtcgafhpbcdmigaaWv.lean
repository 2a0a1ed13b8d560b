/- The contracts of layer 3's waves, and of the document's own: what each returns, whatever the world; the world stays as it is. -/
import Derived.Test.YtcgafhpbcdmigaaWb
import Derived.Test.YtcgafhpbcdmigaaPw
namespace Go.Proofs.Ytcgafhpbcdmigaa.Wv
open Go.RowKit Go.Proofs.Ytcgafhpbcdmigaa Go.Proofs.Ytcgafhpbcdmigaa.Wa

theorem ease_any (t : Int) (w : World) : Calls Try.prog 82 #[.int .i64 t] w fun e w' => e = .returned (.int .i64 (Pl.ease t)) ∧ w = w' := by
  have u0 := Pl.unit_lo t
  have u1 := Pl.unit_hi t
  have HV := Lib.hid (show Pl.mul (Pl.mul (Pl.unit t) (Pl.unit t)) (196608 - 2 * Pl.unit t) = Pl.ease t from rfl)
  go_enter Try.func82, Try.ntmps82
  go_wp2_with (first | (go_at_call 32; refine (unit_any _ _).mono ?_; rintro e w' ⟨rfl, rfl⟩) | (go_at_call 48; refine (mul_any _ _ _).mono ?_; rintro e w' ⟨rfl, rfl⟩))
  go_ret
  exact ⟨ret_int HV.out, rfl⟩

theorem rease_any (t : Int) (w : World) : Calls Try.prog 65 #[.int .i64 t] w fun e w' => e = .returned (.int .i64 (Pl.ease t)) ∧ w = w' := by
  have u0 := Pl.unit_lo t
  have u1 := Pl.unit_hi t
  have HV := Lib.hid (show Pl.mul (Pl.mul (Pl.unit t) (Pl.unit t)) (196608 - 2 * Pl.unit t) = Pl.ease t from rfl)
  go_enter Try.func65, Try.ntmps65
  go_wp2_with (first | (go_at_call 33; refine (refUnit_any _ _).mono ?_; rintro e w' ⟨rfl, rfl⟩) | (go_at_call 49; refine (refMul_any _ _ _).mono ?_; rintro e w' ⟨rfl, rfl⟩))
  go_ret
  exact ⟨ret_int HV.out, rfl⟩

end Go.Proofs.Ytcgafhpbcdmigaa.Wv
