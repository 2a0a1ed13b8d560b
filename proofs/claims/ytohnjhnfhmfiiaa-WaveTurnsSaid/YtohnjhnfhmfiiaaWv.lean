/- The contracts of layer 3's waves, and of the document's own: what each returns, whatever the world; the world stays as it is. -/
import Derived.Test.YtohnjhnfhmfiiaaWb
import Derived.Test.YtohnjhnfhmfiiaaPw
namespace Go.Proofs.Ytohnjhnfhmfiiaa.Wv
open Go.RowKit Go.Proofs.Ytohnjhnfhmfiiaa Go.Proofs.Ytohnjhnfhmfiiaa.Wa

theorem arch_any (y : Int) (h0 : 0 ≤ y) (h1 : y ≤ 65536) (w : World) : Calls Try.prog 85 #[.int .i64 y] w fun e w' => e = .returned (.int .i64 (Pl.arch y)) ∧ w = w' := by
  have ⟨b0, b1⟩ := Pl.bow_bd h0 h1
  have HV := Lib.hid (show Pl.div (16 * Pl.bow y) (327680 - 4 * Pl.bow y) = Pl.arch y from rfl)
  go_enter Try.func85, Try.ntmps85
  go_wp2_with (first | (go_at_call 89; refine (mul_any _ _ _).mono ?_; rintro e w' ⟨rfl, rfl⟩; rw [show Pl.mul y (65536 - y) = Pl.bow y from rfl]) | (go_at_call 88; refine (div_any _ _ _).mono ?_; rintro e w' ⟨rfl, rfl⟩))
  go_ret
  exact ⟨ret_int HV.out, rfl⟩

theorem rhalf_any (y : Int) (h0 : 0 ≤ y) (h1 : y ≤ 65536) (w : World) : Calls Try.prog 87 #[.int .i64 y] w fun e w' => e = .returned (.int .i64 (Pl.arch y)) ∧ w = w' := by
  have ⟨b0, b1⟩ := Pl.bow_bd h0 h1
  have ⟨p0, p1⟩ := Pl.prod_bd h0 h1
  have HE := Lib.hid (Pl.bow_eq h0 h1)
  have HV := Lib.hid (show Pl.div (16 * Pl.bow y) (327680 - 4 * Pl.bow y) = Pl.arch y from rfl)
  go_enter Try.func87, Try.ntmps87
  go_wp2_with (first | (go_at_call 86; refine (down_any _ _ (by omega) (by omega) (by omega) (by omega) _).mono ?_; rintro e w' ⟨rfl, rfl⟩; rw [HE.out]) | (go_at_call 43; refine (refDiv_any _ _ _).mono ?_; rintro e w' ⟨rfl, rfl⟩))
  go_ret
  exact ⟨ret_int HV.out, rfl⟩

theorem sin_any (t : Int) (w : World) : Calls Try.prog 38 #[.int .i64 t] w fun e w' => e = .returned (.int .i64 (Pl.sin t)) ∧ w = w' := by
  by_cases h : Pl.held t % 65536 < 32768
  · have HV := Lib.hid (show Pl.arch (2 * (Pl.held t % 65536)) = Pl.sin t by unfold Pl.sin; rw [if_pos h])
    go_enter Try.func38, Try.ntmps38
    go_wp2_with (first | (go_at_call 84; refine (part_any _ _).mono ?_; rintro e w' ⟨rfl, rfl⟩) | (go_at_call 85; refine (arch_any _ (by omega) (by omega) _).mono ?_; rintro e w' ⟨rfl, rfl⟩))
    go_ret
    exact ⟨ret_int HV.out, rfl⟩
  · have HV := Lib.hid (show -Pl.arch (2 * (Pl.held t % 65536) - 65536) = Pl.sin t by unfold Pl.sin; rw [if_neg h])
    have ⟨a0, a1⟩ := Pl.arch_bd (y := 2 * (Pl.held t % 65536) - 65536) (by omega) (by omega)
    go_enter Try.func38, Try.ntmps38
    go_wp2_with (first | (go_at_call 84; refine (part_any _ _).mono ?_; rintro e w' ⟨rfl, rfl⟩) | (go_at_call 85; refine (arch_any _ (by omega) (by omega) _).mono ?_; rintro e w' ⟨rfl, rfl⟩))
    go_ret
    exact ⟨ret_int HV.out, rfl⟩

theorem cos_any (t : Int) (w : World) : Calls Try.prog 40 #[.int .i64 t] w fun e w' => e = .returned (.int .i64 (Pl.cos t)) ∧ w = w' := by
  have HV := Lib.hid (show Pl.sin (Pl.held t % 65536 + 16384) = Pl.cos t from rfl)
  go_enter Try.func40, Try.ntmps40
  go_wp2_with (first | (go_at_call 84; refine (part_any _ _).mono ?_; rintro e w' ⟨rfl, rfl⟩) | (go_at_call 38; refine (sin_any _ _).mono ?_; rintro e w' ⟨rfl, rfl⟩))
  go_ret
  exact ⟨ret_int HV.out, rfl⟩

theorem tan_any (t : Int) (w : World) : Calls Try.prog 42 #[.int .i64 t] w fun e w' => e = .returned (.int .i64 (Pl.div (Pl.sin t) (Pl.cos t))) ∧ w = w' := by
  go_enter Try.func42, Try.ntmps42
  go_wp2_with (first | (go_at_call 38; refine (sin_any _ _).mono ?_; rintro e w' ⟨rfl, rfl⟩) | (go_at_call 40; refine (cos_any _ _).mono ?_; rintro e w' ⟨rfl, rfl⟩) | (go_at_call 88; refine (div_any _ _ _).mono ?_; rintro e w' ⟨rfl, rfl⟩))
  go_ret
  exact ⟨rfl, rfl⟩

theorem ease_any (t : Int) (w : World) : Calls Try.prog 48 #[.int .i64 t] w fun e w' => e = .returned (.int .i64 (Pl.ease t)) ∧ w = w' := by
  have u0 := Pl.unit_lo t
  have u1 := Pl.unit_hi t
  have HV := Lib.hid (show Pl.mul (Pl.mul (Pl.unit t) (Pl.unit t)) (196608 - 2 * Pl.unit t) = Pl.ease t from rfl)
  go_enter Try.func48, Try.ntmps48
  go_wp2_with (first | (go_at_call 50; refine (unit_any _ _).mono ?_; rintro e w' ⟨rfl, rfl⟩) | (go_at_call 89; refine (mul_any _ _ _).mono ?_; rintro e w' ⟨rfl, rfl⟩))
  go_ret
  exact ⟨ret_int HV.out, rfl⟩

theorem rease_any (t : Int) (w : World) : Calls Try.prog 49 #[.int .i64 t] w fun e w' => e = .returned (.int .i64 (Pl.ease t)) ∧ w = w' := by
  have u0 := Pl.unit_lo t
  have u1 := Pl.unit_hi t
  have HV := Lib.hid (show Pl.mul (Pl.mul (Pl.unit t) (Pl.unit t)) (196608 - 2 * Pl.unit t) = Pl.ease t from rfl)
  go_enter Try.func49, Try.ntmps49
  go_wp2_with (first | (go_at_call 90; refine (refUnit_any _ _).mono ?_; rintro e w' ⟨rfl, rfl⟩) | (go_at_call 91; refine (refMul_any _ _ _).mono ?_; rintro e w' ⟨rfl, rfl⟩))
  go_ret
  exact ⟨ret_int HV.out, rfl⟩

theorem rsin_any (t : Int) (w : World) : Calls Try.prog 39 #[.int .i64 t] w fun e w' => e = .returned (.int .i64 (Pl.sin t)) ∧ w = w' := by
  have t0 := Pl.held_lo t
  have t1 := Pl.held_hi t
  have e0 : Pl.held t - Pl.held t / 65536 * 65536 = Pl.held t % 65536 := by omega
  by_cases h : Pl.held t % 65536 < 32768
  · have HV := Lib.hid (show Pl.arch (2 * (Pl.held t % 65536)) = Pl.sin t by unfold Pl.sin; rw [if_pos h])
    go_enter Try.func39, Try.ntmps39
    go_wp2_with (first | (go_at_call 33; refine (held_any _ _).mono ?_; rintro e w' ⟨rfl, rfl⟩) | (go_at_call 86; refine (down_any _ _ (by omega) (by omega) (by omega) (by omega) _).mono ?_; rintro e w' ⟨rfl, rfl⟩) | (go_at_call 87; refine (rhalf_any _ (by omega) (by omega) _).mono ?_; rintro e w' ⟨rfl, rfl⟩))
    go_ret
    exact ⟨ret_int HV.out, rfl⟩
  · have HV := Lib.hid (show -Pl.arch (2 * (Pl.held t % 65536) - 65536) = Pl.sin t by unfold Pl.sin; rw [if_neg h])
    have ⟨a0, a1⟩ := Pl.arch_bd (y := 2 * (Pl.held t % 65536) - 65536) (by omega) (by omega)
    go_enter Try.func39, Try.ntmps39
    go_wp2_with (first | (go_at_call 33; refine (held_any _ _).mono ?_; rintro e w' ⟨rfl, rfl⟩) | (go_at_call 86; refine (down_any _ _ (by omega) (by omega) (by omega) (by omega) _).mono ?_; rintro e w' ⟨rfl, rfl⟩) | (go_at_call 87; refine (rhalf_any _ (by omega) (by omega) _).mono ?_; rintro e w' ⟨rfl, rfl⟩))
    go_ret
    exact ⟨ret_int HV.out, rfl⟩

theorem rcos_any (t : Int) (w : World) : Calls Try.prog 41 #[.int .i64 t] w fun e w' => e = .returned (.int .i64 (Pl.cos t)) ∧ w = w' := by
  have t0 := Pl.held_lo t
  have t1 := Pl.held_hi t
  have ⟨b0, b1, b2⟩ := Pl.tmod_turn t0 t1 t rfl
  have HV := Lib.hid b2
  clear b2
  by_cases h : 0 ≤ Pl.held t
  · have hm := Int.tmod_eq_emod_of_nonneg (b := 65536) h
    have HV2 := Lib.hid (show Pl.sin (Pl.held t % 65536 + 16384) = Pl.cos t from rfl)
    clear HV
    go_enter Try.func41, Try.ntmps41
    go_wp2_with (first | (go_at_call 33; refine (held_any _ _).mono ?_; rintro e w' ⟨rfl, rfl⟩) | (go_at_call 39; refine (rsin_any _ _).mono ?_; rintro e w' ⟨rfl, rfl⟩))
    go_ret
    exact ⟨ret_int HV2.out, rfl⟩
  · go_enter Try.func41, Try.ntmps41
    go_wp2_with (first | (go_at_call 33; refine (held_any _ _).mono ?_; rintro e w' ⟨rfl, rfl⟩) | (go_at_call 39; refine (rsin_any _ _).mono ?_; rintro e w' ⟨rfl, rfl⟩))
    go_ret
    exact ⟨ret_int HV.out, rfl⟩

/-! ### the document's examples -/
theorem awake_any (w : World) : Calls Try.prog 37 #[] w fun e w' => e = .returned (.bool true) ∧ w = w' := by
  have s1 : Pl.sin 16384 = 65536 := by decide +kernel
  have s2 : Pl.sin 32768 = 0 := by decide +kernel
  have s3 : Pl.cos 0 = 65536 := by decide +kernel
  have s4 : Pl.ease 32768 = 32768 := by decide +kernel
  go_enter Try.func37, Try.ntmps37
  go_wp2_with (first | (go_at_call 38; refine (sin_any _ _).mono ?_; rintro e w1 ⟨rfl, rfl⟩) | (go_at_call 40; refine (cos_any _ _).mono ?_; rintro e w1 ⟨rfl, rfl⟩) | (go_at_call 48; refine (ease_any _ _).mono ?_; rintro e w1 ⟨rfl, rfl⟩))
  go_ret
  exact ⟨rfl, rfl⟩
end Go.Proofs.Ytohnjhnfhmfiiaa.Wv
