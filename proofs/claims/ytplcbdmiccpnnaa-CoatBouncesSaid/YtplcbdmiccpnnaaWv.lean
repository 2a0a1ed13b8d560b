/- The contracts of layer 3's waves, and of the document's own: what each returns, whatever the world; the world stays as it is. -/
import Derived.Test.YtplcbdmiccpnnaaWb
import Derived.Test.YtplcbdmiccpnnaaPw
namespace Go.Proofs.Ytplcbdmiccpnnaa.Wv
open Go.RowKit Go.Proofs.Ytplcbdmiccpnnaa Go.Proofs.Ytplcbdmiccpnnaa.Wa

theorem arch_any (y : Int) (h0 : 0 ≤ y) (h1 : y ≤ 65536) (w : World) : Calls Try.prog 106 #[.int .i64 y] w fun e w' => e = .returned (.int .i64 (Pl.arch y)) ∧ w = w' := by
  have ⟨b0, b1⟩ := Pl.bow_bd h0 h1
  have HV := Lib.hid (show Pl.div (16 * Pl.bow y) (327680 - 4 * Pl.bow y) = Pl.arch y from rfl)
  go_enter Try.func106, Try.ntmps106
  go_wp2_with (first | (go_at_call 44; refine (mul_any _ _ _).mono ?_; rintro e w' ⟨rfl, rfl⟩; rw [show Pl.mul y (65536 - y) = Pl.bow y from rfl]) | (go_at_call 47; refine (div_any _ _ _).mono ?_; rintro e w' ⟨rfl, rfl⟩))
  go_ret
  exact ⟨ret_int HV.out, rfl⟩

theorem rhalf_any (y : Int) (h0 : 0 ≤ y) (h1 : y ≤ 65536) (w : World) : Calls Try.prog 107 #[.int .i64 y] w fun e w' => e = .returned (.int .i64 (Pl.arch y)) ∧ w = w' := by
  have ⟨b0, b1⟩ := Pl.bow_bd h0 h1
  have ⟨p0, p1⟩ := Pl.prod_bd h0 h1
  have HE := Lib.hid (Pl.bow_eq h0 h1)
  have HV := Lib.hid (show Pl.div (16 * Pl.bow y) (327680 - 4 * Pl.bow y) = Pl.arch y from rfl)
  go_enter Try.func107, Try.ntmps107
  go_wp2_with (first | (go_at_call 69; refine (down_any _ _ (by omega) (by omega) (by omega) (by omega) _).mono ?_; rintro e w' ⟨rfl, rfl⟩; rw [HE.out]) | (go_at_call 49; refine (refDiv_any _ _ _).mono ?_; rintro e w' ⟨rfl, rfl⟩))
  go_ret
  exact ⟨ret_int HV.out, rfl⟩

theorem sin_any (t : Int) (w : World) : Calls Try.prog 83 #[.int .i64 t] w fun e w' => e = .returned (.int .i64 (Pl.sin t)) ∧ w = w' := by
  by_cases h : Pl.held t % 65536 < 32768
  · have HV := Lib.hid (show Pl.arch (2 * (Pl.held t % 65536)) = Pl.sin t by unfold Pl.sin; rw [if_pos h])
    go_enter Try.func83, Try.ntmps83
    go_wp2_with (first | (go_at_call 105; refine (part_any _ _).mono ?_; rintro e w' ⟨rfl, rfl⟩) | (go_at_call 106; refine (arch_any _ (by omega) (by omega) _).mono ?_; rintro e w' ⟨rfl, rfl⟩))
    go_ret
    exact ⟨ret_int HV.out, rfl⟩
  · have HV := Lib.hid (show -Pl.arch (2 * (Pl.held t % 65536) - 65536) = Pl.sin t by unfold Pl.sin; rw [if_neg h])
    have ⟨a0, a1⟩ := Pl.arch_bd (y := 2 * (Pl.held t % 65536) - 65536) (by omega) (by omega)
    go_enter Try.func83, Try.ntmps83
    go_wp2_with (first | (go_at_call 105; refine (part_any _ _).mono ?_; rintro e w' ⟨rfl, rfl⟩) | (go_at_call 106; refine (arch_any _ (by omega) (by omega) _).mono ?_; rintro e w' ⟨rfl, rfl⟩))
    go_ret
    exact ⟨ret_int HV.out, rfl⟩

theorem cos_any (t : Int) (w : World) : Calls Try.prog 82 #[.int .i64 t] w fun e w' => e = .returned (.int .i64 (Pl.cos t)) ∧ w = w' := by
  have HV := Lib.hid (show Pl.sin (Pl.held t % 65536 + 16384) = Pl.cos t from rfl)
  go_enter Try.func82, Try.ntmps82
  go_wp2_with (first | (go_at_call 105; refine (part_any _ _).mono ?_; rintro e w' ⟨rfl, rfl⟩) | (go_at_call 83; refine (sin_any _ _).mono ?_; rintro e w' ⟨rfl, rfl⟩))
  go_ret
  exact ⟨ret_int HV.out, rfl⟩

theorem rsin_any (t : Int) (w : World) : Calls Try.prog 88 #[.int .i64 t] w fun e w' => e = .returned (.int .i64 (Pl.sin t)) ∧ w = w' := by
  have t0 := Pl.held_lo t
  have t1 := Pl.held_hi t
  have e0 : Pl.held t - Pl.held t / 65536 * 65536 = Pl.held t % 65536 := by omega
  by_cases h : Pl.held t % 65536 < 32768
  · have HV := Lib.hid (show Pl.arch (2 * (Pl.held t % 65536)) = Pl.sin t by unfold Pl.sin; rw [if_pos h])
    go_enter Try.func88, Try.ntmps88
    go_wp2_with (first | (go_at_call 68; refine (held_any _ _).mono ?_; rintro e w' ⟨rfl, rfl⟩) | (go_at_call 69; refine (down_any _ _ (by omega) (by omega) (by omega) (by omega) _).mono ?_; rintro e w' ⟨rfl, rfl⟩) | (go_at_call 107; refine (rhalf_any _ (by omega) (by omega) _).mono ?_; rintro e w' ⟨rfl, rfl⟩))
    go_ret
    exact ⟨ret_int HV.out, rfl⟩
  · have HV := Lib.hid (show -Pl.arch (2 * (Pl.held t % 65536) - 65536) = Pl.sin t by unfold Pl.sin; rw [if_neg h])
    have ⟨a0, a1⟩ := Pl.arch_bd (y := 2 * (Pl.held t % 65536) - 65536) (by omega) (by omega)
    go_enter Try.func88, Try.ntmps88
    go_wp2_with (first | (go_at_call 68; refine (held_any _ _).mono ?_; rintro e w' ⟨rfl, rfl⟩) | (go_at_call 69; refine (down_any _ _ (by omega) (by omega) (by omega) (by omega) _).mono ?_; rintro e w' ⟨rfl, rfl⟩) | (go_at_call 107; refine (rhalf_any _ (by omega) (by omega) _).mono ?_; rintro e w' ⟨rfl, rfl⟩))
    go_ret
    exact ⟨ret_int HV.out, rfl⟩

theorem rcos_any (t : Int) (w : World) : Calls Try.prog 87 #[.int .i64 t] w fun e w' => e = .returned (.int .i64 (Pl.cos t)) ∧ w = w' := by
  have t0 := Pl.held_lo t
  have t1 := Pl.held_hi t
  have ⟨b0, b1, b2⟩ := Pl.tmod_turn t0 t1 t rfl
  have HV := Lib.hid b2
  clear b2
  by_cases h : 0 ≤ Pl.held t
  · have hm := Int.tmod_eq_emod_of_nonneg (b := 65536) h
    have HV2 := Lib.hid (show Pl.sin (Pl.held t % 65536 + 16384) = Pl.cos t from rfl)
    clear HV
    go_enter Try.func87, Try.ntmps87
    go_wp2_with (first | (go_at_call 68; refine (held_any _ _).mono ?_; rintro e w' ⟨rfl, rfl⟩) | (go_at_call 88; refine (rsin_any _ _).mono ?_; rintro e w' ⟨rfl, rfl⟩))
    go_ret
    exact ⟨ret_int HV2.out, rfl⟩
  · go_enter Try.func87, Try.ntmps87
    go_wp2_with (first | (go_at_call 68; refine (held_any _ _).mono ?_; rintro e w' ⟨rfl, rfl⟩) | (go_at_call 88; refine (rsin_any _ _).mono ?_; rintro e w' ⟨rfl, rfl⟩))
    go_ret
    exact ⟨ret_int HV.out, rfl⟩

end Go.Proofs.Ytplcbdmiccpnnaa.Wv
