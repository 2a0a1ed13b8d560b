/- The contracts of layer 1's functions that only reckon: what each returns, whatever the world; the world stays as it is. -/
import Derived.Test.YtcohehekkeeeoaaDoorChecked
import Derived.Test.YtcohehekkeeeoaaDoorF02
import Derived.WalkKit
import Derived.Lib.Hide
import Derived.Deep.QuietTactic
import Derived.BigQuiet
import Derived.Laws.BitsAllLaws
namespace Go.Proofs.YtcohehekkeeeoaaDoor.Wa
open Go.RowKit Go.Proofs.YtcohehekkeeeoaaDoor

theorem ret_int {k : IntKind} {a b : Int} (h : a = b) : Ending.returned (.int k a) = .returned (.int k b) := by rw [h]

theorem and_mask16 (a : Int) : bits .and .i64 a 65535 = a % 65536 := by
  show IntKind.i64.wrap ((BitVec.ofInt 64 a &&& BitVec.ofInt 64 65535).toNat : Int) = _
  have e : (BitVec.ofInt 64 65535).toNat = 65535 := by decide
  rw [BitVec.toNat_and, e, nat_mask16, BitVec.toNat_ofInt, IntWalk.i64_in _ (by omega)]
  omega

theorem and_mask62 (a : Int) : 0 ≤ bits .and .i64 a 4611686018427387903 ∧ bits .and .i64 a 4611686018427387903 ≤ 4611686018427387903 := by
  show 0 ≤ IntKind.i64.wrap ((BitVec.ofInt 64 a &&& BitVec.ofInt 64 4611686018427387903).toNat : Int) ∧ IntKind.i64.wrap ((BitVec.ofInt 64 a &&& BitVec.ofInt 64 4611686018427387903).toNat : Int) ≤ _
  have e : (BitVec.ofInt 64 4611686018427387903).toNat = 4611686018427387903 := by decide
  have h : (BitVec.ofInt 64 a &&& BitVec.ofInt 64 4611686018427387903).toNat ≤ 4611686018427387903 := by
    rw [BitVec.toNat_and, e]; exact Nat.and_le_right
  rw [IntWalk.i64_in _ (by omega)]
  omega

theorem clamp_any (n : Int) (w : World) : Calls Tryd.prog 75 #[.int .i64 n] w fun e w' => e = .returned (.int .i64 (Pl.held n)) ∧ w = w' := by
  by_cases h1 : n < -2147483648
  · go_enter Tryd.func75, Tryd.ntmps75
    go_wp2
    go_ret
    exact ⟨ret_int (by unfold Pl.held; rw [if_neg (by omega), if_pos h1]), rfl⟩
  · by_cases h2 : 2147483648 < n
    · go_enter Tryd.func75, Tryd.ntmps75
      go_wp2
      go_ret
      exact ⟨ret_int (by unfold Pl.held; rw [if_pos (by omega)]), rfl⟩
    · go_enter Tryd.func75, Tryd.ntmps75
      go_wp2
      go_ret
      exact ⟨ret_int (by rw [Pl.held_in (by omega) (by omega)]), rfl⟩

theorem take_any (n : Int) (w : World) : Calls Tryd.prog 61 #[.int .i64 n] w fun e w' => e = .returned (.int .i64 (Pl.held n)) ∧ w = w' := by
  go_enter Tryd.func61, Tryd.ntmps61
  go_wp2_with (go_at_call 75; refine (clamp_any _ _).mono ?_; rintro e w' ⟨rfl, rfl⟩)
  go_ret
  exact ⟨rfl, rfl⟩

theorem add_any (a b : Int) (w : World) : Calls Tryd.prog 39 #[.int .i64 a, .int .i64 b] w fun e w' => e = .returned (.int .i64 (Pl.add a b)) ∧ w = w' := by
  have a0 := Pl.held_lo a
  have a1 := Pl.held_hi a
  have b0 := Pl.held_lo b
  have b1 := Pl.held_hi b
  go_enter Tryd.func39, Tryd.ntmps39
  go_wp2_with (go_at_call 61; refine (take_any _ _).mono ?_; rintro e w' ⟨rfl, rfl⟩)
  go_ret
  exact ⟨rfl, rfl⟩

theorem down_any (n d : Int) (hd : 0 < d) (hd1 : d ≤ 4294967296) (h0 : -4611686018427387904 ≤ n) (h1 : n ≤ 4611686018427387904) (w : World) : Calls Tryd.prog 68 #[.int .i64 n, .int .i64 d] w fun e w' => e = .returned (.int .i64 (n / d)) ∧ w = w' := by
  by_cases hn : 0 ≤ n
  · have m0 := Int.emod_nonneg n (b := d) (by omega)
    have m1 := Int.emod_lt_of_pos n hd
    have m2 := Pl.emod_le hn hd
    go_enter Tryd.func68, Tryd.ntmps68
    go_wp2
    go_ret
    exact ⟨ret_int (by rw [← Int.tdiv_eq_ediv_of_nonneg (by omega : 0 ≤ n - n % d)]; exact Pl.down_nonneg hd), rfl⟩
  · have ⟨m0, m1⟩ := Pl.tmod_neg (n := n) (by omega) hd
    by_cases hz : n.tmod d < 0
    · go_enter Tryd.func68, Tryd.ntmps68
      go_wp2
      go_ret
      exact ⟨ret_int (Pl.down_neg (by omega) hd hz), rfl⟩
    · go_enter Tryd.func68, Tryd.ntmps68
      go_wp2
      go_ret
      exact ⟨ret_int (Pl.down_zero (by omega) hd (by omega)), rfl⟩

theorem unit_any (a : Int) (w : World) : Calls Tryd.prog 64 #[.int .i64 a] w fun e w' => e = .returned (.int .i64 (Pl.unit a)) ∧ w = w' := by
  by_cases h1 : a < 0
  · go_enter Tryd.func64, Tryd.ntmps64
    go_wp2
    go_ret
    exact ⟨ret_int (by unfold Pl.unit; rw [if_pos h1]), rfl⟩
  · by_cases h2 : 65536 < a
    · go_enter Tryd.func64, Tryd.ntmps64
      go_wp2
      go_ret
      exact ⟨ret_int (by unfold Pl.unit; rw [if_neg (by omega), if_pos (by omega)]), rfl⟩
    · go_enter Tryd.func64, Tryd.ntmps64
      go_wp2
      go_ret
      exact ⟨ret_int (by unfold Pl.unit; rw [if_neg (by omega), if_neg (by omega)]), rfl⟩

end Go.Proofs.YtcohehekkeeeoaaDoor.Wa

/- The contracts of layer 1's quotient, and of the document's own functions that only reckon. -/
namespace Go.Proofs.YtcohehekkeeeoaaDoor.Wa
open Go.RowKit Go.Proofs.YtcohehekkeeeoaaDoor

theorem quotient_any (a b : Int) (hb : b ≠ 0) (h0 : -281474976710656 ≤ a) (h1 : a ≤ 281474976710656) (h2 : -4294967296 ≤ b) (h3 : b ≤ 4294967296) (w : World) : Calls Tryd.prog 63 #[.int .i64 a, .int .i64 b] w fun e w' => e = .returned (.int .i64 (Pl.quot a b)) ∧ w = w' := by
  have ⟨d0, d1⟩ := Pl.tdiv_bd a b 281474976710656 h0 h1
  by_cases ha : a < 0
  · by_cases hn : b < 0
    · have HQ := Lib.hid (Pl.quot_same (a := a) (b := b) (.inl ⟨ha, hn⟩))
      by_cases hz : a.tmod b = 0
      · go_enter Tryd.func63, Tryd.ntmps63
        go_wp2
        go_ret
        exact ⟨ret_int HQ.out, rfl⟩
      · go_enter Tryd.func63, Tryd.ntmps63
        go_wp2
        go_ret
        exact ⟨ret_int HQ.out, rfl⟩
    · by_cases hz : a.tmod b = 0
      · have HQ := Lib.hid (Pl.quot_same_zero hb hz)
        go_enter Tryd.func63, Tryd.ntmps63
        go_wp2
        go_ret
        exact ⟨ret_int HQ.out, rfl⟩
      · have HQ := Lib.hid (Pl.quot_less hz (.inl ⟨ha, by omega⟩))
        have hp : 0 < b := by omega
        go_enter Tryd.func63, Tryd.ntmps63
        go_wp2
        go_ret
        exact ⟨ret_int HQ.out, rfl⟩
  · have hm := Int.tmod_eq_emod_of_nonneg (b := b) (show 0 ≤ a by omega)
    have HM := Lib.hid hm; clear hm
    by_cases hn : b < 0
    · by_cases hz : a % b = 0
      · have HQ := Lib.hid (Pl.quot_same_zero hb (HM.out.trans hz))
        go_enter Tryd.func63, Tryd.ntmps63
        go_wp2
        go_ret
        exact ⟨ret_int HQ.out, rfl⟩
      · have HQ := Lib.hid (Pl.quot_less (a := a) (b := b) (by rw [HM.out]; exact hz) (.inr ⟨by omega, hn⟩))
        go_enter Tryd.func63, Tryd.ntmps63
        go_wp2
        go_ret
        exact ⟨ret_int HQ.out, rfl⟩
    · have hp : 0 < b := by omega
      have HQ := Lib.hid (Pl.quot_same (a := a) (b := b) (.inr ⟨by omega, hp⟩))
      have e0 : 0 ≤ a / b := Int.ediv_nonneg (by omega) (by omega)
      have e1 : a / b ≤ a := Int.ediv_le_self _ (by omega)
      by_cases hz : a % b = 0
      · go_enter Tryd.func63, Tryd.ntmps63
        go_wp2
        go_ret
        exact ⟨ret_int HQ.out, rfl⟩
      · go_enter Tryd.func63, Tryd.ntmps63
        go_wp2
        go_ret
        exact ⟨ret_int HQ.out, rfl⟩

theorem endOf_any (a : Int) (w : World) : Calls Tryd.prog 62 #[.int .i64 a] w fun e w' => e = .returned (.int .i64 (Pl.endOf a)) ∧ w = w' := by
  by_cases h1 : 0 < a
  · go_enter Tryd.func62, Tryd.ntmps62
    go_wp2
    go_ret
    exact ⟨ret_int (by unfold Pl.endOf; rw [if_pos (by omega)]), rfl⟩
  · by_cases h2 : a < 0
    · go_enter Tryd.func62, Tryd.ntmps62
      go_wp2
      go_ret
      exact ⟨ret_int (by unfold Pl.endOf; rw [if_neg (by omega), if_pos (by omega)]), rfl⟩
    · go_enter Tryd.func62, Tryd.ntmps62
      go_wp2
      go_ret
      exact ⟨ret_int (by unfold Pl.endOf; rw [if_neg (by omega), if_neg (by omega)]), rfl⟩

theorem div_any (a b : Int) (w : World) : Calls Tryd.prog 38 #[.int .i64 a, .int .i64 b] w fun e w' => e = .returned (.int .i64 (Pl.div a b)) ∧ w = w' := by
  have a0 := Pl.held_lo a
  have a1 := Pl.held_hi a
  have b0 := Pl.held_lo b
  have b1 := Pl.held_hi b
  by_cases hz : Pl.held b = 0
  · have HV := Lib.hid (show Pl.endOf (Pl.held a) = Pl.div a b by unfold Pl.div Pl.endOf; rw [if_pos hz])
    go_enter Tryd.func38, Tryd.ntmps38
    go_wp2_with (first | (go_at_call 61; refine (take_any _ _).mono ?_; rintro e w' ⟨rfl, rfl⟩) | (go_at_call 62; refine (endOf_any _ _).mono ?_; rintro e w' ⟨rfl, rfl⟩))
    go_ret
    exact ⟨ret_int HV.out, rfl⟩
  · have HV := Lib.hid (Pl.div_quot (a := a) hz)
    have ⟨q0, q1⟩ := Pl.quot_bd (m := 140737488355328) hz (a := Pl.held a * 65536) (by omega) (by omega)
    go_enter Tryd.func38, Tryd.ntmps38
    go_wp2_with (first | (go_at_call 61; refine (take_any _ _).mono ?_; rintro e w' ⟨rfl, rfl⟩) | (go_at_call 63; refine (quotient_any _ _ hz (by omega) (by omega) (by omega) (by omega) _).mono ?_; rintro e w' ⟨rfl, rfl⟩))
    go_ret
    exact ⟨ret_int HV.out, rfl⟩

theorem held_any (n : Int) (w : World) : Calls Tryd.prog 67 #[.int .i64 n] w fun e w' => e = .returned (.int .i64 (Pl.held n)) ∧ w = w' := by
  by_cases h1 : 2147483648 < n
  · go_enter Tryd.func67, Tryd.ntmps67
    go_wp2
    go_ret
    exact ⟨ret_int (by unfold Pl.held; rw [if_pos (by omega)]), rfl⟩
  · by_cases h2 : n < -2147483648
    · go_enter Tryd.func67, Tryd.ntmps67
      go_wp2
      go_ret
      exact ⟨ret_int (by unfold Pl.held; rw [if_neg (by omega), if_pos (by omega)]), rfl⟩
    · go_enter Tryd.func67, Tryd.ntmps67
      go_wp2
      go_ret
      exact ⟨ret_int (by rw [Pl.held_in (by omega) (by omega)]), rfl⟩

theorem refAdd_any (a b : Int) (w : World) : Calls Tryd.prog 50 #[.int .i64 a, .int .i64 b] w fun e w' => e = .returned (.int .i64 (Pl.add a b)) ∧ w = w' := by
  have a0 := Pl.held_lo a
  have a1 := Pl.held_hi a
  have b0 := Pl.held_lo b
  have b1 := Pl.held_hi b
  go_enter Tryd.func50, Tryd.ntmps50
  go_wp2_with (go_at_call 67; refine (held_any _ _).mono ?_; rintro e w' ⟨rfl, rfl⟩)
  go_ret
  exact ⟨rfl, rfl⟩

theorem refUnit_any (a : Int) (w : World) : Calls Tryd.prog 69 #[.int .i64 a] w fun e w' => e = .returned (.int .i64 (Pl.unit a)) ∧ w = w' := by
  by_cases h1 : a < 0
  · go_enter Tryd.func69, Tryd.ntmps69
    go_wp2
    go_ret
    exact ⟨ret_int (by unfold Pl.unit; rw [if_pos (by omega)]), rfl⟩
  · by_cases h2 : 65536 < a
    · go_enter Tryd.func69, Tryd.ntmps69
      go_wp2
      go_ret
      exact ⟨ret_int (by unfold Pl.unit; rw [if_neg (by omega), if_pos (by omega)]), rfl⟩
    · go_enter Tryd.func69, Tryd.ntmps69
      go_wp2
      go_ret
      exact ⟨ret_int (by unfold Pl.unit; rw [if_neg (by omega), if_neg (by omega)]), rfl⟩

theorem refDiv_any (a b : Int) (w : World) : Calls Tryd.prog 49 #[.int .i64 a, .int .i64 b] w fun e w' => e = .returned (.int .i64 (Pl.div a b)) ∧ w = w' := by
  have a0 := Pl.held_lo a
  have a1 := Pl.held_hi a
  have b0 := Pl.held_lo b
  have b1 := Pl.held_hi b
  by_cases hz : Pl.held b = 0
  · by_cases h1 : 0 < Pl.held a
    · have HV := Lib.hid (show (2147483648 : Int) = Pl.div a b by unfold Pl.div; rw [if_pos hz, if_pos (by omega)])
      go_enter Tryd.func49, Tryd.ntmps49
      go_wp2_with (first | (go_at_call 67; refine (held_any _ _).mono ?_; rintro e w' ⟨rfl, rfl⟩) | (go_at_call 68; refine (down_any _ _ (by omega) (by omega) (by omega) (by omega) _).mono ?_; rintro e w' ⟨rfl, rfl⟩))
      go_ret
      exact ⟨ret_int HV.out, rfl⟩
    · by_cases h2 : Pl.held a < 0
      · have HV := Lib.hid (show (-2147483648 : Int) = Pl.div a b by unfold Pl.div; rw [if_pos hz, if_neg (by omega), if_pos (by omega)])
        go_enter Tryd.func49, Tryd.ntmps49
        go_wp2_with (first | (go_at_call 67; refine (held_any _ _).mono ?_; rintro e w' ⟨rfl, rfl⟩) | (go_at_call 68; refine (down_any _ _ (by omega) (by omega) (by omega) (by omega) _).mono ?_; rintro e w' ⟨rfl, rfl⟩))
        go_ret
        exact ⟨ret_int HV.out, rfl⟩
      · have HV := Lib.hid (show (0 : Int) = Pl.div a b by unfold Pl.div; rw [if_pos hz, if_neg (by omega), if_neg (by omega)])
        go_enter Tryd.func49, Tryd.ntmps49
        go_wp2_with (first | (go_at_call 67; refine (held_any _ _).mono ?_; rintro e w' ⟨rfl, rfl⟩) | (go_at_call 68; refine (down_any _ _ (by omega) (by omega) (by omega) (by omega) _).mono ?_; rintro e w' ⟨rfl, rfl⟩))
        go_ret
        exact ⟨ret_int HV.out, rfl⟩
  · by_cases hn : Pl.held b < 0
    · have HV := Lib.hid (show Pl.held (-(-(Pl.held a) * 65536 / Pl.held b)) = Pl.div a b by unfold Pl.div; rw [if_neg hz, if_pos hn, Int.ediv_neg])
      go_enter Tryd.func49, Tryd.ntmps49
      go_wp2_with (first | (go_at_call 67; refine (held_any _ _).mono ?_; rintro e w' ⟨rfl, rfl⟩) | (go_at_call 68; refine (down_any _ _ (by omega) (by omega) (by omega) (by omega) _).mono ?_; rintro e w' ⟨rfl, rfl⟩))
      go_ret
      exact ⟨ret_int HV.out, rfl⟩
    · have HV := Lib.hid (show Pl.held (Pl.held a * 65536 / Pl.held b) = Pl.div a b by unfold Pl.div; rw [if_neg hz, if_neg hn])
      have hp : 0 < Pl.held b := by omega
      go_enter Tryd.func49, Tryd.ntmps49
      go_wp2_with (first | (go_at_call 67; refine (held_any _ _).mono ?_; rintro e w' ⟨rfl, rfl⟩) | (go_at_call 68; refine (down_any _ _ (by omega) (by omega) (by omega) (by omega) _).mono ?_; rintro e w' ⟨rfl, rfl⟩))
      go_ret
      exact ⟨ret_int HV.out, rfl⟩
end Go.Proofs.YtcohehekkeeeoaaDoor.Wa
