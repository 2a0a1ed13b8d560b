/- The contracts of layer 1's functions that only reckon: what each returns, whatever the world; the world stays as it is. -/
import Derived.Test.YtcohehekkeeeoaaDoorChecked
import Derived.Test.YtcohehekkeeeoaaDoorPlain
import Derived.WalkKit
import Derived.Lib.Hide
import Derived.Deep.QuietTactic
import Derived.BigQuiet
import Derived.Laws.BitsAllLaws
namespace Go.Proofs.YtcohehekkeeeoaaDoor.Wa
open Go.RowKit Go.Proofs.YtcohehekkeeeoaaDoor

theorem ret_int {k : IntKind} {a b : Int} (h : a = b) : Ending.returned (.int k a) = .returned (.int k b) := by rw [h]

theorem and_mask16 (a : Int) : bits .and .i64 a 65535 = a % 65536 := by
  show IntKind.i64.wrap ((BitVec.ofInt 64 a &&& BitVec.ofInt 64 65535).toNat : Int) = _
  have e : (BitVec.ofInt 64 65535).toNat = 65535 := by decide
  rw [BitVec.toNat_and, e, nat_mask16, BitVec.toNat_ofInt, IntWalk.i64_in _ (by omega)]
  omega

theorem and_mask62 (a : Int) : 0 ≤ bits .and .i64 a 4611686018427387903 ∧ bits .and .i64 a 4611686018427387903 ≤ 4611686018427387903 := by
  show 0 ≤ IntKind.i64.wrap ((BitVec.ofInt 64 a &&& BitVec.ofInt 64 4611686018427387903).toNat : Int) ∧ IntKind.i64.wrap ((BitVec.ofInt 64 a &&& BitVec.ofInt 64 4611686018427387903).toNat : Int) ≤ _
  have e : (BitVec.ofInt 64 4611686018427387903).toNat = 4611686018427387903 := by decide
  have h : (BitVec.ofInt 64 a &&& BitVec.ofInt 64 4611686018427387903).toNat ≤ 4611686018427387903 := by
    rw [BitVec.toNat_and, e]; exact Nat.and_le_right
  rw [IntWalk.i64_in _ (by omega)]
  omega

theorem clamp_any (n : Int) (w : World) : Calls Tryd.prog 75 #[.int .i64 n] w fun e w' => e = .returned (.int .i64 (Pl.held n)) ∧ w = w' := by
  by_cases h1 : n < -2147483648
  · go_enter Tryd.func75, Tryd.ntmps75
    go_wp2
    go_ret
    exact ⟨ret_int (by unfold Pl.held; rw [if_neg (by omega), if_pos h1]), rfl⟩
  · by_cases h2 : 2147483648 < n
    · go_enter Tryd.func75, Tryd.ntmps75
      go_wp2
      go_ret
      exact ⟨ret_int (by unfold Pl.held; rw [if_pos (by omega)]), rfl⟩
    · go_enter Tryd.func75, Tryd.ntmps75
      go_wp2
      go_ret
      exact ⟨ret_int (by rw [Pl.held_in (by omega) (by omega)]), rfl⟩

theorem take_any (n : Int) (w : World) : Calls Tryd.prog 61 #[.int .i64 n] w fun e w' => e = .returned (.int .i64 (Pl.held n)) ∧ w = w' := by
  go_enter Tryd.func61, Tryd.ntmps61
  go_wp2_with (go_at_call 75; refine (clamp_any _ _).mono ?_; rintro e w' ⟨rfl, rfl⟩)
  go_ret
  exact ⟨rfl, rfl⟩

theorem add_any (a b : Int) (w : World) : Calls Tryd.prog 39 #[.int .i64 a, .int .i64 b] w fun e w' => e = .returned (.int .i64 (Pl.add a b)) ∧ w = w' := by
  have a0 := Pl.held_lo a
  have a1 := Pl.held_hi a
  have b0 := Pl.held_lo b
  have b1 := Pl.held_hi b
  go_enter Tryd.func39, Tryd.ntmps39
  go_wp2_with (go_at_call 61; refine (take_any _ _).mono ?_; rintro e w' ⟨rfl, rfl⟩)
  go_ret
  exact ⟨rfl, rfl⟩

theorem down_any (n d : Int) (hd : 0 < d) (hd1 : d ≤ 4294967296) (h0 : -4611686018427387904 ≤ n) (h1 : n ≤ 4611686018427387904) (w : World) : Calls Tryd.prog 68 #[.int .i64 n, .int .i64 d] w fun e w' => e = .returned (.int .i64 (n / d)) ∧ w = w' := by
  by_cases hn : 0 ≤ n
  · have m0 := Int.emod_nonneg n (b := d) (by omega)
    have m1 := Int.emod_lt_of_pos n hd
    have m2 := Pl.emod_le hn hd
    go_enter Tryd.func68, Tryd.ntmps68
    go_wp2
    go_ret
    exact ⟨ret_int (by rw [← Int.tdiv_eq_ediv_of_nonneg (by omega : 0 ≤ n - n % d)]; exact Pl.down_nonneg hd), rfl⟩
  · have ⟨m0, m1⟩ := Pl.tmod_neg (n := n) (by omega) hd
    by_cases hz : n.tmod d < 0
    · go_enter Tryd.func68, Tryd.ntmps68
      go_wp2
      go_ret
      exact ⟨ret_int (Pl.down_neg (by omega) hd hz), rfl⟩
    · go_enter Tryd.func68, Tryd.ntmps68
      go_wp2
      go_ret
      exact ⟨ret_int (Pl.down_zero (by omega) hd (by omega)), rfl⟩

theorem unit_any (a : Int) (w : World) : Calls Tryd.prog 64 #[.int .i64 a] w fun e w' => e = .returned (.int .i64 (Pl.unit a)) ∧ w = w' := by
  by_cases h1 : a < 0
  · go_enter Tryd.func64, Tryd.ntmps64
    go_wp2
    go_ret
    exact ⟨ret_int (by unfold Pl.unit; rw [if_pos h1]), rfl⟩
  · by_cases h2 : 65536 < a
    · go_enter Tryd.func64, Tryd.ntmps64
      go_wp2
      go_ret
      exact ⟨ret_int (by unfold Pl.unit; rw [if_neg (by omega), if_pos (by omega)]), rfl⟩
    · go_enter Tryd.func64, Tryd.ntmps64
      go_wp2
      go_ret
      exact ⟨ret_int (by unfold Pl.unit; rw [if_neg (by omega), if_neg (by omega)]), rfl⟩

end Go.Proofs.YtcohehekkeeeoaaDoor.Wa
