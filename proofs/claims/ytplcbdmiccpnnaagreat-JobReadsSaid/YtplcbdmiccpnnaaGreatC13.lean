/- The contracts of layer 1's functions that only reckon: what each returns, whatever the world; the world stays as it is. -/
import Derived.Test.YtplcbdmiccpnnaaGreatChecked
import Derived.Test.YtplcbdmiccpnnaaGreatC01
import Derived.WalkKit
import Derived.Lib.Hide
import Derived.Deep.QuietTactic
import Derived.BigQuiet
import Derived.Laws.BitsAllLaws
namespace Go.Proofs.YtplcbdmiccpnnaaGreat.Wa
open Go.RowKit Go.Proofs.YtplcbdmiccpnnaaGreat

theorem ret_int {k : IntKind} {a b : Int} (h : a = b) : Ending.returned (.int k a) = .returned (.int k b) := by rw [h]

theorem and_mask16 (a : Int) : bits .and .i64 a 65535 = a % 65536 := by
  show IntKind.i64.wrap ((BitVec.ofInt 64 a &&& BitVec.ofInt 64 65535).toNat : Int) = _
  have e : (BitVec.ofInt 64 65535).toNat = 65535 := by decide
  rw [BitVec.toNat_and, e, nat_mask16, BitVec.toNat_ofInt, IntWalk.i64_in _ (by omega)]
  omega

theorem and_mask62 (a : Int) : 0 ≤ bits .and .i64 a 4611686018427387903 ∧ bits .and .i64 a 4611686018427387903 ≤ 4611686018427387903 := by
  show 0 ≤ IntKind.i64.wrap ((BitVec.ofInt 64 a &&& BitVec.ofInt 64 4611686018427387903).toNat : Int) ∧ IntKind.i64.wrap ((BitVec.ofInt 64 a &&& BitVec.ofInt 64 4611686018427387903).toNat : Int) ≤ _
  have e : (BitVec.ofInt 64 4611686018427387903).toNat = 4611686018427387903 := by decide
  have h : (BitVec.ofInt 64 a &&& BitVec.ofInt 64 4611686018427387903).toNat ≤ 4611686018427387903 := by
    rw [BitVec.toNat_and, e]; exact Nat.and_le_right
  rw [IntWalk.i64_in _ (by omega)]
  omega

theorem clamp_any (n : Int) (w : World) : Calls Tryz.prog 101 #[.int .i64 n] w fun e w' => e = .returned (.int .i64 (Pl.held n)) ∧ w = w' := by
  by_cases h1 : n < -2147483648
  · go_enter Tryz.func101, Tryz.ntmps101
    go_wp2
    go_ret
    exact ⟨ret_int (by unfold Pl.held; rw [if_neg (by omega), if_pos h1]), rfl⟩
  · by_cases h2 : 2147483648 < n
    · go_enter Tryz.func101, Tryz.ntmps101
      go_wp2
      go_ret
      exact ⟨ret_int (by unfold Pl.held; rw [if_pos (by omega)]), rfl⟩
    · go_enter Tryz.func101, Tryz.ntmps101
      go_wp2
      go_ret
      exact ⟨ret_int (by rw [Pl.held_in (by omega) (by omega)]), rfl⟩

theorem take_any (n : Int) (w : World) : Calls Tryz.prog 100 #[.int .i64 n] w fun e w' => e = .returned (.int .i64 (Pl.held n)) ∧ w = w' := by
  go_enter Tryz.func100, Tryz.ntmps100
  go_wp2_with (go_at_call 101; refine (clamp_any _ _).mono ?_; rintro e w' ⟨rfl, rfl⟩)
  go_ret
  exact ⟨rfl, rfl⟩

theorem sub_any (a b : Int) (w : World) : Calls Tryz.prog 99 #[.int .i64 a, .int .i64 b] w fun e w' => e = .returned (.int .i64 (Pl.sub a b)) ∧ w = w' := by
  have a0 := Pl.held_lo a
  have a1 := Pl.held_hi a
  have b0 := Pl.held_lo b
  have b1 := Pl.held_hi b
  go_enter Tryz.func99, Tryz.ntmps99
  go_wp2_with (go_at_call 100; refine (take_any _ _).mono ?_; rintro e w' ⟨rfl, rfl⟩)
  go_ret
  exact ⟨rfl, rfl⟩

end Go.Proofs.YtplcbdmiccpnnaaGreat.Wa

/- The contracts of layer 1's quotient, and of the document's own functions that only reckon. -/
namespace Go.Proofs.YtplcbdmiccpnnaaGreat.Wa
open Go.RowKit Go.Proofs.YtplcbdmiccpnnaaGreat

theorem held_any (n : Int) (w : World) : Calls Tryz.prog 83 #[.int .i64 n] w fun e w' => e = .returned (.int .i64 (Pl.held n)) ∧ w = w' := by
  by_cases h1 : 2147483648 < n
  · go_enter Tryz.func83, Tryz.ntmps83
    go_wp2
    go_ret
    exact ⟨ret_int (by unfold Pl.held; rw [if_pos (by omega)]), rfl⟩
  · by_cases h2 : n < -2147483648
    · go_enter Tryz.func83, Tryz.ntmps83
      go_wp2
      go_ret
      exact ⟨ret_int (by unfold Pl.held; rw [if_neg (by omega), if_pos (by omega)]), rfl⟩
    · go_enter Tryz.func83, Tryz.ntmps83
      go_wp2
      go_ret
      exact ⟨ret_int (by rw [Pl.held_in (by omega) (by omega)]), rfl⟩

end Go.Proofs.YtplcbdmiccpnnaaGreat.Wa
