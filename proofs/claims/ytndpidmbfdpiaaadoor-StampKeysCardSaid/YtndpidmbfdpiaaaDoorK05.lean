/- The contracts of layer 1's functions that only reckon: what each returns, whatever the world; the world stays as it is. -/
import Derived.Test.YtndpidmbfdpiaaaDoorChecked
import Derived.Test.YtndpidmbfdpiaaaDoorK02
import Derived.WalkKit
import Derived.Lib.Hide
import Derived.Deep.QuietTactic
import Derived.BigQuiet
import Derived.Laws.BitsAllLaws
namespace Go.Proofs.YtndpidmbfdpiaaaDoor.Wa
open Go.RowKit Go.Proofs.YtndpidmbfdpiaaaDoor

theorem ret_int {k : IntKind} {a b : Int} (h : a = b) : Ending.returned (.int k a) = .returned (.int k b) := by rw [h]

theorem and_mask16 (a : Int) : bits .and .i64 a 65535 = a % 65536 := by
  show IntKind.i64.wrap ((BitVec.ofInt 64 a &&& BitVec.ofInt 64 65535).toNat : Int) = _
  have e : (BitVec.ofInt 64 65535).toNat = 65535 := by decide
  rw [BitVec.toNat_and, e, nat_mask16, BitVec.toNat_ofInt, IntWalk.i64_in _ (by omega)]
  omega

theorem and_mask62 (a : Int) : 0 ≤ bits .and .i64 a 4611686018427387903 ∧ bits .and .i64 a 4611686018427387903 ≤ 4611686018427387903 := by
  show 0 ≤ IntKind.i64.wrap ((BitVec.ofInt 64 a &&& BitVec.ofInt 64 4611686018427387903).toNat : Int) ∧ IntKind.i64.wrap ((BitVec.ofInt 64 a &&& BitVec.ofInt 64 4611686018427387903).toNat : Int) ≤ _
  have e : (BitVec.ofInt 64 4611686018427387903).toNat = 4611686018427387903 := by decide
  have h : (BitVec.ofInt 64 a &&& BitVec.ofInt 64 4611686018427387903).toNat ≤ 4611686018427387903 := by
    rw [BitVec.toNat_and, e]; exact Nat.and_le_right
  rw [IntWalk.i64_in _ (by omega)]
  omega

end Go.Proofs.YtndpidmbfdpiaaaDoor.Wa

/- The contracts of layer 1's quotient, and of the document's own functions that only reckon. -/
namespace Go.Proofs.YtndpidmbfdpiaaaDoor.Wa
open Go.RowKit Go.Proofs.YtndpidmbfdpiaaaDoor

end Go.Proofs.YtndpidmbfdpiaaaDoor.Wa

/- Nothing of its own: what it imports. -/
namespace Go.Proofs.YtndpidmbfdpiaaaDoor
end Go.Proofs.YtndpidmbfdpiaaaDoor
