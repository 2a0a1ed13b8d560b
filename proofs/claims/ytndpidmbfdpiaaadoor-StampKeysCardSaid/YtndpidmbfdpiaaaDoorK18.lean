/- Layer 22: bytes as digits, by the program; the document's example. -/
import Derived.Test.YtndpidmbfdpiaaaDoorK17
import Derived.Test.YtndpidmbfdpiaaaDoorK05
namespace Go.Proofs.YtndpidmbfdpiaaaDoor.Se
open Go Go.RowKit Go.Proofs.YtndpidmbfdpiaaaDoor Go.Proofs.YtndpidmbfdpiaaaDoor.Au Go.Proofs.YtndpidmbfdpiaaaDoor.Re
set_option linter.unusedVariables false
set_option linter.unusedSimpArgs false

/-- a half byte's digit -/
def hexd (n : Nat) : UInt8 := if n < 10 then UInt8.ofNat (48 + n) else UInt8.ofNat (87 + n)

def hexL (l : List UInt8) : List UInt8 := l.flatMap fun b => [hexd (b.toNat / 16), hexd (b.toNat % 16)]

theorem hexL_len (l : List UInt8) : (hexL l).length = 2 * l.length := by
  induction l with
  | nil => rfl
  | cons b r ih =>
    show ([hexd _, hexd _] ++ hexL r).length = _
    rw [List.length_append, ih]
    simp
    omega

theorem hexL_take (l : List UInt8) (k : Nat) (b : UInt8) (h : l[k]? = some b) : hexL (l.take (k + 1)) = (hexL (l.take k) ++ [hexd (b.toNat / 16)]) ++ [hexd (b.toNat % 16)] := by
  rw [List.take_add_one, h]
  unfold hexL
  rw [List.flatMap_append]
  simp

abbrev HEX : ByteArray := { data := #[48, 49, 50, 51, 52, 53, 54, 55, 56, 57, 97, 98, 99, 100, 101, 102] }

theorem index_hex : ∀ (n : Nat), n < 16 → ∀ W, (Instr.index 9 (.string { data := #[48, 49, 50, 51, 52, 53, 54, 55, 56, 57, 97, 98, 99, 100, 101, 102] }) (.int .u8 (n : Int))).run Tryd.prog W = .ok (.int .u8 ((hexd n).toNat : Int)) W := by
  intro n hn W
  have h16 : n = 0 ∨ n = 1 ∨ n = 2 ∨ n = 3 ∨ n = 4 ∨ n = 5 ∨ n = 6 ∨ n = 7 ∨ n = 8 ∨ n = 9 ∨ n = 10 ∨ n = 11 ∨ n = 12 ∨ n = 13 ∨ n = 14 ∨ n = 15 := by omega
  rcases h16 with rfl | rfl | rfl | rfl | rfl | rfl | rfl | rfl | rfl | rfl | rfl | rfl | rfl | rfl | rfl | rfl <;> (simp [Instr.index, go_sem, hexd]; rfl)

end Go.Proofs.YtndpidmbfdpiaaaDoor.Se

/- Layer 22: the document's example, reckoned. -/
namespace Go.Proofs.YtndpidmbfdpiaaaDoor.Se
open Go Go.RowKit Go.Proofs.YtndpidmbfdpiaaaDoor

theorem sha_abc : sha [97, 98, 99] = [186, 120, 22, 191, 143, 1, 207, 234, 65, 65, 64, 222, 93, 174, 34, 35, 176, 3, 97, 163, 150, 23, 122, 156, 180, 16, 255, 97, 242, 0, 21, 173] := by decide +kernel
end Go.Proofs.YtndpidmbfdpiaaaDoor.Se
