/- Layer 7: the contracts of a reader's numbers. -/
import Derived.Test.YtgkfoiekminfmaaRef
import Derived.Laws.Bits64b
namespace Go.Proofs.Ytgkfoiekminfmaa.Re
open Go.RowKit Go.Proofs.Ytgkfoiekminfmaa Go.Proofs.Ytgkfoiekminfmaa.Rp

theorem bs_cell {w : World} {a : Option Addr} {m c : Nat} {q : List UInt8} (h : Bs w (.slice a m c) q) {k : Nat} (hk : k < q.length) : ∃ ad, a = some ad ∧ w.cell? (ad.add k) = some (.int .u8 (q[k].toNat : Int)) := by
  rcases h with ⟨-, rfl⟩ | ⟨ad, cap, h, hc⟩
  · simp at hk
  · cases h; exact ⟨ad, rfl, hc k _ (by simp [vals, hk])⟩

theorem pow_le (k : Nat) (hk : k ≤ 8) : 256 ^ k ≤ 18446744073709551616 := by
  have := Nat.pow_le_pow_right (n := 256) (by omega) hk
  have e : 256 ^ 8 = 18446744073709551616 := by decide
  omega

theorem or_mul (a b i m : Nat) (hm : m = 2 ^ i) (h : a < m) : a ||| (b * m) = b * m + a := by
  subst hm
  rw [Nat.or_comm, ← Nat.shiftLeft_eq, Nat.shiftLeft_add_eq_or_of_lt h]

theorem or_step (x b k : Nat) (hk : k < 8) (hx : x < 256 ^ k) (hb : b < 256) : bits BinOp.or IntKind.u64 (x : Int) (IntKind.u64.wrap (IntKind.u64.wrap (b : Int) * 2 ^ (8 * k))) = ((x + 256 ^ k * b : Nat) : Int) ∧ x + 256 ^ k * b < 256 ^ (k + 1) := by
  have e1 : IntKind.u64.wrap (b : Int) = b := by rw [IntKind.wrap_u64]; omega
  have e2 : (2 : Int) ^ (8 * k) = ((256 ^ k : Nat) : Int) := by rw [Int.pow_mul]; simp
  have e3 : (256 : Nat) ^ k = 2 ^ (8 * k) := by rw [Nat.pow_mul]
  have hle := pow_le (k + 1) (by omega)
  have hlk := pow_le k (by omega)
  have hp : 0 < 256 ^ k := Nat.pow_pos (by omega)
  rw [Nat.pow_succ] at hle
  have hb2 : 256 ^ k * b ≤ 256 ^ k * 255 := Nat.mul_le_mul_left _ (by omega)
  have h2 : x + 256 ^ k * b < 256 ^ (k + 1) := by rw [Nat.pow_succ]; omega
  refine ⟨?_, h2⟩
  rw [e1, e2, ← Int.natCast_mul, IntKind.wrap_u64]
  have hbm : b * 256 ^ k = 256 ^ k * b := Nat.mul_comm _ _
  have e4 : ((b * 256 ^ k : Nat) : Int) % 18446744073709551616 = ((b * 256 ^ k : Nat) : Int) := by
    rw [Nat.pow_succ] at h2
    omega
  rw [e4, bits_or_u64_nat x (b * 256 ^ k) (by omega) (by rw [Nat.pow_succ] at h2; omega), or_mul x b (8 * k) _ e3 hx, hbm, Nat.add_comm]

set_option maxHeartbeats 1000000 in
theorem rnumber_any (p : Value) (g : Nat) {B : Nat} (s : St) (n : Nat) (hn : n ≤ 8) (w : World) (h : RP p g B s w) :
    Calls Try.prog 76 #[p, .int .i64 n] w fun e w' => e = .returned (.int .u64 (numS s n).1) ∧ RP p g B (numS s n).2 w' ∧ Aft g w.heap.size w w' := by
  have HV := Lib.hid (show numOf (takeS s n).1 = (numS s n).1 from rfl)
  have HS := Lib.hid (show (takeS s n).2 = (numS s n).2 from rfl)
  go_enter Try.func76, Try.ntmps76
  go_wp2_with fail
  refine (take_lit p g s n n rfl (by omega) _ h).mono ?_
  rintro e w1 ⟨⟨a, m, c, rfl, HM, hm, hbs⟩, hr, hA⟩
  obtain ⟨q, hq⟩ : ∃ q, q = (takeS s n).1 := ⟨_, rfl⟩
  rw [← hq] at HM hbs HV
  have HB := Lib.hid hbs
  clear hbs hq
  go_wp2_with fail
  go_loopw [5, 12] (fun v i wr => ∃ k : Nat, k ≤ m ∧ i = .int .i64 k ∧ wr = w1 ∧ ∃ x : Nat, v = .int .u64 x ∧ x < 256 ^ k ∧ Hid (x = numOf (q.take k))) (fun _ i _ => m - (intOf i).toNat)
  case atStart => exact ⟨0, Nat.zero_le _, rfl, rfl, 0, rfl, by simp, Lib.hid (by simp [numOf])⟩
  case round =>
    obtain ⟨k, hk, rfl, rfl, x, rfl, hx, HX⟩ := hrel
    by_cases hlt : k < m
    · have hlt' : (k : Int) < m := by omega
      have hkq : k < q.length := by have := HM.out; omega
      obtain ⟨ad, rfl, hc⟩ := bs_cell HB.out hkq
      obtain ⟨b, hb⟩ : ∃ b, b = q[k] := ⟨_, rfl⟩
      rw [← hb] at hc
      obtain ⟨o1, o2⟩ := or_step x b.toNat k (by omega) hx b.toNat_lt
      have HX2 := Lib.hid (show x + 256 ^ k * b.toNat = numOf (q.take (k + 1)) by
        rw [List.take_succ_eq_append_getElem hkq, numOf_snoc, ← HX.out, List.length_take, Nat.min_eq_left (by omega), ← hb])
      obtain ⟨y, hy⟩ : ∃ y, y = x + 256 ^ k * b.toNat := ⟨_, rfl⟩
      rw [← hy] at o1 o2 HX2
      clear hb hy
      go_wp2_with fail
      go_roundw
      case rel => exact ⟨k + 1, by omega, by go_num, trivial, y, rfl, o2, HX2⟩
      case measure => simp [intOf]; omega
    · obtain rfl : k = m := by omega
      go_wp2
      go_ret
      exact ⟨by rw [← HV.out, ← List.take_of_length_le (l := q) (i := k) (by have := HM.out; omega), ← HX.out]; rfl, hr, hA⟩
end Go.Proofs.Ytgkfoiekminfmaa.Re
