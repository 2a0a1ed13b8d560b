/- The plain arithmetic of a number's text: digits of a part, whole parts, signs. No program in sight. -/
import Derived.Test.YtcgafhpbcdmigaaDoorPlain
import Derived.Lib.UnsafeStr
import Derived.Lib.ItoaNum
namespace Go.Proofs.YtcgafhpbcdmigaaDoor.Pl
open Go

/-- the digits of a part, at most so many -/
def digs : Nat → Nat → List UInt8
  | 0, _ => []
  | f + 1, p => if p = 0 then [] else UInt8.ofNat (48 + p * 10 / 65536) :: digs f (p * 10 % 65536)
theorem digs_zero (f : Nat) : digs f 0 = [] := by cases f <;> simp [digs]
theorem digs_length (f p : Nat) : (digs f p).length ≤ f := by
  induction f generalizing p with
  | zero => simp [digs]
  | succ f ih => unfold digs; split <;> simp; exact ih _
theorem digs_step {j q : Nat} (hq : q < 65536) (h0 : q ≠ 0) (hj : j ≤ 16) (hd : 2 ^ (16 - j) ∣ q) :
    ∃ i, j = i + 1 ∧ digs j q = UInt8.ofNat (48 + q * 10 / 65536) :: digs i (q * 10 % 65536) ∧ 2 ^ (16 - i) ∣ q * 10 % 65536 ∧ q * 10 % 65536 < 65536 := by
  cases j with
  | zero =>
    exfalso
    have := Nat.le_of_dvd (by omega) hd
    omega
  | succ i =>
    refine ⟨i, rfl, by rw [digs, if_neg h0], ?_, Nat.mod_lt _ (by omega)⟩
    obtain ⟨m, rfl⟩ := hd
    have e : 16 - i = (16 - (i + 1)) + 1 := by omega
    have h16 : 2 ^ (16 - i) ∣ 65536 := by
      have : (65536 : Nat) = 2 ^ 16 := by decide
      rw [this]; exact Nat.pow_dvd_pow 2 (by omega)
    refine (Nat.dvd_mod_iff h16).2 ?_
    rw [e, Nat.pow_succ]
    exact ⟨m * 5, by rw [Nat.mul_assoc, Nat.mul_assoc]; congr 1; omega⟩
theorem digit_cell (q : Nat) (hq : q < 65536) : ((UInt8.ofNat (48 + q * 10 / 65536)).toNat : Int) = 48 + (q : Int) * 10 / 65536 := by
  rw [UInt8.toNat_ofNat_of_lt' (by simp [UInt8.size]; omega)]
  omega

theorem dec_len : ∀ (k u : Nat), u < 10 ^ (k + 1) → (Lib.decDigits u).length ≤ k + 1
  | 0, u, h => by rw [Lib.decDigits, dif_pos (by simpa using h)]; simp
  | k + 1, u, h => by
    rw [Lib.decDigits]
    split
    · simp
    · have := dec_len k (u / 10) (by rw [Nat.pow_succ] at h; omega)
      simp; omega

/-- a number's text -/
def textOf (h : Int) : List UInt8 :=
  (if h < 0 then [45] else []) ++ Lib.decDigits (h.natAbs / 65536) ++ (if h.natAbs % 65536 = 0 then [] else 46 :: digs 16 (h.natAbs % 65536))
theorem text_neg_whole {h : Int} {m : Nat} (hm : h.natAbs = m) (hs : h < 0) (hp : (m : Int) % 65536 = 0) : textOf h = 45 :: Lib.decDigits ((m : Int) / 65536).toNat := by
  have e : ((m : Int) / 65536).toNat = m / 65536 := by omega
  unfold textOf
  rw [if_pos hs, hm, if_pos (by omega), e]
  simp
theorem text_neg_part {h : Int} {m : Nat} (hm : h.natAbs = m) (hs : h < 0) (hp : ¬ (m : Int) % 65536 = 0) : textOf h = 45 :: (Lib.decDigits ((m : Int) / 65536).toNat ++ 46 :: digs 16 ((m : Int) % 65536).toNat) := by
  have e : ((m : Int) / 65536).toNat = m / 65536 := by omega
  have e2 : ((m : Int) % 65536).toNat = m % 65536 := by omega
  unfold textOf
  rw [if_pos hs, hm, if_neg (by omega), e, e2]
  simp
theorem text_pos_whole {h : Int} {m : Nat} (hm : h.natAbs = m) (hs : ¬ h < 0) (hp : (m : Int) % 65536 = 0) : textOf h = Lib.decDigits ((m : Int) / 65536).toNat := by
  have e : ((m : Int) / 65536).toNat = m / 65536 := by omega
  unfold textOf
  rw [if_neg hs, hm, if_pos (by omega), e]
  simp
theorem text_pos_part {h : Int} {m : Nat} (hm : h.natAbs = m) (hs : ¬ h < 0) (hp : ¬ (m : Int) % 65536 = 0) : textOf h = Lib.decDigits ((m : Int) / 65536).toNat ++ 46 :: digs 16 ((m : Int) % 65536).toNat := by
  have e : ((m : Int) / 65536).toNat = m / 65536 := by omega
  have e2 : ((m : Int) % 65536).toNat = m % 65536 := by omega
  unfold textOf
  rw [if_neg hs, hm, if_neg (by omega), e, e2]
  simp
end Go.Proofs.YtcgafhpbcdmigaaDoor.Pl
