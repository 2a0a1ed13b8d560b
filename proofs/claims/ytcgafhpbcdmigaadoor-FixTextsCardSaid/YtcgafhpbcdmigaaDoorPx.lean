/- The plain arithmetic of reading a number's text: digits give the number back; a part's digits give the part back. No program in sight. -/
import Derived.Test.YtcgafhpbcdmigaaDoorPt
import Derived.Lib.ParseIntB
import Derived.Lib.Repeat
import Derived.Lib.IndexMore
namespace Go.Proofs.YtcgafhpbcdmigaaDoor.Pl
open Go

/-- a digit's byte -/
def dgt (c : UInt8) : Prop := 48 ≤ c.toNat ∧ c.toNat ≤ 57

/-- the number that digits tell, behind what was told ahead of them -/
def valFrom (acc : Nat) : List UInt8 → Nat
  | [] => acc
  | c :: r => valFrom (acc * 10 + (c.toNat - 48)) r

theorem valFrom_app (x y : List UInt8) : ∀ acc, valFrom acc (x ++ y) = valFrom (valFrom acc x) y := by
  induction x with
  | nil => intro acc; rfl
  | cons c r ih => intro acc; exact ih _

theorem le_valFrom : ∀ (l : List UInt8) (acc : Nat), acc ≤ valFrom acc l
  | [], acc => Nat.le_refl _
  | c :: r, acc => Nat.le_trans (by omega) (le_valFrom r (acc * 10 + (c.toNat - 48)))

theorem valFrom_lin (l : List UInt8) : ∀ acc : Nat, valFrom acc l = acc * 10 ^ l.length + valFrom 0 l := by
  induction l with
  | nil => intro acc; show acc = acc * 10 ^ 0 + 0; rw [Nat.pow_zero]; omega
  | cons c r ih =>
    intro acc
    show valFrom (acc * 10 + (c.toNat - 48)) r = acc * 10 ^ (r.length + 1) + valFrom (0 * 10 + (c.toNat - 48)) r
    rw [ih (acc * 10 + (c.toNat - 48)), ih (0 * 10 + (c.toNat - 48)), Nat.pow_succ, Nat.zero_mul, Nat.zero_add, Nat.add_mul]
    have e : acc * (10 ^ r.length * 10) = acc * 10 * 10 ^ r.length := by rw [Nat.mul_comm (10 ^ r.length) 10, Nat.mul_assoc]
    rw [e, Nat.add_assoc]

theorem parse_val {M : Nat} (hM : M ≤ 18446744073709551615) : ∀ (l : List UInt8) (acc : Nat), (∀ c ∈ l, dgt c) → valFrom acc l ≤ M → Lib.parseUintM M acc l = .ok (valFrom acc l)
  | [], acc, _, _ => rfl
  | c :: r, acc, hd, hv => by
    have h1 := hd c (by simp)
    have h2 := le_valFrom r (acc * 10 + (c.toNat - 48))
    unfold valFrom at hv ⊢
    unfold Lib.parseUintM
    rw [if_pos (show 48 ≤ c.toNat ∧ c.toNat ≤ 57 from h1), if_neg (by omega), if_neg (by omega)]
    exact parse_val hM r _ (fun x hx => hd x (by simp [hx])) hv

theorem dec_digits : ∀ (u : Nat), (∀ c ∈ Lib.decDigits u, dgt c) ∧ valFrom 0 (Lib.decDigits u) = u ∧ Lib.decDigits u ≠ [] := by
  intro u
  induction u using Nat.strongRecOn with
  | ind u ih =>
    by_cases h : u < 10
    · rw [Lib.decDigits, dif_pos h]
      have e : (UInt8.ofNat (48 + u)).toNat = 48 + u := UInt8.toNat_ofNat_of_lt' (by simp [UInt8.size]; omega)
      refine ⟨fun c hc => ?_, ?_, by simp⟩
      · simp only [List.mem_singleton] at hc
        rw [hc]; unfold dgt; rw [e]; omega
      · unfold valFrom valFrom; rw [e]; omega
    · obtain ⟨i1, i2, i3⟩ := ih (u / 10) (by omega)
      rw [Lib.decDigits, dif_neg h]
      have e : (UInt8.ofNat (48 + u % 10)).toNat = 48 + u % 10 := UInt8.toNat_ofNat_of_lt' (by simp [UInt8.size]; omega)
      refine ⟨fun c hc => ?_, ?_, by simp⟩
      · rcases List.mem_append.1 hc with hc | hc
        · exact i1 c hc
        · simp only [List.mem_singleton] at hc
          rw [hc]; unfold dgt; rw [e]; omega
      · rw [valFrom_app, i2]
        unfold valFrom valFrom; rw [e]; omega

theorem digs_digits : ∀ (f p : Nat), p < 65536 → ∀ c ∈ digs f p, dgt c
  | 0, p, _, c, hc => by simp [digs] at hc
  | f + 1, p, hp, c, hc => by
    unfold digs at hc
    split at hc
    · simp at hc
    · rcases List.mem_cons.1 hc with hc | hc
      · have e : (UInt8.ofNat (48 + p * 10 / 65536)).toNat = 48 + p * 10 / 65536 := UInt8.toNat_ofNat_of_lt' (by simp [UInt8.size]; omega)
        rw [hc]; unfold dgt; rw [e]; omega
      · exact digs_digits f _ (Nat.mod_lt _ (by omega)) c hc

/-- nothing behind -/
def zeros (n : Nat) : List UInt8 := List.replicate n 48

theorem val_zeros (n : Nat) : ∀ acc : Nat, valFrom acc (zeros n) = acc * 10 ^ n := by
  induction n with
  | zero => intro acc; show acc = acc * 10 ^ 0; rw [Nat.pow_zero]; omega
  | succ n ih =>
    intro acc
    show valFrom (acc * 10 + 0) (zeros n) = acc * 10 ^ (n + 1)
    rw [ih, Nat.add_zero, Nat.pow_succ, Nat.mul_assoc, Nat.mul_comm 10]

/-- a part's digits, with as many zeros as are lacking, tell the part in units of the last digit -/
theorem digs_val (f : Nat) : ∀ p : Nat, p < 65536 → f ≤ 16 → 2 ^ (16 - f) ∣ p → 65536 * valFrom 0 (digs f p ++ zeros (f - (digs f p).length)) = p * 10 ^ f := by
  induction f with
  | zero =>
    intro p hp _ hd
    have h0 : p = 0 := by
      obtain ⟨m, hm⟩ := hd
      simp at hm; omega
    subst h0
    rfl
  | succ i ih =>
    intro p hp hf hd
    by_cases h0 : p = 0
    · subst h0; rw [digs_zero, List.nil_append, val_zeros, Nat.zero_mul, Nat.zero_mul]
    · obtain ⟨i', hi, hdg, hd2, hq2⟩ := digs_step hp h0 hf hd
      obtain rfl : i' = i := by omega
      have ih := ih (p * 10 % 65536) hq2 (by omega) hd2
      have hl := digs_length i' (p * 10 % 65536)
      have e : (UInt8.ofNat (48 + p * 10 / 65536)).toNat = 48 + p * 10 / 65536 := UInt8.toNat_ofNat_of_lt' (by simp [UInt8.size]; omega)
      rw [hdg, List.length_cons, show i' + 1 - ((digs i' (p * 10 % 65536)).length + 1) = i' - (digs i' (p * 10 % 65536)).length by omega, List.cons_append]
      show 65536 * valFrom (0 * 10 + ((UInt8.ofNat (48 + p * 10 / 65536)).toNat - 48)) (digs i' (p * 10 % 65536) ++ zeros (i' - (digs i' (p * 10 % 65536)).length)) = p * 10 ^ (i' + 1)
      rw [valFrom_lin, e]
      have hlen : (digs i' (p * 10 % 65536) ++ zeros (i' - (digs i' (p * 10 % 65536)).length)).length = i' := by simp [zeros]; omega
      rw [hlen, Nat.mul_add, ih, Nat.pow_succ]
      have hm := Nat.div_add_mod (p * 10) 65536
      have e1 : 65536 * ((0 * 10 + (48 + p * 10 / 65536 - 48)) * 10 ^ i') = 65536 * (p * 10 / 65536) * 10 ^ i' := by rw [show 0 * 10 + (48 + p * 10 / 65536 - 48) = p * 10 / 65536 by omega, Nat.mul_assoc]
      rw [e1, ← Nat.add_mul, hm, Nat.mul_assoc, Nat.mul_comm 10]

theorem digs_units (p : Nat) (hp : p < 65536) : valFrom 0 (digs 16 p ++ zeros (16 - (digs 16 p).length)) = p * 152587890625 := by
  have := digs_val 16 p hp (by omega) (by simp)
  omega

/-- a part's digits, from the last one on, each taken with what is behind it -/
def partOf : List UInt8 → Nat
  | [] => 0
  | c :: r => (partOf r + (c.toNat - 48) * 65536) / 10

theorem partOf_digs (f : Nat) : ∀ p : Nat, p < 65536 → f ≤ 16 → 2 ^ (16 - f) ∣ p → partOf (digs f p) = p := by
  induction f with
  | zero =>
    intro p hp _ hd
    have h0 : p = 0 := by
      obtain ⟨m, hm⟩ := hd
      simp at hm; omega
    subst h0
    rfl
  | succ i ih =>
    intro p hp hf hd
    by_cases h0 : p = 0
    · subst h0; rw [digs_zero]; rfl
    · obtain ⟨i', hi, hdg, hd2, hq2⟩ := digs_step hp h0 hf hd
      obtain rfl : i' = i := by omega
      have e : (UInt8.ofNat (48 + p * 10 / 65536)).toNat = 48 + p * 10 / 65536 := UInt8.toNat_ofNat_of_lt' (by simp [UInt8.size]; omega)
      rw [hdg]
      show (partOf (digs i' (p * 10 % 65536)) + ((UInt8.ofNat (48 + p * 10 / 65536)).toNat - 48) * 65536) / 10 = p
      rw [ih _ hq2 (by omega) hd2, e]
      omega

theorem no_dot {l : List UInt8} (h : ∀ c ∈ l, dgt c) : ∀ c ∈ l, c ≠ 46 ∧ c ≠ 45 := by
  intro c hc
  have := h c hc
  unfold dgt at this
  constructor <;> (intro e; rw [e] at this; simp at this)
end Go.Proofs.YtcgafhpbcdmigaaDoor.Pl
