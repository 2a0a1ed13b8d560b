/- Layer 22, the document's tables: roots, bit by bit. -/
import Derived.Test.YtndpidmbfdpiaaaDoorK35
namespace Go.Proofs.YtndpidmbfdpiaaaDoor.Se
open Go Go.RowKit Go.Proofs.YtndpidmbfdpiaaaDoor Go.Proofs.YtndpidmbfdpiaaaDoor.Au Go.Proofs.YtndpidmbfdpiaaaDoor.Re
set_option linter.unusedVariables false
set_option linter.unusedSimpArgs false

/-- is x, of 32 bits behind the point, squared, at most n? -/
def halfB (x n : Nat) : Bool :=
  let a := x / 4294967296
  let b := x % 4294967296
  let c := 2 * a * b
  let low := c % 4294967296 * 4294967296
  let sum := (low + b * b) % 18446744073709551616
  let high := a * a + c / 4294967296
  let up := if sum < low then high + 1 else high
  decide (up < n) || (decide (up = n) && decide (sum = 0))

/-- a number found bit by bit -/
def srch (P : Nat → Bool) (top : Nat) : Nat → Nat
  | 0 => 0
  | j + 1 => if P (srch P top j + top / 2 ^ j) then srch P top j + top / 2 ^ j else srch P top j

theorem bit_half (top j : Nat) : top / 2 ^ j / 2 = top / 2 ^ (j + 1) := by
  rw [Nat.div_div_eq_div_mul, Nat.pow_succ]

theorem srch_le (P : Nat → Bool) (top : Nat) : ∀ j, srch P top j + 2 * (top / 2 ^ j) ≤ 2 * top
  | 0 => by simp [srch]
  | j + 1 => by
    have ih := srch_le P top j
    have hb := bit_half top j
    simp only [srch]
    split <;> omega

theorem wrap64 (x : Int) (h0 : 0 ≤ x) (h : x < 18446744073709551616) : IntKind.u64.wrap x = x := by
  rw [IntKind.wrap_u64]; omega

set_option maxHeartbeats 4000000 in
set_option maxRecDepth 100000 in
theorem half_any (x n : Nat) (w : World) (hx : x < 137438953472) : Calls Tryd.prog 36 #[.int .u64 (x : Int), .int .u64 (n : Int)] w fun e w' => e = .returned (.bool (halfB x n)) ∧ Below w.heap.size w w' := by
  obtain ⟨a, ha⟩ : ∃ a : Nat, a = x / 4294967296 := ⟨_, rfl⟩
  obtain ⟨b, hb⟩ : ∃ b : Nat, b = x % 4294967296 := ⟨_, rfl⟩
  have hab : a < 32 := by omega
  have hbb : b < 4294967296 := by omega
  have e1 : (x : Int) / 4294967296 = (a : Int) := by omega
  have e2 : (x : Int) % 4294967296 = (b : Int) := by omega
  obtain ⟨aa, haa⟩ : ∃ c : Nat, c = a * a := ⟨_, rfl⟩
  obtain ⟨a2, ha2⟩ : ∃ c : Nat, c = 2 * a := ⟨_, rfl⟩
  obtain ⟨c, hc⟩ : ∃ c : Nat, c = a2 * b := ⟨_, rfl⟩
  obtain ⟨bb, hbb2⟩ : ∃ c : Nat, c = b * b := ⟨_, rfl⟩
  have baa : aa ≤ 31 * 31 := by rw [haa]; exact Nat.mul_le_mul (by omega) (by omega)
  have bc : c ≤ 62 * 4294967295 := by rw [hc]; exact Nat.mul_le_mul (by omega) (by omega)
  have bbb : bb ≤ 4294967295 * 4294967295 := by rw [hbb2]; exact Nat.mul_le_mul (by omega) (by omega)
  have e3 : (a : Int) * (a : Int) = (aa : Int) := by rw [haa]; push_cast; rfl
  have e4 : 2 * (a : Int) = (a2 : Int) := by omega
  have e5 : (a2 : Int) * (b : Int) = (c : Int) := by rw [hc]; push_cast; rfl
  have e6 : (b : Int) * (b : Int) = (bb : Int) := by rw [hbb2]; push_cast; rfl
  obtain ⟨ch, hch⟩ : ∃ z : Nat, z = c / 4294967296 := ⟨_, rfl⟩
  obtain ⟨cl, hcl⟩ : ∃ z : Nat, z = c % 4294967296 := ⟨_, rfl⟩
  obtain ⟨low, hlow⟩ : ∃ z : Nat, z = cl * 4294967296 := ⟨_, rfl⟩
  obtain ⟨high, hhigh⟩ : ∃ z : Nat, z = aa + ch := ⟨_, rfl⟩
  obtain ⟨sum, hsum⟩ : ∃ z : Nat, z = (low + bb) % 18446744073709551616 := ⟨_, rfl⟩
  have e7 : (c : Int) / 4294967296 = (ch : Int) := by omega
  have e8 : (c : Int) % 4294967296 = (cl : Int) := by omega
  have e9 : (cl : Int) * 4294967296 = (low : Int) := by omega
  have e10 : (aa : Int) + (ch : Int) = (high : Int) := by omega
  have e11 : ((low : Int) + (bb : Int)) % 18446744073709551616 = (sum : Int) := by omega
  have w1 : IntKind.u64.wrap (aa : Int) = (aa : Int) := wrap64 _ (by omega) (by omega)
  have w2 : IntKind.u64.wrap (a2 : Int) = (a2 : Int) := wrap64 _ (by omega) (by omega)
  have w3 : IntKind.u64.wrap (c : Int) = (c : Int) := wrap64 _ (by omega) (by omega)
  have w4 : IntKind.u64.wrap (low : Int) = (low : Int) := wrap64 _ (by omega) (by omega)
  have w5 : IntKind.u64.wrap (high : Int) = (high : Int) := wrap64 _ (by omega) (by omega)
  have w6 : IntKind.u64.wrap (bb : Int) = (bb : Int) := wrap64 _ (by omega) (by omega)
  have m1 : (aa : Int) % 18446744073709551616 = (aa : Int) := by omega
  have m2 : (a2 : Int) % 18446744073709551616 = (a2 : Int) := by omega
  have m3 : (c : Int) % 18446744073709551616 = (c : Int) := by omega
  have m4 : (low : Int) % 18446744073709551616 = (low : Int) := by omega
  have m5 : (high : Int) % 18446744073709551616 = (high : Int) := by omega
  have m6 : (bb : Int) % 18446744073709551616 = (bb : Int) := by omega
  have w7 : IntKind.u64.wrap ((low : Int) + (bb : Int)) = (sum : Int) := by rw [IntKind.wrap_u64]; exact e11
  have HH := Lib.hid (show halfB x n = (decide ((if sum < low then high + 1 else high) < n) || (decide ((if sum < low then high + 1 else high) = n) && decide (sum = 0))) by
    unfold halfB
    simp only [← ha, ← hb, ← ha2, ← hc, ← haa, ← hbb2, ← hcl, ← hch, ← hlow, ← hhigh, ← hsum])
  clear ha hb haa ha2 hc hbb2 hch hcl hlow hhigh hsum
  by_cases hcar : sum < low
  · have hcar' : (sum : Int) < (low : Int) := by omega
    obtain ⟨up, hup⟩ : ∃ z : Nat, z = high + 1 := ⟨_, rfl⟩
    have e12 : (high : Int) + 1 = (up : Int) := by omega
    have w8 : IntKind.u64.wrap (up : Int) = (up : Int) := wrap64 _ (by omega) (by omega)
    have m8 : (up : Int) % 18446744073709551616 = (up : Int) := by omega
    have HR := Lib.hid (show halfB x n = (decide (up < n) || (decide (up = n) && decide (sum = 0))) by rw [HH.out, if_pos hcar, ← hup])
    clear hup
    by_cases h1 : up < n
    · have h1' : (up : Int) < (n : Int) := by omega
      go_enter Tryd.func36, Tryd.ntmps36
      go_wp2_with fail
      go_ret
      exact ⟨by rw [HR.out]; simp [h1], Below.refl _ _⟩
    · have h1' : ¬ (up : Int) < (n : Int) := by omega
      by_cases h2 : up = n
      · have h2' : (up : Int) = (n : Int) := by omega
        go_enter Tryd.func36, Tryd.ntmps36
        go_wp2_with fail
        go_ret
        exact ⟨by rw [HR.out]; simp [h1, h2]; rw [Bool.eq_iff_iff]; simp; try omega, Below.refl _ _⟩
      · have h2' : ¬ (up : Int) = (n : Int) := by omega
        go_enter Tryd.func36, Tryd.ntmps36
        go_wp2_with fail
        go_ret
        exact ⟨by rw [HR.out]; simp [h1, h2], Below.refl _ _⟩
  · have hcar' : ¬ (sum : Int) < (low : Int) := by omega
    have HR := Lib.hid (show halfB x n = (decide (high < n) || (decide (high = n) && decide (sum = 0))) by rw [HH.out, if_neg hcar])
    by_cases h1 : high < n
    · have h1' : (high : Int) < (n : Int) := by omega
      go_enter Tryd.func36, Tryd.ntmps36
      go_wp2_with fail
      go_ret
      exact ⟨by rw [HR.out]; simp [h1], Below.refl _ _⟩
    · have h1' : ¬ (high : Int) < (n : Int) := by omega
      by_cases h2 : high = n
      · have h2' : (high : Int) = (n : Int) := by omega
        go_enter Tryd.func36, Tryd.ntmps36
        go_wp2_with fail
        go_ret
        exact ⟨by rw [HR.out]; simp [h1, h2]; rw [Bool.eq_iff_iff]; simp; try omega, Below.refl _ _⟩
      · have h2' : ¬ (high : Int) = (n : Int) := by omega
        go_enter Tryd.func36, Tryd.ntmps36
        go_wp2_with fail
        go_ret
        exact ⟨by rw [HR.out]; simp [h1, h2], Below.refl _ _⟩

theorem bit_pos : ∀ j : Fin 38, (0 < 68719476736 / 2 ^ j.val) ↔ j.val < 37 := by decide +kernel

def rootN (n : Nat) : Nat := srch (fun x => halfB x n) 68719476736 37 % 4294967296

set_option maxHeartbeats 4000000 in
set_option maxRecDepth 100000 in
theorem root_any (n : Nat) (w : World) : Calls Tryd.prog 21 #[.int .u64 (n : Int)] w fun e w' => e = .returned (.int .u32 (rootN n : Int)) ∧ Below w.heap.size w w' := by
  go_enter Tryd.func21, Tryd.ntmps21
  go_wp2_with fail
  go_loopw [3, 4] (fun xv bv wr => ∃ (j x b : Nat), j ≤ 37 ∧ xv = .int .u64 (x : Int) ∧ bv = .int .u64 (b : Int) ∧ Hid (x = srch (fun x => halfB x n) 68719476736 j) ∧ Hid (b = 68719476736 / 2 ^ j) ∧ x + 2 * b ≤ 137438953472 ∧ (0 < b ↔ j < 37) ∧ Hid (Below w.heap.size w wr)) (fun _ bv _ => (intOf bv).toNat)
  case atStart => exact ⟨0, 0, 68719476736, by omega, rfl, rfl, Lib.hid rfl, Lib.hid (by decide), by omega, by omega, Lib.hid (Below.refl _ _)⟩
  case round =>
    obtain ⟨j, x, b, hj, rfl, rfl, HX, HB, hxb, hbj, HU⟩ := hrel
    by_cases hb : 0 < b
    · have hb' : 0 < (b : Int) := by omega
      have hj37 : j < 37 := hbj.1 hb
      obtain ⟨y, hy⟩ : ∃ y : Nat, y = x + b := ⟨_, rfl⟩
      have e1 : (x : Int) + (b : Int) = (y : Int) := by omega
      have w1 : IntKind.u64.wrap (y : Int) = (y : Int) := wrap64 _ (by omega) (by omega)
      have m1 : (y : Int) % 18446744073709551616 = (y : Int) := by omega
      obtain ⟨b2, hb2⟩ : ∃ z : Nat, z = b / 2 := ⟨_, rfl⟩
      have e2 : (b : Int) / 2 = (b2 : Int) := by omega
      have HB2 := Lib.hid (show b2 = 68719476736 / 2 ^ (j + 1) by rw [hb2, HB.out, bit_half])
      have hbj2 : 0 < b2 ↔ j + 1 < 37 := by rw [HB2.out]; exact bit_pos ⟨j + 1, by omega⟩
      have hy37 : y < 137438953472 := by omega
      have HY := Lib.hid hy
      have hb2l : 2 * b2 ≤ b := by omega
      have hb2b : b2 < b := by omega
      have hyb : y + 2 * b2 ≤ 137438953472 := by omega
      have hxb2 : x + 2 * b2 ≤ 137438953472 := by omega
      clear hy hb2 hbj
      go_wp2_with fail
      refine (half_any y n _ hy37).mono ?_
      rintro e y1 ⟨rfl, hb1⟩
      have HU1 := Lib.hid (HU.out.trans (hb1.mono HU.out.size))
      by_cases hh : halfB y n = true
      · have HX2 := Lib.hid (show y = srch (fun x => halfB x n) 68719476736 (j + 1) by simp only [srch]; rw [← HX.out, ← HB.out, ← HY.out, if_pos hh])
        rw [hh]
        go_wp2_with fail
        go_roundw
        case rel => exact ⟨j + 1, y, b2, by omega, rfl, rfl, HX2, HB2, hyb, hbj2, HU1⟩
        case measure => simp [intOf]; omega
      · have hf : halfB y n = false := by simpa using hh
        have HX2 := Lib.hid (show x = srch (fun x => halfB x n) 68719476736 (j + 1) by simp only [srch]; rw [← HX.out, ← HB.out, ← HY.out, if_neg hh])
        rw [hf]
        go_wp2_with fail
        go_roundw
        case rel => exact ⟨j + 1, x, b2, by omega, rfl, rfl, HX2, HB2, hxb2, hbj2, HU1⟩
        case measure => simp [intOf]; omega
    · have hb' : ¬ 0 < (b : Int) := by omega
      have HJ := Lib.hid (show j = 37 by omega)
      obtain ⟨r, hr⟩ : ∃ r : Nat, r = x % 4294967296 := ⟨_, rfl⟩
      have e1 : (x : Int) % 4294967296 = (r : Int) := by omega
      have w1 : IntKind.u32.wrap (r : Int) = (r : Int) := by rw [IntKind.wrap_u32']; omega
      have m1 : (r : Int) % 4294967296 = (r : Int) := by omega
      have HR := Lib.hid (show rootN n = r by unfold rootN; rw [hr, HX.out, HJ.out])
      clear hr
      go_wp2_with fail
      go_ret
      exact ⟨by rw [HR.out]; rfl, HU.out⟩

end Go.Proofs.YtndpidmbfdpiaaaDoor.Se
