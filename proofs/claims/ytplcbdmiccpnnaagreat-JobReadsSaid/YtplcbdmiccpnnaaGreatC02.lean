/- The plain arithmetic of waves: numbers over Int. No program in sight. -/
import Derived.Test.YtplcbdmiccpnnaaGreatC01
namespace Go.Proofs.YtplcbdmiccpnnaaGreat.Pl

/-- a quarter's product: what an arch is made of -/
def bow (y : Int) : Int := mul y (65536 - y)

/-- the wave over half a turn -/
def arch (y : Int) : Int := div (16 * bow y) (327680 - 4 * bow y)

/-- the wave at a turn -/
def sin (t : Int) : Int := if held t % 65536 < 32768 then arch (2 * (held t % 65536)) else -arch (2 * (held t % 65536) - 65536)

def cos (t : Int) : Int := sin (held t % 65536 + 16384)

def ease (t : Int) : Int := mul (mul (unit t) (unit t)) (196608 - 2 * unit t)

theorem prod_bd {y : Int} (h0 : 0 ≤ y) (h1 : y ≤ 65536) : 0 ≤ y * (65536 - y) ∧ y * (65536 - y) ≤ 1073741824 := by
  have a : 0 ≤ y * (65536 - y) := Int.mul_nonneg h0 (by omega)
  have b : 0 ≤ (y - 32768) * (y - 32768) := by
    rcases Int.le_total 32768 y with h | h
    · exact Int.mul_nonneg (by omega) (by omega)
    · have := Int.mul_nonneg (a := 32768 - y) (b := 32768 - y) (by omega) (by omega)
      rwa [show (32768 - y) * (32768 - y) = (y - 32768) * (y - 32768) by simp only [Int.sub_mul, Int.mul_sub]; omega] at this
  simp only [Int.sub_mul, Int.mul_sub] at a b ⊢
  omega

theorem bow_eq {y : Int} (h0 : 0 ≤ y) (h1 : y ≤ 65536) : y * (65536 - y) / 65536 = bow y := by
  have ⟨a, b⟩ := prod_bd h0 h1
  unfold bow mul
  rw [held_in (n := y) (by omega) (by omega), held_in (n := 65536 - y) (by omega) (by omega), held_in (by omega) (by omega)]

theorem bow_bd {y : Int} (h0 : 0 ≤ y) (h1 : y ≤ 65536) : 0 ≤ bow y ∧ bow y ≤ 16384 := by
  have ⟨a, b⟩ := prod_bd h0 h1
  rw [← bow_eq h0 h1]
  omega

theorem arch_bd {y : Int} (h0 : 0 ≤ y) (h1 : y ≤ 65536) : 0 ≤ arch y ∧ arch y ≤ 65536 := by
  have ⟨a, b⟩ := bow_bd h0 h1
  unfold arch div
  generalize bow y = p at *
  rw [held_in (n := 327680 - 4 * p) (by omega) (by omega), held_in (n := 16 * p) (by omega) (by omega), if_neg (by omega), if_neg (by omega)]
  have q0 : 0 ≤ 16 * p * 65536 / (327680 - 4 * p) := Int.ediv_nonneg (by omega) (by omega)
  have q1 : 16 * p * 65536 / (327680 - 4 * p) ≤ 65536 := Int.ediv_le_of_le_mul (by omega) (by omega)
  rw [held_in (by omega) (by omega)]
  exact ⟨q0, q1⟩

theorem sin_bd (t : Int) : -65536 ≤ sin t ∧ sin t ≤ 65536 := by
  unfold sin
  split
  · have := arch_bd (y := 2 * (held t % 65536)) (by omega) (by omega); omega
  · have := arch_bd (y := 2 * (held t % 65536) - 65536) (by omega) (by omega); omega

theorem cos_bd (t : Int) : -65536 ≤ cos t ∧ cos t ≤ 65536 := sin_bd _

theorem sin_half {t : Int} (h0 : 0 ≤ t) (h1 : t ≤ 1073741824) : sin (t + 32768) = -sin t := by
  unfold sin
  rw [held_in (n := t + 32768) (by omega) (by omega), held_in (n := t) (by omega) (by omega)]
  by_cases h : t % 65536 < 32768
  · rw [if_pos h, if_neg (by omega)]; congr 2; omega
  · rw [if_neg h, if_pos (by omega), Int.neg_neg]; congr 1; omega

/-- whole turns change nothing -/
theorem sin_turn {t u : Int} (h0 : -2147483648 ≤ t) (h1 : t ≤ 2147483648) (g0 : -2147483648 ≤ u) (g1 : u ≤ 2147483648) (h : t % 65536 = u % 65536) : sin t = sin u := by
  unfold sin
  rw [held_in h0 h1, held_in g0 g1, h]

theorem ease_unit {t : Int} : 0 ≤ unit t ∧ unit t ≤ 65536 := ⟨unit_lo t, unit_hi t⟩

/-- the smooth way lies between nothing and one -/
theorem ease_bd (t : Int) : 0 ≤ ease t ∧ ease t ≤ 65536 := by
  have u0 := unit_lo t
  have u1 := unit_hi t
  unfold ease mul
  generalize unit t = u at *
  have a : 0 ≤ u * u := Int.mul_nonneg u0 u0
  have b : 0 ≤ (65536 - u) * (65536 + u) := Int.mul_nonneg (by omega) (by omega)
  have b' : u * u ≤ 4294967296 := by simp only [Int.sub_mul, Int.mul_add] at b; omega
  rw [held_in (n := u) (by omega) (by omega), held_in (n := 196608 - 2 * u) (by omega) (by omega)]
  rw [held_in (n := u * u / 65536) (by omega) (by omega)]
  obtain ⟨s, hs⟩ : ∃ s, s = u * u / 65536 := ⟨_, rfl⟩
  rw [← hs]
  have s0 : 0 ≤ s := by omega
  have s1 : s * 65536 ≤ u * u := by omega
  rw [held_in (n := s) (by omega) (by omega)]
  have p0 : 0 ≤ s * (196608 - 2 * u) := Int.mul_nonneg s0 (by omega)
  have p1 : s * (196608 - 2 * u) ≤ 4294967296 := by
    -- s ≤ u²/65536, and u²(3·65536 - 2u) ≤ 65536³
    have k1 : s * 65536 * (196608 - 2 * u) ≤ u * u * (196608 - 2 * u) := Int.mul_le_mul_of_nonneg_right s1 (by omega)
    have k2 : u * u * (196608 - 2 * u) ≤ 281474976710656 := by
      have c1 : 0 ≤ (65536 - u) * (65536 - u) * (65536 + 2 * u) := Int.mul_nonneg (Int.mul_nonneg (by omega) (by omega)) (by omega)
      have e1 : (65536 - u) * (65536 - u) * (65536 + 2 * u) = 281474976710656 - u * u * (196608 - 2 * u) := by
        have x3 : u * (2 * u) = 2 * (u * u) := by rw [Int.mul_left_comm]
        have x4 : u * u * (2 * u) = 2 * (u * u * u) := by rw [Int.mul_left_comm]
        have x5 : u * 65536 * (2 * u) = 131072 * (u * u) := by rw [Int.mul_comm u 65536, Int.mul_assoc, x3]; omega
        have x6 : u * u * 196608 = 196608 * (u * u) := Int.mul_comm _ _
        have x7 : 65536 * u * (2 * u) = 131072 * (u * u) := by rw [Int.mul_assoc, x3]; omega
        have x8 : u * u * 65536 = 65536 * (u * u) := Int.mul_comm _ _
        simp only [Int.sub_mul, Int.mul_sub, Int.mul_add]
        generalize u * u * u = c at *
        generalize u * u = d at *
        omega
      omega
    have k3 : s * 65536 * (196608 - 2 * u) = s * (196608 - 2 * u) * 65536 := by rw [Int.mul_assoc, Int.mul_assoc, Int.mul_comm 65536]
    omega
  rw [held_in (by omega) (by omega)]
  omega
theorem unit_ease (t : Int) : unit (ease t) = ease t := by
  have := ease_bd t
  unfold unit
  rw [if_neg (by omega), if_neg (by omega)]

theorem tmod_turn {h : Int} (h0 : -2147483648 ≤ h) (h1 : h ≤ 2147483648) (t : Int) (e : held t = h) : -65536 < h.tmod 65536 ∧ h.tmod 65536 < 65536 ∧ sin (h.tmod 65536 + 16384) = cos t := by
  have b : -65536 < h.tmod 65536 ∧ h.tmod 65536 < 65536 ∧ h.tmod 65536 % 65536 = h % 65536 := by
    rcases Int.lt_or_le h 0 with hn | hn
    · have e2 : h.tmod 65536 = -((-h) % 65536) := by
        have e : h = -(-h) := by omega
        rw [e, Int.neg_tmod, Int.tmod_eq_emod_of_nonneg (by omega)]; simp
      omega
    · rw [Int.tmod_eq_emod_of_nonneg hn]; omega
  refine ⟨b.1, b.2.1, ?_⟩
  unfold cos
  rw [e]
  exact sin_turn (by omega) (by omega) (by omega) (by omega) (by omega)
end Go.Proofs.YtplcbdmiccpnnaaGreat.Pl
