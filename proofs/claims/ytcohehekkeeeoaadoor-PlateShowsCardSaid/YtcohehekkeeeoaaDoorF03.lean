/- The plain arithmetic of lights: how a number is shown. No program in sight. -/
import Derived.Test.YtcohehekkeeeoaaDoorF02
namespace Go.Proofs.YtcohehekkeeeoaaDoor.Pl

/-- what of a number isn't below nothing -/
def pos (x : Int) : Int := if x < 0 then 0 else x

theorem pos_max (x : Int) : max x 0 = pos x := by
  unfold pos; split <;> omega

def share (p : Int) : Int := div p (add p 65536)

/-- how a number is shown -/
def tone (x : Int) : Int := root (share (pos x))

def shade (y : Int) : Int := (255 * unit y + 32768) / 65536

theorem held_pos_eq (x : Int) : held (pos x) = pos (held x) := by
  unfold pos held; repeat' split
  all_goals omega

theorem share_held (p : Int) : share (held p) = share p := by
  unfold share div add; simp only [held_held]

theorem tone_held (x : Int) : root (share (pos (held x))) = tone x := by
  rw [← held_pos_eq, share_held]; rfl

theorem add_one {p : Int} (h0 : 0 ≤ p) (h1 : p ≤ 2147483648) : add p 65536 = if p + 65536 ≤ 2147483648 then p + 65536 else 2147483648 := by
  unfold add
  rw [held_in (n := p) (by omega) h1, held_in (n := 65536) (by omega) (by omega)]
  unfold held; repeat' split
  all_goals omega

theorem share_eq {p : Int} (h0 : 0 ≤ p) (h1 : p ≤ 2147483648) : share p = p * 65536 / (if p + 65536 ≤ 2147483648 then p + 65536 else 2147483648) ∧ 0 ≤ share p ∧ share p ≤ 65536 := by
  have hq : add p 65536 = if p + 65536 ≤ 2147483648 then p + 65536 else 2147483648 := add_one h0 h1
  have hb : p * 65536 / (if p + 65536 ≤ 2147483648 then p + 65536 else 2147483648) ≤ 65536 := by
    split
    · exact Int.ediv_le_of_le_mul (by omega) (by omega)
    · exact Int.ediv_le_of_le_mul (by omega) (by omega)
  have ha : 0 ≤ p * 65536 / (if p + 65536 ≤ 2147483648 then p + 65536 else 2147483648) := by
    split
    · exact Int.ediv_nonneg (by omega) (by omega)
    · exact Int.ediv_nonneg (by omega) (by omega)
  have he : share p = p * 65536 / (if p + 65536 ≤ 2147483648 then p + 65536 else 2147483648) := by
    unfold share div
    rw [hq]
    have hh : held (if p + 65536 ≤ 2147483648 then p + 65536 else 2147483648) = (if p + 65536 ≤ 2147483648 then p + 65536 else 2147483648) := held_in (by split <;> omega) (by split <;> omega)
    rw [hh, held_in (n := p) (by omega) h1, if_neg (by split <;> omega), if_neg (by split <;> omega), held_in (by omega) (by omega)]
  exact ⟨he, by omega, by omega⟩

theorem frac_mono {p r c d : Int} (hc : 0 < c) (hd : 0 < d) (h : p * d ≤ r * c) : p * 65536 / c ≤ r * 65536 / d := by
  rw [Int.le_ediv_iff_mul_le hd]
  have k : p * 65536 / c * c ≤ p * 65536 := Int.ediv_mul_le _ (by omega)
  have k2 : p * 65536 / c * c * d ≤ p * 65536 * d := Int.mul_le_mul_of_nonneg_right k (by omega)
  have k3 : p * d * 65536 ≤ r * c * 65536 := Int.mul_le_mul_of_nonneg_right h (by omega)
  have e1 : p * 65536 / c * c * d = p * 65536 / c * d * c := by rw [Int.mul_assoc, Int.mul_comm c d, ← Int.mul_assoc]
  have e2 : p * 65536 * d = p * d * 65536 := by rw [Int.mul_assoc, Int.mul_comm 65536 d, ← Int.mul_assoc]
  have e3 : r * c * 65536 = r * 65536 * c := by rw [Int.mul_assoc, Int.mul_comm c 65536, ← Int.mul_assoc]
  have k4 : p * 65536 / c * d * c ≤ r * 65536 * c := by rw [← e1, ← e3]; omega
  exact Int.le_of_mul_le_mul_right k4 hc

theorem share_mono {p r : Int} (h0 : 0 ≤ p) (h : p ≤ r) (h1 : r ≤ 2147483648) : share p ≤ share r := by
  obtain ⟨e1, -, -⟩ := share_eq h0 (by omega : p ≤ 2147483648)
  obtain ⟨e2, -, -⟩ := share_eq (by omega : 0 ≤ r) h1
  rw [e1, e2]
  refine frac_mono (by split <;> omega) (by split <;> omega) ?_
  by_cases hr : r + 65536 ≤ 2147483648
  · rw [if_pos hr, if_pos (by omega)]
    rw [Int.mul_add, Int.mul_add, Int.mul_comm r p]; omega
  · rw [if_neg hr]
    by_cases hp : p + 65536 ≤ 2147483648
    · rw [if_pos hp]
      have k1 : 0 ≤ (r - p) * 65536 := Int.mul_nonneg (by omega) (by omega)
      have k2 : p * 2147483648 ≤ p * (r + 65536) := Int.mul_le_mul_of_nonneg_left (by omega) h0
      rw [Int.mul_add] at k2 ⊢
      rw [Int.mul_comm r p]
      omega
    · rw [if_neg hp]; omega

theorem rt_mono {n m : Nat} (h : n ≤ m) : rt n ≤ rt m := le_rt (Nat.le_trans (rt_spec n).1 h)

theorem root_mono {a b : Int} (h : a ≤ b) : root a ≤ root b := by
  unfold root
  by_cases ha : a ≤ 0
  · rw [if_pos ha]; split <;> omega
  · rw [if_neg ha, if_neg (by omega)]
    have hm := held_mono h
    have hp := held_pos (n := a) (by omega)
    have : rt ((held a).toNat * 65536) ≤ rt ((held b).toNat * 65536) := rt_mono (Nat.mul_le_mul_right _ (by omega))
    omega

theorem root_nonneg (a : Int) : 0 ≤ root a := by unfold root; split <;> omega

theorem root_one : root 65536 = 65536 := by
  unfold root
  rw [if_neg (by omega), held_in (by omega) (by omega), rt_uniq (r := 65536) (by decide) (by decide)]; rfl

theorem pos_mono {a b : Int} (h : a ≤ b) : pos a ≤ pos b := by
  unfold pos; repeat' split
  all_goals omega
theorem pos_lo (a : Int) : 0 ≤ pos a := by unfold pos; split <;> omega

theorem tone_mono {a b : Int} (h : a ≤ b) : tone a ≤ tone b := by
  rw [← tone_held a, ← tone_held b]
  have b0 : pos (held b) ≤ 2147483648 := by have := held_hi b; unfold pos; split <;> omega
  exact root_mono (share_mono (pos_lo _) (pos_mono (held_mono h)) b0)

theorem tone_bd (a : Int) : 0 ≤ tone a ∧ tone a ≤ 65536 := by
  refine ⟨root_nonneg _, ?_⟩
  rw [← tone_held a, ← root_one]
  have b0 : pos (held a) ≤ 2147483648 := by have := held_hi a; unfold pos; split <;> omega
  exact root_mono (share_eq (pos_lo _) b0).2.2

theorem shade_bd (y : Int) : 0 ≤ shade y ∧ shade y ≤ 255 := by
  have := unit_lo y; have := unit_hi y; unfold shade; omega

theorem unit_mono {a b : Int} (h : a ≤ b) : unit a ≤ unit b := by
  unfold unit; repeat' split
  all_goals omega
theorem shade_mono {a b : Int} (h : a ≤ b) : shade a ≤ shade b := by
  have := unit_mono h; unfold shade; omega

theorem tone_one : tone 65536 = 46340 := by
  have e : share (pos 65536) = 32768 := by decide
  unfold tone
  rw [e]
  unfold root
  rw [if_neg (by omega), held_in (by omega) (by omega), rt_uniq (r := 46340) (by decide) (by decide)]; rfl

theorem tone_zero : tone 0 = 0 := by decide

theorem shade_one : shade 65536 = 255 := by decide

theorem shade_zero : shade 0 = 0 := by decide
end Go.Proofs.YtcohehekkeeeoaaDoor.Pl
