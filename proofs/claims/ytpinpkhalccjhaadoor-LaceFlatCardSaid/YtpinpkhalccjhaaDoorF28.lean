/- Films: a pixel's past, and what is mixed, plainly. -/
import Derived.Test.YtpinpkhalccjhaaDoorF25
namespace Go.Proofs.YtpinpkhalccjhaaDoor.Fm
open Go Go.RowKit Go.Proofs.YtpinpkhalccjhaaDoor Go.Proofs.YtpinpkhalccjhaaDoor.Rp Go.Proofs.YtpinpkhalccjhaaDoor.Re Go.Proofs.YtpinpkhalccjhaaDoor.Au
set_option linter.unusedVariables false
set_option linter.unusedSimpArgs false

theorem mul_comm_ (a b : Int) : Pl.mul a b = Pl.mul b a := by unfold Pl.mul; rw [Int.mul_comm]

/-- the inner product of a pixel's normal and another one's -/
def ndot (N N' : Nat → Int) (i k : Nat) : Int := Pl.add (Pl.add (Pl.add 0 (Pl.mul (N (i * 3)) (N' (k * 3)))) (Pl.mul (N (i * 3 + 1)) (N' (k * 3 + 1)))) (Pl.mul (N (i * 3 + 2)) (N' (k * 3 + 2)))

theorem ndot_comm (N N' : Nat → Int) (i k : Nat) : ndot N N' i k = ndot N' N k i := by
  unfold ndot
  rw [mul_comm_ (N (i * 3)), mul_comm_ (N (i * 3 + 1)), mul_comm_ (N (i * 3 + 2))]

/-- the same is seen at a pixel of one film and that of another -/
def sameSeen (f g : Flm) (i k : Nat) : Prop := f.S i = g.S k ∧ 57344 ≤ ndot f.N g.N i k

instance (f g : Flm) (i k : Nat) : Decidable (sameSeen f g i k) := by unfold sameSeen; infer_instance

/-- a pixel has a past -/
def hasPast (f g : Flm) (i : Nat) : Prop := 0 ≤ f.F i ∧ f.F i < g.ns ∧ sameSeen f g i (f.F i).toNat

instance (f g : Flm) (i : Nat) : Decidable (hasPast f g i) := by unfold hasPast; infer_instance

/-- light that is mixed with that of the past -/
def blend (f g : Flm) (M : Nat → Int) : Nat → Int := fun j => if hasPast f g (j / 3) then Pl.lerp (f.L j) (M ((f.F (j / 3)).toNat * 3 + j % 3)) 32768 else f.L j

/-- how many of the first ones have a past -/
def keptN (f g : Flm) : Nat → Nat
  | 0 => 0
  | n + 1 => keptN f g n + (if hasPast f g n then 1 else 0)

theorem keptN_le (f g : Flm) (n : Nat) : keptN f g n ≤ n := by
  induction n with
  | zero => simp [keptN]
  | succ n ih => unfold keptN; split <;> omega

theorem keptN_zero (f g : Flm) (n : Nat) (h : keptN f g n = 0) : ∀ i, i < n → ¬ hasPast f g i := by
  induction n with
  | zero => intro i hi; omega
  | succ n ih =>
    intro i hi
    unfold keptN at h
    by_cases hn : hasPast f g n
    · rw [if_pos hn] at h; omega
    · rw [if_neg hn] at h
      rcases Nat.lt_or_ge i n with h' | h'
      · exact ih (by omega) i h'
      · obtain rfl : i = n := by omega
        exact hn

/-- light that is mixed as far as pixel m -/
def blendTo (f g : Flm) (M : Nat → Int) (m : Nat) : Nat → Int := fun j => if j < m * 3 then blend f g M j else f.L j

theorem blendTo_zero (f g : Flm) (M : Nat → Int) : blendTo f g M 0 = f.L := by funext j; simp [blendTo]

theorem blendTo_no (f g : Flm) (M : Nat → Int) (m : Nat) (h : ¬ hasPast f g m) : blendTo f g M (m + 1) = blendTo f g M m := by
  funext j
  unfold blendTo
  by_cases h1 : j < m * 3
  · rw [if_pos h1, if_pos (by omega)]
  · rw [if_neg h1]
    by_cases h2 : j < (m + 1) * 3
    · rw [if_pos h2]
      unfold blend
      rw [if_neg (by rw [show j / 3 = m by omega]; exact h)]
    · rw [if_neg h2]

theorem blendTo_yes (f g : Flm) (M : Nat → Int) (m : Nat) (h : hasPast f g m) (k : Nat) (hk : f.F m = k) (j : Nat) :
    blendTo f g M (m + 1) j = if j = m * 3 then Pl.lerp (f.L (m * 3)) (M (k * 3)) 32768 else if j = m * 3 + 1 then Pl.lerp (f.L (m * 3 + 1)) (M (k * 3 + 1)) 32768 else if j = m * 3 + 2 then Pl.lerp (f.L (m * 3 + 2)) (M (k * 3 + 2)) 32768 else blendTo f g M m j := by
  have hk' : (f.F m).toNat = k := by omega
  have e : ∀ c, c < 3 → blend f g M (m * 3 + c) = Pl.lerp (f.L (m * 3 + c)) (M (k * 3 + c)) 32768 := by
    intro c hc
    unfold blend
    rw [show (m * 3 + c) / 3 = m by omega, if_pos h, hk', show (m * 3 + c) % 3 = c by omega]
  unfold blendTo
  by_cases h0 : j = m * 3
  · subst h0
    rw [if_pos (by omega), if_pos rfl]
    exact e 0 (by omega)
  · rw [if_neg h0]
    by_cases h1 : j = m * 3 + 1
    · subst h1
      rw [if_pos (by omega), if_pos rfl]
      exact e 1 (by omega)
    · rw [if_neg h1]
      by_cases h2 : j = m * 3 + 2
      · subst h2
        rw [if_pos (by omega), if_pos rfl]
        exact e 2 (by omega)
      · rw [if_neg h2]
        by_cases h3 : j < m * 3
        · rw [if_pos h3, if_pos (by omega)]
        · rw [if_neg h3, if_neg (by omega)]

theorem blendTo_all (f g : Flm) (M : Nat → Int) (n j : Nat) (h : j < n * 3) : blendTo f g M n j = blend f g M j := if_pos h

/-- rows that are one as far as they go -/
theorem RwP.congr {P : Nat → Prop} {c : Nat} {w : World} {a : Option Addr} {n : Nat} {L L' : Nat → Int} (h : RwP P c w a n L) (e : ∀ j, j < n * c → L j = L' j) : RwP P c w a n L' := by
  rcases h with h | ⟨b, off, h1, h3, h4⟩
  · exact .inl h
  · exact .inr ⟨b, off, h1, h3, fun j hj => by rw [← e j hj]; exact h4 j hj⟩

end Go.Proofs.YtpinpkhalccjhaaDoor.Fm
