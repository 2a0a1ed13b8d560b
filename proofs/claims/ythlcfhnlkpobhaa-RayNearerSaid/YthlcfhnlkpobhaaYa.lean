/- The plain arithmetic of rays: where a ray's points lie; which of some places is the first that shows. No program in sight. -/
import Derived.Test.YthlcfhnlkpobhaaPlain
namespace Go.Proofs.Ythlcfhnlkpobhaa.Yr

theorem mul_comm (a b : Int) : Pl.mul a b = Pl.mul b a := by unfold Pl.mul; rw [Int.mul_comm]

theorem mul_anti {a c : Int} (h : a ≤ c) {k : Int} (hk : k ≤ 0) : Pl.mul c k ≤ Pl.mul a k := by
  unfold Pl.mul
  refine Pl.held_mono ?_
  have hm := Pl.held_mono h
  have hk' : Pl.held k ≤ 0 := Pl.held_neg hk
  generalize Pl.held a = x at *
  generalize Pl.held c = y at *
  generalize Pl.held k = u at *
  have h1 : 0 ≤ (y - x) * (-u) := Int.mul_nonneg (by omega) (by omega)
  simp only [Int.sub_mul, Int.mul_neg] at h1
  omega

theorem add_mono_right {a c : Int} (h : a ≤ c) (b : Int) : Pl.add b a ≤ Pl.add b c := by
  unfold Pl.add; refine Pl.held_mono ?_; have := Pl.held_mono h; omega

/-- a number of a ray's point, so far on -/
def at1 (f d t : Int) : Int := Pl.add f (Pl.mul d t)

theorem at1_between (f d : Int) {lo t hi : Int} (h1 : lo ≤ t) (h2 : t ≤ hi) :
    min (at1 f d lo) (at1 f d hi) ≤ at1 f d t ∧ at1 f d t ≤ max (at1 f d lo) (at1 f d hi) := by
  unfold at1
  rw [mul_comm d lo, mul_comm d t, mul_comm d hi]
  rcases Int.le_total 0 d with h | h
  · have a := add_mono_right (Pl.mul_mono h1 h) f
    have b := add_mono_right (Pl.mul_mono h2 h) f
    omega
  · have a := add_mono_right (mul_anti h1 h) f
    have b := add_mono_right (mul_anti h2 h) f
    omega

/-! ### quotients, sums of squares, roots -/
theorem div_lo (a b : Int) : -2147483648 ≤ Pl.div a b := by
  unfold Pl.div
  split
  · split
    · omega
    · split <;> omega
  · split
    · exact Pl.held_lo _
    · exact Pl.held_lo _
theorem div_hi (a b : Int) : Pl.div a b ≤ 2147483648 := by
  unfold Pl.div
  split
  · split
    · omega
    · split <;> omega
  · split
    · exact Pl.held_hi _
    · exact Pl.held_hi _

theorem div_mono {a c b : Int} (h : a ≤ c) (hb : 0 < b) : Pl.div a b ≤ Pl.div c b := by
  have h0 : 0 < Pl.held b := Pl.held_pos hb
  unfold Pl.div
  rw [if_neg (by omega), if_neg (by omega), if_neg (by omega), if_neg (by omega)]
  refine Pl.held_mono (Int.ediv_le_ediv h0 ?_)
  have := Pl.held_mono h
  omega

theorem root_nonneg (a : Int) : 0 ≤ Pl.root a := by unfold Pl.root; split <;> omega

theorem square_nonneg (a : Int) : 0 ≤ Pl.mul a a := by
  unfold Pl.mul
  have h0 : 0 ≤ Pl.held a * Pl.held a := by
    rcases Int.le_total 0 (Pl.held a) with h | h
    · exact Int.mul_nonneg h h
    · have := Int.mul_nonneg (a := -Pl.held a) (b := -Pl.held a) (by omega) (by omega)
      rwa [Int.neg_mul_neg] at this
  have h1 : 0 ≤ Pl.held a * Pl.held a / 65536 := Int.ediv_nonneg h0 (by omega)
  have := Pl.held_mono h1
  rwa [Pl.held_in (n := 0) (by omega) (by omega)] at this

theorem add_nonneg {a b : Int} (h : 0 ≤ a) (k : 0 ≤ b) : 0 ≤ Pl.add a b := by
  unfold Pl.add
  have h1 := Pl.held_mono h
  have h2 := Pl.held_mono k
  rw [Pl.held_in (n := 0) (by omega) (by omega)] at h1 h2
  have h3 := Pl.held_mono (show 0 ≤ Pl.held a + Pl.held b by omega)
  rwa [Pl.held_in (n := 0) (by omega) (by omega)] at h3

/-- the inner product of two points -/
def dot (ax ay az bx by_ bz : Int) : Int := Pl.add (Pl.add (Pl.add 0 (Pl.mul ax bx)) (Pl.mul ay by_)) (Pl.mul az bz)

theorem dot_self (x y z : Int) : 0 ≤ dot x y z x y z :=
  add_nonneg (add_nonneg (add_nonneg (Int.le_refl 0) (square_nonneg x)) (square_nonneg y)) (square_nonneg z)

/-! ### where a ray meets a ball -/
/-- what is below the root -/
def under (a b d : Int) : Int := Pl.sub (Pl.mul b b) (Pl.mul a d)
def near1 (a b w : Int) : Int := Pl.div (Pl.sub (-Pl.held b) w) a
def far1 (a b w : Int) : Int := Pl.div (Pl.sub w b) a

theorem near_far {a b w : Int} (ha : 0 < a) (hw : 0 ≤ w) : near1 a b w ≤ far1 a b w := by
  unfold near1 far1
  refine div_mono ?_ ha
  unfold Pl.sub
  refine Pl.held_mono ?_
  have h0 := Pl.held_mono hw
  rw [Pl.held_in (n := 0) (by omega) (by omega)] at h0
  have h1 := Pl.held_lo b
  have h2 := Pl.held_hi b
  rw [Pl.held_in (n := -Pl.held b) (by omega) (by omega)]
  omega

/-! ### the first of some places that shows -/
def shows (ok : Int → Bool) (near far t : Int) : Bool := decide (near < t) && decide (t ≤ far) && ok t
def first (c : List Int) (ok : Int → Bool) (near far : Int) : Option Int := c.find? (shows ok near far)

theorem first_some {c : List Int} {ok : Int → Bool} {near far t : Int} (h : first c ok near far = some t) : t ∈ c ∧ near < t ∧ t ≤ far ∧ ok t = true := by
  have h1 := List.mem_of_find?_eq_some h
  have h2 := List.find?_some h
  simp [shows] at h2
  exact ⟨h1, h2.1.1, h2.1.2, h2.2⟩

theorem first_none {c : List Int} {ok : Int → Bool} {near far : Int} (h : first c ok near far = none) {f : Int} (hf : f ≤ far) : first c ok near f = none := by
  unfold first at *
  rw [List.find?_eq_none] at *
  intro x hx hs
  refine h x hx ?_
  simp [shows] at *
  exact ⟨⟨hs.1.1, by omega⟩, hs.2⟩

theorem first_less {c : List Int} {ok : Int → Bool} {near far t : Int} (hc : c.Pairwise (· ≤ ·)) (h : first c ok near far = some t) {f : Int} (hf : f < t) : first c ok near f = none := by
  unfold first at *
  rw [List.find?_eq_some_iff_append] at h
  obtain ⟨ht, as, bs, rfl, hn⟩ := h
  rw [List.find?_eq_none]
  intro x hx hs
  simp [shows] at ht hs
  rcases List.mem_append.1 hx with hx | hx
  · have := hn x hx
    simp [shows] at this
    rcases this with h9 | h9
    · omega
    · rw [hs.2] at h9; exact absurd h9 (by decide)
  · rcases List.mem_cons.1 hx with rfl | hx
    · omega
    · have := (List.pairwise_append.1 hc).2.1
      have := List.rel_of_pairwise_cons this hx
      omega

theorem first_same {c : List Int} {ok : Int → Bool} {near far t : Int} (h : first c ok near far = some t) : first c ok near t = some t := by
  unfold first at *
  rw [List.find?_eq_some_iff_append] at *
  obtain ⟨ht, as, bs, rfl, hn⟩ := h
  refine ⟨?_, as, bs, rfl, ?_⟩
  · simp [shows] at *; exact ⟨ht.1.1, ht.2⟩
  · intro x hx
    have := hn x hx
    simp [shows] at this ht ⊢
    rcases this with h9 | h9
    · left; omega
    · right; exact h9

end Go.Proofs.Ythlcfhnlkpobhaa.Yr
