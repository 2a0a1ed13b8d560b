/- The plain arithmetic of layer 1 (numbers held in a span, rounded down), over Int and Nat: no program in sight. -/
namespace Go.Proofs.YtndpidmbfdpiaaaDoor.Pl

/-- held at the span's ends -/
def held (n : Int) : Int := if n > 2147483648 then 2147483648 else if n < -2147483648 then -2147483648 else n

theorem held_lo (n : Int) : -2147483648 ≤ held n := by unfold held; split <;> (try split) <;> omega
theorem held_hi (n : Int) : held n ≤ 2147483648 := by unfold held; split <;> (try split) <;> omega
theorem held_in {n : Int} (h1 : -2147483648 ≤ n) (h2 : n ≤ 2147483648) : held n = n := by
  unfold held; rw [if_neg (by omega), if_neg (by omega)]
theorem held_mono {a b : Int} (h : a ≤ b) : held a ≤ held b := by unfold held; repeat' split
                                                                  all_goals omega
theorem held_pos {n : Int} (h : 0 < n) : 0 < held n := by unfold held; repeat' split
                                                          all_goals omega
theorem held_neg {n : Int} (h : n ≤ 0) : held n ≤ 0 := by unfold held; repeat' split
                                                          all_goals omega
theorem held_held (n : Int) : held (held n) = held n := held_in (held_lo n) (held_hi n)
/-- as the program holds a number: the greater one of it and the low end, then the lesser one of that and the high end -/
theorem held_minmax (n : Int) : (if 2147483648 < (if -2147483648 > n then -2147483648 else n) then (2147483648 : Int) else (if -2147483648 > n then -2147483648 else n)) = held n := by
  unfold held; repeat' split
  all_goals omega

/-- a product of two numbers of the span -/
theorem mul_bd {x y : Int} (a : -2147483648 ≤ x) (b : x ≤ 2147483648) (c : -2147483648 ≤ y) (d : y ≤ 2147483648) :
    -4611686018427387904 ≤ x * y ∧ x * y ≤ 4611686018427387904 := by
  have h1 : 0 ≤ (x + 2147483648) * (2147483648 - y) := Int.mul_nonneg (by omega) (by omega)
  have h2 : 0 ≤ (2147483648 - x) * (y + 2147483648) := Int.mul_nonneg (by omega) (by omega)
  have h3 : 0 ≤ (x + 2147483648) * (y + 2147483648) := Int.mul_nonneg (by omega) (by omega)
  have h4 : 0 ≤ (2147483648 - x) * (2147483648 - y) := Int.mul_nonneg (by omega) (by omega)
  simp only [Int.sub_mul, Int.mul_sub, Int.add_mul, Int.mul_add] at h1 h2 h3 h4
  omega

def mul (a b : Int) : Int := held ((held a * held b) / 65536)

/-- the unit part of a number -/
def unit (t : Int) : Int := if t < 0 then 0 else if t > 65536 then 65536 else t
theorem unit_lo (t : Int) : 0 ≤ unit t := by unfold unit; repeat' split
                                             all_goals omega
theorem unit_hi (t : Int) : unit t ≤ 65536 := by unfold unit; repeat' split
                                                 all_goals omega
theorem unit_minmax (n : Int) : (if 65536 < (if 0 > n then 0 else n) then (65536 : Int) else (if 0 > n then 0 else n)) = unit n := by
  unfold unit; repeat' split
  all_goals omega

/-- the part of a way: the product of a difference of numbers of the span and a unit part -/
theorem way_bd {d u : Int} (a : -4294967296 ≤ d) (b : d ≤ 4294967296) (c : 0 ≤ u) (e : u ≤ 65536) :
    -281474976710656 ≤ d * u ∧ d * u ≤ 281474976710656 := by
  have h1 : 0 ≤ (d + 4294967296) * u := Int.mul_nonneg (by omega) (by omega)
  have h2 : 0 ≤ (4294967296 - d) * u := Int.mul_nonneg (by omega) (by omega)
  simp only [Int.sub_mul, Int.add_mul] at h1 h2
  omega

def lerp (a b t : Int) : Int := held a + ((held b - held a) * unit t) / 65536

/-- what is rounded down of a part of a difference lies between nothing and the difference -/
theorem part_pos {d u : Int} (h : 0 ≤ d) (c : 0 ≤ u) (e : u ≤ 65536) : 0 ≤ d * u / 65536 ∧ d * u / 65536 ≤ d := by
  have h1 : 0 ≤ d * u := Int.mul_nonneg h c
  have h2 : 0 ≤ d * (65536 - u) := Int.mul_nonneg h (by omega)
  simp only [Int.mul_sub] at h2
  omega
theorem part_neg {d u : Int} (h : d ≤ 0) (c : 0 ≤ u) (e : u ≤ 65536) : d ≤ d * u / 65536 ∧ d * u / 65536 ≤ 0 := by
  have h1 : 0 ≤ (-d) * u := Int.mul_nonneg (by omega) c
  have h2 : 0 ≤ (-d) * (65536 - u) := Int.mul_nonneg (by omega) (by omega)
  simp only [Int.mul_sub, Int.neg_mul] at h1 h2
  omega
theorem lerp_between (a b t : Int) : min (held a) (held b) ≤ lerp a b t ∧ lerp a b t ≤ max (held a) (held b) := by
  unfold lerp
  rcases Int.le_total (held a) (held b) with h | h
  · have := part_pos (d := held b - held a) (by omega) (unit_lo t) (unit_hi t); omega
  · have := part_neg (d := held b - held a) (by omega) (unit_lo t) (unit_hi t); omega
theorem lerp_lo (a b t : Int) : -2147483648 ≤ lerp a b t := by
  have := lerp_between a b t; have := held_lo a; have := held_lo b; omega
theorem lerp_hi (a b t : Int) : lerp a b t ≤ 2147483648 := by
  have := lerp_between a b t; have := held_hi a; have := held_hi b; omega

theorem lerp_mono_left {a c : Int} (h : a ≤ c) (b t : Int) : lerp a b t ≤ lerp c b t := by
  unfold lerp
  have hm := held_mono h
  have hu0 := unit_lo t
  have hu1 := unit_hi t
  generalize held a = x at *
  generalize held c = y at *
  generalize held b = z at *
  generalize unit t = u at *
  have h1 : 0 ≤ (y - x) * (65536 - u) := Int.mul_nonneg (by omega) (by omega)
  simp only [Int.mul_sub, Int.sub_mul] at h1 ⊢
  omega
theorem lerp_mono_right {a c : Int} (h : a ≤ c) (b t : Int) : lerp b a t ≤ lerp b c t := by
  unfold lerp
  have hm := held_mono h
  have hu0 := unit_lo t
  have hu1 := unit_hi t
  generalize held a = x at *
  generalize held c = y at *
  generalize held b = z at *
  generalize unit t = u at *
  have h1 : 0 ≤ (y - x) * u := Int.mul_nonneg (by omega) (by omega)
  simp only [Int.sub_mul] at h1 ⊢
  omega
theorem mul_mono {a c : Int} (h : a ≤ c) {k : Int} (hk : 0 ≤ k) : mul a k ≤ mul c k := by
  unfold mul
  refine held_mono ?_
  have hm := held_mono h
  have hk' : 0 ≤ held k := by have := held_mono hk; rw [held_in (n := 0) (by omega) (by omega)] at this; exact this
  generalize held a = x at *
  generalize held c = y at *
  generalize held k = u at *
  have h1 : 0 ≤ (y - x) * u := Int.mul_nonneg (by omega) (by omega)
  simp only [Int.sub_mul] at h1
  omega

def add (a b : Int) : Int := held (held a + held b)
def sub (a b : Int) : Int := held (held a - held b)
theorem add_mono {a c : Int} (h : a ≤ c) (b : Int) : add a b ≤ add c b := by
  unfold add; refine held_mono ?_; have := held_mono h; omega

def amount (a : Int) : Int := if held a < 0 then -held a else held a
def ofWhole (n : Int) : Int := if n > 32768 then 2147483648 else if n < -32768 then -2147483648 else n * 65536
/-! ### quotients -/
def div (a b : Int) : Int :=
  if held b = 0 then (if held a > 0 then 2147483648 else if held a < 0 then -2147483648 else 0)
  else if held b < 0 then held (-(held a) * 65536 / -(held b)) else held (held a * 65536 / held b)

/-- a quotient, rounded towards nothing, less one where it is below nothing and something is left: rounded down -/
theorem down_pos {a b : Int} (h : 0 < b) : (if a.tmod b ≠ 0 ∧ a < 0 then a.tdiv b - 1 else a.tdiv b) = a / b := by
  by_cases h0 : 0 ≤ a
  · rw [if_neg (by omega), Int.tdiv_eq_ediv_of_nonneg h0]
  · have hd : a.tdiv b = -((-a) / b) := by
      have e : a = -(-a) := by omega
      rw [e, Int.neg_tdiv, Int.tdiv_eq_ediv_of_nonneg (by omega)]; simp
    have hm : a.tmod b = -((-a) % b) := by
      have e : a = -(-a) := by omega
      rw [e, Int.neg_tmod, Int.tmod_eq_emod_of_nonneg (by omega)]; simp
    rw [hd, hm]
    have e1 := Int.mul_ediv_add_emod (-a) b
    have m0 := Int.emod_nonneg (-a) (b := b) (by omega)
    have m1 := Int.emod_lt_of_pos (-a) h
    by_cases hz : (-a) % b = 0
    · rw [if_neg (by simp [hz])]
      symm
      have : a = b * (-((-a) / b)) := by rw [Int.mul_neg]; omega
      exact Int.ediv_eq_of_eq_mul_right (by omega) this
    · rw [if_pos ⟨by omega, by omega⟩]
      have : a / b = -((-a) / b) - 1 := by
        apply Int.ediv_eq_iff_of_pos h |>.2
        have k : b * (-((-a) / b) - 1) = -(b * ((-a) / b)) - b := by rw [Int.mul_sub, Int.mul_neg]; omega
        rw [Int.mul_comm] at k
        constructor <;> omega
      omega

def endOf (a : Int) : Int := if a > 0 then 2147483648 else if a < 0 then -2147483648 else 0
def quot (a b : Int) : Int := if b < 0 then -a / -b else a / b
theorem tdiv_bd (a b : Int) (m : Int) (h0 : -m ≤ a) (h1 : a ≤ m) : -m ≤ a.tdiv b ∧ a.tdiv b ≤ m := by
  have e : (a.tdiv b).natAbs = a.natAbs / b.natAbs := Int.natAbs_tdiv a b
  have l := Nat.div_le_self a.natAbs b.natAbs
  rw [← e] at l
  clear e
  omega
theorem quot_less {a b : Int} (hz : a.tmod b ≠ 0) (h : a < 0 ∧ 0 < b ∨ 0 ≤ a ∧ b < 0) : a.tdiv b - 1 = quot a b := by
  unfold quot
  rcases h with ⟨ha, hb⟩ | ⟨ha, hb⟩
  · rw [if_neg (by omega), ← down_pos hb, if_pos ⟨hz, ha⟩]
  · rw [if_pos hb, ← down_pos (by omega), Int.neg_tdiv, Int.tdiv_neg, Int.neg_neg, Int.neg_tmod, Int.tmod_neg, if_pos]
    refine ⟨by omega, ?_⟩
    have : a ≠ 0 := by intro h; subst h; simp at hz
    omega
theorem quot_same_zero {a b : Int} (hb : b ≠ 0) (hz : a.tmod b = 0) : a.tdiv b = quot a b := by
  unfold quot
  by_cases hn : b < 0
  · rw [if_pos hn, ← down_pos (by omega), Int.neg_tdiv, Int.tdiv_neg, Int.neg_neg, Int.neg_tmod, Int.tmod_neg, if_neg (by omega)]
  · rw [if_neg hn, ← down_pos (by omega), if_neg (by omega)]
theorem quot_same {a b : Int} (h : a < 0 ∧ b < 0 ∨ 0 ≤ a ∧ 0 < b) : a.tdiv b = quot a b := by
  unfold quot
  rcases h with ⟨ha, hb⟩ | ⟨ha, hb⟩
  · rw [if_pos hb, ← down_pos (by omega), Int.neg_tdiv, Int.tdiv_neg, Int.neg_neg, if_neg (by omega)]
  · rw [if_neg (by omega), ← down_pos hb, if_neg (by omega)]
theorem quot_bd {a b : Int} {m : Int} (hb : b ≠ 0) (h0 : -m ≤ a) (h1 : a ≤ m) : -m - 1 ≤ quot a b ∧ quot a b ≤ m := by
  have d := tdiv_bd a b m h0 h1
  by_cases hz : a.tmod b = 0
  · rw [← quot_same_zero hb hz]; omega
  · by_cases h : a < 0 ∧ b < 0 ∨ 0 ≤ a ∧ 0 < b
    · rw [← quot_same h]; omega
    · rw [← quot_less hz (by omega)]; omega
theorem div_quot {a b : Int} (hb : held b ≠ 0) : held (quot (held a * 65536) (held b)) = div a b := by
  unfold quot div
  rw [if_neg hb]
  by_cases h : held b < 0
  · rw [if_pos h, if_pos h]; congr 2; omega
  · rw [if_neg h, if_neg h]

/-! ### the document's way of rounding down: what is left, made not negative, taken away first -/
theorem ref_down_zero (n : Int) {d : Int} (h : 0 < d) : 0 ≤ n → 0 ≤ n / d := fun h0 => Int.ediv_nonneg h0 (by omega)
theorem emod_le {n d : Int} (h0 : 0 ≤ n) (h : 0 < d) : n % d ≤ n := by
  have := Int.mul_ediv_add_emod n d
  have := Int.mul_nonneg (a := d) (by omega) (Int.ediv_nonneg h0 (show 0 ≤ d by omega))
  omega
theorem down_nonneg {n d : Int} (h : 0 < d) : (n - n % d).tdiv d = n / d := by
  have e := Int.mul_ediv_add_emod n d
  have : n - n % d = d * (n / d) := by omega
  rw [this, Int.mul_tdiv_cancel_left _ (by omega)]
theorem tmod_neg {n d : Int} (h0 : n < 0) (h : 0 < d) : -d < n.tmod d ∧ n.tmod d ≤ 0 := by
  have hm : n.tmod d = -((-n) % d) := by
    have e : n = -(-n) := by omega
    rw [e, Int.neg_tmod, Int.tmod_eq_emod_of_nonneg (by omega)]; simp
  have m0 := Int.emod_nonneg (-n) (b := d) (by omega)
  have m1 := Int.emod_lt_of_pos (-n) h
  omega
theorem down_neg {n d : Int} (h0 : n < 0) (h : 0 < d) (hz : n.tmod d < 0) : (n - (n.tmod d + d)).tdiv d = n / d := by
  have e := Int.mul_tdiv_add_tmod n d
  have : n - (n.tmod d + d) = d * (n.tdiv d - 1) := by rw [Int.mul_sub]; omega
  rw [this, Int.mul_tdiv_cancel_left _ (by omega)]
  rw [← down_pos h, if_pos ⟨by omega, h0⟩]
theorem down_zero {n d : Int} (h0 : n < 0) (h : 0 < d) (hz : ¬ n.tmod d < 0) : (n - n.tmod d).tdiv d = n / d := by
  have e := Int.mul_tdiv_add_tmod n d
  have t := tmod_neg h0 h
  have : n - n.tmod d = d * (n.tdiv d) := by omega
  rw [this, Int.mul_tdiv_cancel_left _ (by omega)]
  rw [← down_pos h, if_neg (by omega)]

/-! ### roots -/
def rt : Nat → Nat
  | 0 => 0
  | n + 1 => if (rt n + 1) * (rt n + 1) ≤ n + 1 then rt n + 1 else rt n
theorem rt_spec (n : Nat) : rt n * rt n ≤ n ∧ n < (rt n + 1) * (rt n + 1) := by
  induction n with
  | zero => simp [rt]
  | succ n ih =>
    unfold rt
    split
    · rename_i h; refine ⟨h, ?_⟩
      have : (rt n + 1 + 1) * (rt n + 1 + 1) = (rt n + 1) * (rt n + 1) + (rt n + 1) + (rt n + 1) + 1 := by
        simp only [Nat.add_mul, Nat.mul_add]; omega
      omega
    · omega
theorem rt_uniq {n r : Nat} (h1 : r * r ≤ n) (h2 : n < (r + 1) * (r + 1)) : rt n = r := by
  have ⟨a, b⟩ := rt_spec n
  rcases Nat.lt_trichotomy (rt n) r with h | h | h
  · have := Nat.mul_le_mul (show rt n + 1 ≤ r from h) (show rt n + 1 ≤ r from h); omega
  · exact h
  · have := Nat.mul_le_mul (show r + 1 ≤ rt n from h) (show r + 1 ≤ rt n from h); omega
theorem rt_le {n m : Nat} (h : n < (m + 1) * (m + 1)) : rt n ≤ m := by
  have ⟨a, _⟩ := rt_spec n
  rcases Nat.lt_or_ge m (rt n) with h' | h'
  · have := Nat.mul_le_mul (show m + 1 ≤ rt n from h') (show m + 1 ≤ rt n from h'); omega
  · exact h'
theorem le_rt {n m : Nat} (h : m * m ≤ n) : m ≤ rt n := by
  have ⟨_, b⟩ := rt_spec n
  rcases Nat.lt_or_ge (rt n) m with h' | h'
  · have := Nat.mul_le_mul (show rt n + 1 ≤ m from h') (show rt n + 1 ≤ m from h'); omega
  · exact h'
/-- a step comes never below the root -/
theorem step_ge {n r : Nat} (hr : 0 < r) : rt n ≤ (r + n / r) / 2 := by
  have ⟨a, _⟩ := rt_spec n
  rw [Nat.le_div_iff_mul_le (by omega)]
  generalize rt n = s at *
  rcases Nat.lt_or_ge (r + n / r) (s * 2) with h | h
  · exfalso
    have h1 : n < r * (n / r + 1) := by
      have := Nat.div_add_mod n r; have := Nat.mod_lt n hr; rw [Nat.mul_add]; omega
    generalize n / r = q at *
    have hq : q + 1 ≤ 2 * s - r := by omega
    have h2 : r * (q + 1) ≤ r * (2 * s - r) := Nat.mul_le_mul_left r hq
    have h3 : r * (2 * s - r) ≤ s * s := by
      have hrs : r ≤ 2 * s := by omega
      obtain ⟨d, hd⟩ : ∃ d, 2 * s = r + d := ⟨2 * s - r, by omega⟩
      have : 2 * s - r = d := by omega
      rw [this]
      rcases Nat.le_total r s with hh | hh
      · obtain ⟨e, rfl⟩ : ∃ e, s = r + e := ⟨s - r, by omega⟩
        have : d = r + e + e := by omega
        subst this
        simp only [Nat.mul_add, Nat.add_mul, Nat.mul_comm e r]; omega
      · obtain ⟨e, rfl⟩ : ∃ e, r = s + e := ⟨r - s, by omega⟩
        have : s = d + e := by omega
        subst this
        simp only [Nat.mul_add, Nat.add_mul, Nat.mul_comm e d]; omega
    omega
  · omega
/-- a step that does not go down has the root -/
theorem step_end {n r : Nat} (hs : rt n ≤ r) (h : r ≤ (r + n / r) / 2) : r = rt n := by
  have h1 : r ≤ n / r := by omega
  have h2 : r * r ≤ n := by
    have := Nat.mul_le_mul_left r h1; have := Nat.mul_div_le n r; omega
  have := le_rt h2
  omega

def root (a : Int) : Int := if a ≤ 0 then 0 else (rt ((held a).toNat * 65536) : Nat)
end Go.Proofs.YtndpidmbfdpiaaaDoor.Pl
