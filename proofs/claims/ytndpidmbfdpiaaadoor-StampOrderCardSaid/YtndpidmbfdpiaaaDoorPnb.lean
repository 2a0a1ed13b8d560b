/- Plans plainly: where each step stands in an order, how deep steps lie, what lies under one. -/
import Derived.Test.YtndpidmbfdpiaaaDoorPna
namespace Go.Proofs.YtndpidmbfdpiaaaDoor.Pn
set_option linter.unusedVariables false

theorem row_ok {len : Nat} : ∀ (l seen : List Int), row len seen l = 0 → ∀ m ∈ l, 0 ≤ m ∧ m < (len : Int)
  | [], _, _, m, h => by cases h
  | x :: l, seen, h, m, hm => by
    unfold row at h
    split at h
    · cases h
    · split at h
      · cases h
      · rename_i h1 _
        rcases List.mem_cons.1 hm with rfl | hm
        · omega
        · exact row_ok l _ h m hm
theorem rows_ok {len : Nat} : ∀ L : List (List Int), rows len L = 0 → ∀ r ∈ L, ∀ m ∈ r, 0 ≤ m ∧ m < (len : Int)
  | [], _, r, h => by cases h
  | x :: L, h, r, hr => by
    unfold rows at h
    split at h
    · rename_i h0
      rcases List.mem_cons.1 hr with rfl | hr
      · exact row_ok _ _ h0
      · exact rows_ok L h r hr
    · rename_i h0; exact absurd h h0
/-- Each step needs steps that there are. -/
def Fits (L : List (List Int)) : Prop := ∀ n : Nat, n < L.length → ∀ m ∈ L[n]!, 0 ≤ m ∧ m < (L.length : Int)
theorem named_fits {L : List (List Int)} (h : named L = 0) : Fits L := by
  unfold named at h
  split at h
  · cases h
  · intro n hn m hm
    refine rows_ok L h L[n]! ?_ m hm
    rw [getElem!_pos L n hn]
    exact List.getElem_mem hn
theorem chk_named {L : List (List Int)} (h : chk L = 0) : named L = 0 := by
  unfold chk at h
  split at h
  · assumption
  · rename_i h0; exact absurd h h0
theorem chk_full {L : List (List Int)} (h : chk L = 0) : (ord L L.length).length = L.length := by
  have h0 := chk_named h
  unfold chk at h
  rw [if_pos h0] at h
  split at h
  · cases h
  · have := ok_len (ok_ord L L.length)
    omega

/-- How far ahead each step stands among the first k of l. -/
def pos (l : List Int) : Nat → Int → Int
  | 0, _ => 0
  | k + 1, m => if l.getD k 0 = m then pos l k m + (k + 1) else pos l k m
theorem pos_out {l : List Int} {m : Int} : ∀ k, (∀ i, i < k → l.getD i 0 ≠ m) → pos l k m = 0
  | 0, _ => rfl
  | k + 1, h => by
    unfold pos
    rw [if_neg (h k (by omega))]
    exact pos_out k fun i hi => h i (by omega)
theorem pos_at {l : List Int} (hl : l.Nodup) {i : Nat} : ∀ k, i < k → k ≤ l.length → pos l k (l.getD i 0) = (i : Int) + 1
  | 0, h, _ => absurd h (Nat.not_lt_zero _)
  | k + 1, h, hk => by
    have hne : ∀ a b, a < l.length → b < l.length → a ≠ b → l.getD a 0 ≠ l.getD b 0 := by
      intro a b ha hb hab e
      simp only [List.getD, List.getElem?_eq_getElem ha, List.getElem?_eq_getElem hb, Option.getD_some] at e
      rcases Nat.lt_or_gt_of_ne hab with h | h
      · exact List.pairwise_iff_getElem.1 hl a b ha hb h e
      · exact List.pairwise_iff_getElem.1 hl b a hb ha h e.symm
    unfold pos
    by_cases e : i = k
    · subst e
      rw [if_pos rfl, pos_out i fun j hj => hne j i (by omega) (by omega) (by omega)]
      omega
    · rw [if_neg (hne k i (by omega) (by omega) (by omega))]
      exact pos_at hl k (by omega) (by omega)
theorem pos_bound (l : List Int) (m : Int) : ∀ k, 0 ≤ pos l k m ∧ pos l k m ≤ (k * k : Nat)
  | 0 => by simp [pos]
  | k + 1 => by
    have h := pos_bound l m k
    have e : (k + 1) * (k + 1) = k * k + 2 * k + 1 := by rw [Nat.add_mul, Nat.mul_add]; omega
    unfold pos
    rw [e]
    split <;> omega
def atL (L : List (List Int)) (l : List Int) (k : Nat) : List Int := (List.range L.length).map fun m : Nat => pos l k (m : Int)
theorem atL_len (L : List (List Int)) (l : List Int) (k : Nat) : (atL L l k).length = L.length := by simp [atL]
theorem atL_get {L : List (List Int)} {l : List Int} {k m : Nat} (h : m < L.length) : (atL L l k).getD m 0 = pos l k (m : Int) := by
  simp [atL, List.getD, h]
theorem atL_zero (L : List (List Int)) (l : List Int) : atL L l 0 = List.replicate L.length 0 := by
  apply List.ext_getElem <;> simp [atL, pos]
theorem atL_set {L : List (List Int)} {l : List Int} {k n : Nat} (hn : n < L.length) (he : l.getD k 0 = (n : Int)) : (atL L l k).set n (pos l k (n : Int) + ((k : Int) + 1)) = atL L l (k + 1) := by
  apply List.ext_getElem
  · simp [atL]
  · intro i h1 h2
    rw [List.getElem_set]
    simp only [atL, List.getElem_map, List.getElem_range]
    show _ = (if l.getD k 0 = (i : Int) then pos l k (i : Int) + ((k : Int) + 1) else pos l k (i : Int))
    rw [he]
    by_cases e : n = i
    · subst e; simp
    · rw [if_neg e, if_neg (by omega)]
/-- A whole order: where each step stands, and that what it needs stands ahead. -/
theorem stands {L : List (List Int)} {l : List Int} (hl : Ok L l) (hlen : l.length = L.length) (n : Nat) (hn : n < L.length) : ∃ i, i < l.length ∧ l.getD i 0 = (n : Int) := by
  have h := has_iff.1 (ok_all hl hlen n hn)
  obtain ⟨i, hi, e⟩ := List.mem_iff_getElem.1 h
  exact ⟨i, hi, by simpa [List.getD, hi] using e⟩
theorem stand_lt {L : List (List Int)} {l : List Int} (hl : Ok L l) (hlen : l.length = L.length) (hbef : ∀ i, (h : i < l.length) → ∀ m ∈ L[(l[i]).toNat]!, m ∈ l.take i)
    (n : Nat) (hn : n < L.length) : (1 ≤ pos l l.length (n : Int) ∧ pos l l.length (n : Int) ≤ (L.length : Int)) ∧ ∀ m ∈ L[n]!, (0 ≤ m ∧ m < (L.length : Int)) ∧ pos l l.length m < pos l l.length (n : Int) := by
  obtain ⟨i, hi, e⟩ := stands hl hlen n hn
  have hp := pos_at hl.1 (i := i) l.length hi (Nat.le_refl _)
  rw [e] at hp
  refine ⟨by omega, fun m hm => ?_⟩
  have e' : l[i] = (n : Int) := by simpa [List.getD, hi] using e
  have hm' := hbef i hi m (by rw [e']; simpa using hm)
  obtain ⟨j, hj, e2⟩ := List.mem_iff_getElem.1 hm'
  rw [List.length_take] at hj
  rw [List.getElem_take] at e2
  have hp2 := pos_at hl.1 (i := j) l.length (by omega) (Nat.le_refl _)
  rw [show l.getD j 0 = m by simpa [List.getD, show j < l.length by omega] using e2] at hp2
  refine ⟨?_, by omega⟩
  have := hl.2 m (by rw [← e2]; exact List.getElem_mem _)
  exact this
end Go.Proofs.YtndpidmbfdpiaaaDoor.Pn
