/- Scenes, plainly: their numbers, what may be, the first rule broken. No program's code in sight. -/
import Derived.Test.YtfbppiamlolfpaaC23
namespace Go.Proofs.Ytfbppiamlolfpaa.Sc
open Go.RowKit Go.Proofs.Ytfbppiamlolfpaa Go.Proofs.Ytfbppiamlolfpaa.Wa Go.Proofs.Ytfbppiamlolfpaa.Ve Go.Proofs.Ytfbppiamlolfpaa.Tk

/-- a scene's numbers -/
structure Scn where
  w : Int
  h : Int
  sm : Int
  dp : Int
  fr : Int
  sh : Int
  sd : Nat
  r : Int
  g : Int
  b : Int
  ey : Int
  lk : Int
  wd : Int
  np : Nat
  P : Nat → Int
  nt : Nat
  way : Nat → Int
  kn : Nat → Nat
  K : Nat → Nat → Int
  nj : Nat
  J : Nat → Int
  ns : Nat
  S : Nat → Int

/-- does a number lie between two? -/
def inB (n a b : Int) : Bool := decide (a ≤ n ∧ n ≤ b)

theorem inB_true {n a b : Int} : inB n a b = true ↔ a ≤ n ∧ n ≤ b := by simp [inB]

def lightB (r g b : Int) : Bool := inB r 0 1048576 && inB g 0 1048576 && inB b 0 1048576

def pointB (x y z : Int) : Bool := inB x (-16777216) 16777216 && inB y (-16777216) 16777216 && inB z (-16777216) 16777216

def hdB (s : Scn) : Bool := inB s.w 1 64 && inB s.h 1 64 && inB s.sm 1 16 && inB s.dp 1 6 && inB s.fr 1 32 && inB s.sh 0 65536 && lightB s.r s.g s.b

/-- may a paint be, by its five numbers? -/
def paintB (k r g b q : Int) : Bool := inB k 0 3 && lightB r g b && inB q 0 65536

def pB (s : Scn) (i : Nat) : Bool := paintB (s.P (i * 5)) (s.P (i * 5 + 1)) (s.P (i * 5 + 2)) (s.P (i * 5 + 3)) (s.P (i * 5 + 4))

def tB (s : Scn) (i : Nat) : Bool := rightB (s.way i) (s.kn i) (s.K i)

def jointB (i nt : Nat) (p m t z : Int) : Bool := inB p (-1) (i - 1) && inB m (-1) (nt - 1) && inB t (-1) (nt - 1) && inB z 1 4194304

def jB (s : Scn) (i : Nat) : Bool := jointB i s.nt (s.J (i * 4)) (s.J (i * 4 + 1)) (s.J (i * 4 + 2)) (s.J (i * 4 + 3))

/-- may a shape be, by its thirteen numbers? -/
def shapeB (nj np : Nat) (L : Nat → Int) : Bool :=
  inB (L 0) (-1) (nj - 1) && inB (L 1) 0 (np - 1) && pointB (L 3) (L 4) (L 5) &&
    (if L 2 = 0 then decide (L 6 = 0 ∧ L 7 = 0 ∧ L 8 = 0 ∧ L 9 = 0 ∧ L 10 = 0 ∧ L 11 = 0) && inB (L 12) 1 4194304
     else decide (L 2 = 1) && pointB (L 6) (L 7) (L 8) && pointB (L 9) (L 10) (L 11) && decide (L 12 = 0))

def row13 (s : Scn) (i j : Nat) : Int := s.S (i * 13 + j)

def sB (s : Scn) (i : Nat) : Bool := shapeB s.nj s.np (row13 s i)

def lnB (s : Scn) : Bool := inB s.ey 0 (s.nt - 1) && inB s.lk 0 (s.nt - 1) && inB s.wd 1 524288

/-- is a shape a lamp? -/
def lampB (s : Scn) (i : Nat) : Bool := decide (0 ≤ s.S (i * 13 + 1) ∧ s.S (i * 13 + 1) < s.np) && decide (s.P ((s.S (i * 13 + 1)).toNat * 5) = 3)

def lampsTo (s : Scn) : Nat → List Nat
  | 0 => []
  | k + 1 => if lampB s k then lampsTo s k ++ [k] else lampsTo s k

def lamps (s : Scn) : List Nat := lampsTo s s.ns

theorem lampsTo_len (s : Scn) : ∀ k, (lampsTo s k).length ≤ k
  | 0 => by simp [lampsTo]
  | k + 1 => by
    have := lampsTo_len s k
    unfold lampsTo
    split <;> simp <;> omega

theorem lampsTo_lt (s : Scn) : ∀ k, ∀ i ∈ lampsTo s k, i < k
  | 0, i, h => by simp [lampsTo] at h
  | k + 1, i, h => by
    unfold lampsTo at h
    split at h
    · simp at h
      rcases h with h | h
      · have := lampsTo_lt s k i h; omega
      · omega
    · have := lampsTo_lt s k i h; omega

/-- where a list breaks its rule first, or -1 -/
def badTo (b : Nat → Bool) : Nat → Int
  | 0 => -1
  | k + 1 => if badTo b k = -1 then (if b k then -1 else k) else badTo b k

def whereB (n most : Nat) (b : Nat → Bool) : Int := if most < n then most else badTo b n

theorem badTo_none {b : Nat → Bool} : ∀ {n : Nat}, (∀ k, k < n → b k = true) → badTo b n = -1
  | 0, _ => rfl
  | n + 1, h => by
    unfold badTo
    rw [if_pos (badTo_none fun k hk => h k (by omega)), h n (by omega)]; rfl

theorem badTo_at {b : Nat → Bool} {i : Nat} (h : ∀ k, k < i → b k = true) (hb : b i = false) : ∀ {n : Nat}, i < n → badTo b n = i
  | n + 1, hi => by
    unfold badTo
    by_cases e : i = n
    · subst e
      rw [if_pos (badTo_none h), hb]; rfl
    · rw [badTo_at h hb (n := n) (by omega), if_neg (by omega)]

theorem badTo_all {b : Nat → Bool} : ∀ {n : Nat}, badTo b n = -1 → ∀ k, k < n → b k = true
  | n + 1, h, k, hk => by
    unfold badTo at h
    by_cases e : badTo b n = -1
    · rw [if_pos e] at h
      by_cases e2 : k = n
      · subst e2
        cases e3 : b k with
        | true => rfl
        | false => rw [e3] at h; simp at h
      · exact badTo_all e k (by omega)
    · rw [if_neg e] at h; exact absurd h e

theorem badTo_bd {b : Nat → Bool} : ∀ n, -1 ≤ badTo b n ∧ badTo b n < n
  | 0 => by simp [badTo]
  | n + 1 => by
    have := badTo_bd (b := b) n
    unfold badTo
    split
    · split <;> omega
    · omega

theorem whereB_bd (n most : Nat) (b : Nat → Bool) : -1 ≤ whereB n most b ∧ whereB n most b ≤ most := by
  have := badTo_bd (b := b) n
  unfold whereB
  split <;> omega

theorem whereB_ok {n most : Nat} {b : Nat → Bool} (h : whereB n most b = -1) : n ≤ most ∧ ∀ k, k < n → b k = true := by
  unfold whereB at h
  by_cases e : most < n
  · rw [if_pos e] at h; omega
  · rw [if_neg e] at h; exact ⟨by omega, badTo_all h⟩

theorem whereB_none {n most : Nat} {b : Nat → Bool} (h : n ≤ most) (hb : ∀ k, k < n → b k = true) : whereB n most b = -1 := by
  unfold whereB; rw [if_neg (by omega)]; exact badTo_none hb

theorem whereB_more {n most : Nat} {b : Nat → Bool} (h : most < n) : whereB n most b = most := by
  unfold whereB; rw [if_pos h]

theorem whereB_at {n most i : Nat} {b : Nat → Bool} (h : n ≤ most) (hi : i < n) (hb : ∀ k, k < i → b k = true) (h0 : b i = false) : whereB n most b = i := by
  unfold whereB; rw [if_neg (by omega)]; exact badTo_at hb h0 hi

/-- of a rule that is asked once -/
def onceB (b : Bool) : Int := if b then -1 else 0

def lampW (s : Scn) : Int := if (lamps s).length ≤ 16 then -1 else ((lamps s).getD 16 0 : Nat)

/-- where the rules are broken, one by one -/
def wh (s : Scn) : Nat → Int
  | 0 => onceB (hdB s)
  | 1 => whereB s.np 32 (pB s)
  | 2 => whereB s.nt 32 (tB s)
  | 3 => whereB s.nj 32 (jB s)
  | 4 => whereB s.ns 128 (sB s)
  | 5 => onceB (lnB s)
  | _ => lampW s

/-- the first rule broken of the first k, and where -/
def chkTo (s : Scn) : Nat → Option (Int × Int)
  | 0 => none
  | k + 1 => match chkTo s k with
    | some x => some x
    | none => if wh s k = -1 then none else some (21 + k, wh s k)

def chk (s : Scn) : Int × Int := (chkTo s 7).getD (0, 0)

theorem chkTo_none {s : Scn} : ∀ {n : Nat}, (∀ k, k < n → wh s k = -1) → chkTo s n = none
  | 0, _ => rfl
  | n + 1, h => by
    unfold chkTo
    rw [chkTo_none fun k hk => h k (by omega)]
    simp [h n (by omega)]

theorem chkTo_at {s : Scn} {i : Nat} (h : ∀ k, k < i → wh s k = -1) (hb : wh s i ≠ -1) : ∀ {n : Nat}, i < n → chkTo s n = some ((21 : Int) + i, wh s i)
  | n + 1, hi => by
    unfold chkTo
    by_cases e : i = n
    · subst e
      rw [chkTo_none h]; simp [hb]
    · rw [chkTo_at h hb (n := n) (by omega)]

theorem chk_ok {s : Scn} (h : ∀ k, k < 7 → wh s k = -1) : chk s = (0, 0) := by unfold chk; rw [chkTo_none h]; rfl

theorem chk_bad {s : Scn} {i : Nat} (hi : i < 7) (h : ∀ k, k < i → wh s k = -1) (hb : wh s i ≠ -1) : chk s = ((21 : Int) + i, wh s i) := by unfold chk; rw [chkTo_at h hb hi]; rfl

theorem ok_chk {s : Scn} (h : (chk s).1 = 0) : ∀ k, k < 7 → wh s k = -1 := by
  intro k hk
  by_cases e : wh s k = -1
  · exact e
  · obtain ⟨i, hi, h1, h2⟩ : ∃ i, i < 7 ∧ (∀ k, k < i → wh s k = -1) ∧ wh s i ≠ -1 := by
      have : ∀ n, (∃ k, k < n ∧ wh s k ≠ -1) → ∃ i, i < n ∧ (∀ k, k < i → wh s k = -1) ∧ wh s i ≠ -1 := by
        intro n
        induction n with
        | zero => rintro ⟨k, hk, _⟩; omega
        | succ n ih =>
          rintro ⟨k, hk, hne⟩
          by_cases hex : ∃ k, k < n ∧ wh s k ≠ -1
          · obtain ⟨i, hi, r⟩ := ih hex; exact ⟨i, by omega, r⟩
          · refine ⟨k, hk, fun j hj => ?_, hne⟩
            by_cases e2 : wh s j = -1
            · exact e2
            · exact absurd ⟨j, by omega, e2⟩ hex
      exact this 7 ⟨k, hk, e⟩
    rw [chk_bad hi h1 h2] at h
    simp at h
    omega

end Go.Proofs.Ytfbppiamlolfpaa.Sc
