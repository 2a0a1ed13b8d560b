/- Tracks, plainly: keys as rows of four numbers; which tracks may be; the place of a time. No program's code in sight. -/
import Derived.Test.YtplcbdmiccpnnaaGreatC15
import Derived.Test.YtplcbdmiccpnnaaGreatC02
namespace Go.Proofs.YtplcbdmiccpnnaaGreat.Tk
open Go.RowKit Go.Proofs.YtplcbdmiccpnnaaGreat Go.Proofs.YtplcbdmiccpnnaaGreat.Wa Go.Proofs.YtplcbdmiccpnnaaGreat.Ve

/-- a key as a value: its time, and its value's three numbers -/
abbrev K4 (t x y z : Int) : Value := .agg #[.int .i64 t, .int .i64 x, .int .i64 y, .int .i64 z]

/-- a slice of keys: none, or its numbers stand in one block -/
def KeysAt (w : World) (a : Option Addr) (n : Nat) (L : Nat → Int) : Prop :=
  n * 32 ≤ 140737488351232 ∧ (n = 0 ∨ ∃ b off, a = some ⟨b, off, none⟩ ∧ b < w.heap.size ∧ ∀ j, j < n * 4 → w.cell? ⟨b, off + j, none⟩ = some (.int .i64 (L j)))

theorem KeysAt.on {w w' : World} {a : Option Addr} {n : Nat} {L : Nat → Int} (h : KeysAt w a n L) (hb : Below w.heap.size w w') : KeysAt w' a n L := by
  obtain ⟨h0, h | ⟨b, off, rfl, hlt, hc⟩⟩ := h
  · exact ⟨h0, .inl h⟩
  · exact ⟨h0, .inr ⟨b, off, rfl, Nat.lt_of_lt_of_le hlt hb.size, fun j hj => (hb.cell (p := ⟨b, off + j, none⟩) hlt).trans (hc j hj)⟩⟩

/-- a cell of a world, under a name that the walk doesn't open -/
def Cell (W : World) (p : Addr) (v : Value) : Prop := W.cell? p = some v

theorem Cell.on {W w9 : World} {p : Addr} {v : Value} (h : Cell W p v) (hb : Below W.heap.size W w9) : Cell w9 p v := (hb.cell (World.block_lt_of_cell? _ _ h)).trans h

theorem Cell.is {W : World} {p : Addr} {v : Value} (h : Cell W p v) : W.cell? p = some v := h

theorem Cell.old {W : World} {b j : Nat} {v : Value} (h : Cell W ⟨b, j, none⟩ v) (o : Obj) : Cell (W.alloc o) ⟨b, j, none⟩ v := by
  have hlt := World.block_lt_of_cell? _ _ h
  unfold Cell at h ⊢
  rw [World.cell?_alloc_past _ _ _ hlt]; exact h

theorem Cell.draw {W : World} {p : Addr} {v : Value} (h : Cell W p v) : Cell W.drew p v := h

/-- the numbers of one key -/
def Four (w : World) (b o : Nat) (L : Nat → Int) (k : Nat) : Prop :=
  w.cell? ⟨b, o, none⟩ = some (.int .i64 (L (k * 4))) ∧ w.cell? ⟨b, o + 1, none⟩ = some (.int .i64 (L (k * 4 + 1))) ∧ w.cell? ⟨b, o + 2, none⟩ = some (.int .i64 (L (k * 4 + 2))) ∧ w.cell? ⟨b, o + 3, none⟩ = some (.int .i64 (L (k * 4 + 3)))

theorem four_of {w : World} {b off n : Nat} {L : Nat → Int} (hc : ∀ j, j < n * 4 → w.cell? ⟨b, off + j, none⟩ = some (.int .i64 (L j))) {k : Nat} (hk : k < n) : Four w b (off + k * 4) L k :=
  ⟨hc (k * 4) (by omega), hc (k * 4 + 1) (by omega), hc (k * 4 + 2) (by omega), hc (k * 4 + 3) (by omega)⟩

/-- whether a key may be, wherever it stands -/
def mayB (t x y z : Int) : Bool :=
  decide ((0 ≤ t ∧ t ≤ 2097152) ∧ (-2147483648 ≤ x ∧ x ≤ 2147483648) ∧ (-2147483648 ≤ y ∧ y ≤ 2147483648) ∧ (-2147483648 ≤ z ∧ z ≤ 2147483648))

theorem mayB_true {t x y z : Int} : mayB t x y z = true ↔ (0 ≤ t ∧ t ≤ 2097152) ∧ (-2147483648 ≤ x ∧ x ≤ 2147483648) ∧ (-2147483648 ≤ y ∧ y ≤ 2147483648) ∧ (-2147483648 ≤ z ∧ z ≤ 2147483648) := by
  unfold mayB; simp

/-- whether a key may stand where it stands -/
def okKey (L : Nat → Int) (k : Nat) : Bool :=
  mayB (L (k * 4)) (L (k * 4 + 1)) (L (k * 4 + 2)) (L (k * 4 + 3)) && (decide (k = 0) || decide (L ((k - 1) * 4) < L (k * 4)))

def okUpto (L : Nat → Int) : Nat → Bool
  | 0 => true
  | k + 1 => okUpto L k && okKey L k

/-- whether a track may be -/
def rightB (way : Int) (n : Nat) (L : Nat → Int) : Bool :=
  decide (0 ≤ way ∧ way ≤ 2 ∧ 1 ≤ n ∧ n ≤ 16) && okUpto L n

theorem okUpto_bad {L : Nat → Int} {k : Nat} (h : okKey L k = false) : ∀ n, k < n → okUpto L n = false
  | n + 1, hk => by
    unfold okUpto
    by_cases e : k = n
    · subst e; rw [h]; simp
    · rw [okUpto_bad h n (by omega)]; rfl

theorem okUpto_all {L : Nat → Int} : ∀ {n : Nat}, okUpto L n = true → ∀ k, k < n → okKey L k = true
  | n + 1, h, k, hk => by
    unfold okUpto at h
    simp at h
    by_cases e : k = n
    · subst e; exact h.2
    · exact okUpto_all h.1 k (by omega)

theorem rightB_shape {way : Int} {n : Nat} {L : Nat → Int} (h : ¬ (0 ≤ way ∧ way ≤ 2 ∧ 1 ≤ n ∧ n ≤ 16)) : rightB way n L = false := by
  unfold rightB; rw [decide_eq_false h]; rfl

theorem rightB_bad {way : Int} {n : Nat} {L : Nat → Int} {k : Nat} (h : okKey L k = false) (hk : k < n) : rightB way n L = false := by
  unfold rightB; rw [okUpto_bad h n hk]; simp

theorem rightB_good {way : Int} {n : Nat} {L : Nat → Int} (h : 0 ≤ way ∧ way ≤ 2 ∧ 1 ≤ n ∧ n ≤ 16) (ho : okUpto L n = true) : rightB way n L = true := by
  unfold rightB; rw [ho, decide_eq_true h]; rfl

theorem right_of {way : Int} {n : Nat} {L : Nat → Int} (h : rightB way n L = true) : (0 ≤ way ∧ way ≤ 2 ∧ 1 ≤ n ∧ n ≤ 16) ∧ ∀ k, k < n → okKey L k = true := by
  unfold rightB at h
  simp only [Bool.and_eq_true, decide_eq_true_eq] at h
  exact ⟨h.1, okUpto_all h.2⟩

/-- what a key of a track is -/
theorem key_of {L : Nat → Int} {k : Nat} (h : okKey L k = true) : ((0 ≤ L (k * 4) ∧ L (k * 4) ≤ 2097152) ∧ (-2147483648 ≤ L (k * 4 + 1) ∧ L (k * 4 + 1) ≤ 2147483648) ∧ (-2147483648 ≤ L (k * 4 + 2) ∧ L (k * 4 + 2) ≤ 2147483648) ∧ (-2147483648 ≤ L (k * 4 + 3) ∧ L (k * 4 + 3) ≤ 2147483648)) ∧ (k = 0 ∨ L ((k - 1) * 4) < L (k * 4)) := by
  unfold okKey at h
  simp only [Bool.and_eq_true, Bool.or_eq_true, decide_eq_true_eq, mayB_true] at h
  exact h

/-- the place of the last of k keys that isn't behind a time; -1: there is none -/
def plc (L : Nat → Int) (t : Int) : Nat → Int
  | 0 => -1
  | k + 1 => if L (k * 4) ≤ t then k else plc L t k

theorem plc_bd (L : Nat → Int) (t : Int) : ∀ n, -1 ≤ plc L t n ∧ plc L t n < n
  | 0 => by simp [plc]
  | k + 1 => by
    have := plc_bd L t k
    unfold plc; split <;> omega

theorem plc_none {L : Nat → Int} {t : Int} : ∀ n, (∀ j, j < n → ¬ L (j * 4) ≤ t) → plc L t n = -1
  | 0, _ => rfl
  | k + 1, h => by
    unfold plc; rw [if_neg (h k (by omega))]; exact plc_none k (fun j hj => h j (by omega))

theorem plc_last {L : Nat → Int} {t : Int} {k : Nat} (hk : L (k * 4) ≤ t) : ∀ n, k < n → (∀ j, k < j → j < n → ¬ L (j * 4) ≤ t) → plc L t n = k
  | n + 1, hn, h => by
    unfold plc
    by_cases e : k = n
    · subst e; rw [if_pos hk]
    · rw [if_neg (h n (by omega) (by omega))]; exact plc_last hk n (by omega) (fun j h1 h2 => h j h1 (by omega))

theorem plc_le {L : Nat → Int} {t : Int} : ∀ {n : Nat} {k : Nat}, plc L t n = k → L (k * 4) ≤ t
  | 0, k, h => by unfold plc at h; omega
  | n + 1, k, h => by
    unfold plc at h
    by_cases e : L (n * 4) ≤ t
    · rw [if_pos e] at h; have : n = k := by omega
      subst this; exact e
    · rw [if_neg e] at h; exact plc_le h

/-- times rise -/
theorem times_rise {L : Nat → Int} {n : Nat} (h : ∀ k, k < n → okKey L k = true) {i : Nat} : ∀ {j : Nat}, i < j → j < n → L (i * 4) < L (j * 4)
  | j + 1, hij, hj => by
    have h1 := (key_of (h (j + 1) hj)).2
    simp at h1
    by_cases e : i = j
    · subst e; omega
    · have := times_rise h (i := i) (j := j) (by omega) (by omega)
      omega

/-- at its own time a key is the last one that isn't behind -/
theorem plc_own {L : Nat → Int} {n : Nat} (h : ∀ k, k < n → okKey L k = true) {k : Nat} (hk : k < n) : plc L (L (k * 4)) n = k :=
  plc_last (by omega) n hk (fun j h1 h2 => by have := times_rise h h1 h2; omega)

/-- what of a way between two keys a time is -/
def part (way t a b : Int) : Int := if way = 2 then Pl.ease (Pl.div (Pl.sub t a) (Pl.sub b a)) else Pl.div (Pl.sub t a) (Pl.sub b a)

/-- the number c (1, 2, 3) of a track's value at a time -/
def valN (way : Int) (n : Nat) (L : Nat → Int) (t : Int) (c : Nat) : Int :=
  if rightB way n L = false then 0
  else if plc L t n = -1 then L c
  else if plc L t n = n - 1 ∨ way = 0 then L ((plc L t n).toNat * 4 + c)
  else Pl.lerp (L ((plc L t n).toNat * 4 + c)) (L (((plc L t n).toNat + 1) * 4 + c)) (part way t (L ((plc L t n).toNat * 4)) (L (((plc L t n).toNat + 1) * 4)))
end Go.Proofs.YtplcbdmiccpnnaaGreat.Tk

/- Scenes, plainly: their numbers, what may be, the first rule broken. No program's code in sight. -/
namespace Go.Proofs.YtplcbdmiccpnnaaGreat.Sc
open Go.RowKit Go.Proofs.YtplcbdmiccpnnaaGreat Go.Proofs.YtplcbdmiccpnnaaGreat.Wa Go.Proofs.YtplcbdmiccpnnaaGreat.Ve Go.Proofs.YtplcbdmiccpnnaaGreat.Tk

/-- a scene's numbers -/
structure Scn where
  w : Int
  h : Int
  sm : Int
  dp : Int
  fr : Int
  sh : Int
  sd : Nat
  r : Int
  g : Int
  b : Int
  ey : Int
  lk : Int
  wd : Int
  np : Nat
  P : Nat → Int
  nt : Nat
  way : Nat → Int
  kn : Nat → Nat
  K : Nat → Nat → Int
  nj : Nat
  J : Nat → Int
  ns : Nat
  S : Nat → Int

/-- does a number lie between two? -/
def inB (n a b : Int) : Bool := decide (a ≤ n ∧ n ≤ b)

theorem inB_true {n a b : Int} : inB n a b = true ↔ a ≤ n ∧ n ≤ b := by simp [inB]

def lightB (r g b : Int) : Bool := inB r 0 1048576 && inB g 0 1048576 && inB b 0 1048576

def pointB (x y z : Int) : Bool := inB x (-16777216) 16777216 && inB y (-16777216) 16777216 && inB z (-16777216) 16777216

def hdB (s : Scn) : Bool := inB s.w 1 64 && inB s.h 1 64 && inB s.sm 1 16 && inB s.dp 1 6 && inB s.fr 1 32 && inB s.sh 0 65536 && lightB s.r s.g s.b

/-- may a paint be, by its five numbers? -/
def paintB (k r g b q : Int) : Bool := inB k 0 3 && lightB r g b && inB q 0 65536

def pB (s : Scn) (i : Nat) : Bool := paintB (s.P (i * 5)) (s.P (i * 5 + 1)) (s.P (i * 5 + 2)) (s.P (i * 5 + 3)) (s.P (i * 5 + 4))

def tB (s : Scn) (i : Nat) : Bool := rightB (s.way i) (s.kn i) (s.K i)

def jointB (i nt : Nat) (p m t z : Int) : Bool := inB p (-1) (i - 1) && inB m (-1) (nt - 1) && inB t (-1) (nt - 1) && inB z 1 4194304

def jB (s : Scn) (i : Nat) : Bool := jointB i s.nt (s.J (i * 4)) (s.J (i * 4 + 1)) (s.J (i * 4 + 2)) (s.J (i * 4 + 3))

/-- may a shape be, by its thirteen numbers? -/
def shapeB (nj np : Nat) (L : Nat → Int) : Bool :=
  inB (L 0) (-1) (nj - 1) && inB (L 1) 0 (np - 1) && pointB (L 3) (L 4) (L 5) &&
    (if L 2 = 0 then decide (L 6 = 0 ∧ L 7 = 0 ∧ L 8 = 0 ∧ L 9 = 0 ∧ L 10 = 0 ∧ L 11 = 0) && inB (L 12) 1 4194304
     else decide (L 2 = 1) && pointB (L 6) (L 7) (L 8) && pointB (L 9) (L 10) (L 11) && decide (L 12 = 0))

def row13 (s : Scn) (i j : Nat) : Int := s.S (i * 13 + j)

def sB (s : Scn) (i : Nat) : Bool := shapeB s.nj s.np (row13 s i)

def lnB (s : Scn) : Bool := inB s.ey 0 (s.nt - 1) && inB s.lk 0 (s.nt - 1) && inB s.wd 1 524288

/-- is a shape a lamp? -/
def lampB (s : Scn) (i : Nat) : Bool := decide (0 ≤ s.S (i * 13 + 1) ∧ s.S (i * 13 + 1) < s.np) && decide (s.P ((s.S (i * 13 + 1)).toNat * 5) = 3)

def lampsTo (s : Scn) : Nat → List Nat
  | 0 => []
  | k + 1 => if lampB s k then lampsTo s k ++ [k] else lampsTo s k

def lamps (s : Scn) : List Nat := lampsTo s s.ns

theorem lampsTo_len (s : Scn) : ∀ k, (lampsTo s k).length ≤ k
  | 0 => by simp [lampsTo]
  | k + 1 => by
    have := lampsTo_len s k
    unfold lampsTo
    split <;> simp <;> omega

theorem lampsTo_lt (s : Scn) : ∀ k, ∀ i ∈ lampsTo s k, i < k
  | 0, i, h => by simp [lampsTo] at h
  | k + 1, i, h => by
    unfold lampsTo at h
    split at h
    · simp at h
      rcases h with h | h
      · have := lampsTo_lt s k i h; omega
      · omega
    · have := lampsTo_lt s k i h; omega

/-- where a list breaks its rule first, or -1 -/
def badTo (b : Nat → Bool) : Nat → Int
  | 0 => -1
  | k + 1 => if badTo b k = -1 then (if b k then -1 else k) else badTo b k

def whereB (n most : Nat) (b : Nat → Bool) : Int := if most < n then most else badTo b n

theorem badTo_none {b : Nat → Bool} : ∀ {n : Nat}, (∀ k, k < n → b k = true) → badTo b n = -1
  | 0, _ => rfl
  | n + 1, h => by
    unfold badTo
    rw [if_pos (badTo_none fun k hk => h k (by omega)), h n (by omega)]; rfl

theorem badTo_at {b : Nat → Bool} {i : Nat} (h : ∀ k, k < i → b k = true) (hb : b i = false) : ∀ {n : Nat}, i < n → badTo b n = i
  | n + 1, hi => by
    unfold badTo
    by_cases e : i = n
    · subst e
      rw [if_pos (badTo_none h), hb]; rfl
    · rw [badTo_at h hb (n := n) (by omega), if_neg (by omega)]

theorem badTo_all {b : Nat → Bool} : ∀ {n : Nat}, badTo b n = -1 → ∀ k, k < n → b k = true
  | n + 1, h, k, hk => by
    unfold badTo at h
    by_cases e : badTo b n = -1
    · rw [if_pos e] at h
      by_cases e2 : k = n
      · subst e2
        cases e3 : b k with
        | true => rfl
        | false => rw [e3] at h; simp at h
      · exact badTo_all e k (by omega)
    · rw [if_neg e] at h; exact absurd h e

theorem badTo_bd {b : Nat → Bool} : ∀ n, -1 ≤ badTo b n ∧ badTo b n < n
  | 0 => by simp [badTo]
  | n + 1 => by
    have := badTo_bd (b := b) n
    unfold badTo
    split
    · split <;> omega
    · omega

theorem whereB_bd (n most : Nat) (b : Nat → Bool) : -1 ≤ whereB n most b ∧ whereB n most b ≤ most := by
  have := badTo_bd (b := b) n
  unfold whereB
  split <;> omega

theorem whereB_ok {n most : Nat} {b : Nat → Bool} (h : whereB n most b = -1) : n ≤ most ∧ ∀ k, k < n → b k = true := by
  unfold whereB at h
  by_cases e : most < n
  · rw [if_pos e] at h; omega
  · rw [if_neg e] at h; exact ⟨by omega, badTo_all h⟩

theorem whereB_none {n most : Nat} {b : Nat → Bool} (h : n ≤ most) (hb : ∀ k, k < n → b k = true) : whereB n most b = -1 := by
  unfold whereB; rw [if_neg (by omega)]; exact badTo_none hb

theorem whereB_more {n most : Nat} {b : Nat → Bool} (h : most < n) : whereB n most b = most := by
  unfold whereB; rw [if_pos h]

theorem whereB_at {n most i : Nat} {b : Nat → Bool} (h : n ≤ most) (hi : i < n) (hb : ∀ k, k < i → b k = true) (h0 : b i = false) : whereB n most b = i := by
  unfold whereB; rw [if_neg (by omega)]; exact badTo_at hb h0 hi

/-- of a rule that is asked once -/
def onceB (b : Bool) : Int := if b then -1 else 0

def lampW (s : Scn) : Int := if (lamps s).length ≤ 16 then -1 else ((lamps s).getD 16 0 : Nat)

/-- where the rules are broken, one by one -/
def wh (s : Scn) : Nat → Int
  | 0 => onceB (hdB s)
  | 1 => whereB s.np 32 (pB s)
  | 2 => whereB s.nt 32 (tB s)
  | 3 => whereB s.nj 32 (jB s)
  | 4 => whereB s.ns 128 (sB s)
  | 5 => onceB (lnB s)
  | _ => lampW s

/-- the first rule broken of the first k, and where -/
def chkTo (s : Scn) : Nat → Option (Int × Int)
  | 0 => none
  | k + 1 => match chkTo s k with
    | some x => some x
    | none => if wh s k = -1 then none else some (21 + k, wh s k)

def chk (s : Scn) : Int × Int := (chkTo s 7).getD (0, 0)

theorem chkTo_none {s : Scn} : ∀ {n : Nat}, (∀ k, k < n → wh s k = -1) → chkTo s n = none
  | 0, _ => rfl
  | n + 1, h => by
    unfold chkTo
    rw [chkTo_none fun k hk => h k (by omega)]
    simp [h n (by omega)]

theorem chkTo_at {s : Scn} {i : Nat} (h : ∀ k, k < i → wh s k = -1) (hb : wh s i ≠ -1) : ∀ {n : Nat}, i < n → chkTo s n = some ((21 : Int) + i, wh s i)
  | n + 1, hi => by
    unfold chkTo
    by_cases e : i = n
    · subst e
      rw [chkTo_none h]; simp [hb]
    · rw [chkTo_at h hb (n := n) (by omega)]

theorem chk_ok {s : Scn} (h : ∀ k, k < 7 → wh s k = -1) : chk s = (0, 0) := by unfold chk; rw [chkTo_none h]; rfl

theorem chk_bad {s : Scn} {i : Nat} (hi : i < 7) (h : ∀ k, k < i → wh s k = -1) (hb : wh s i ≠ -1) : chk s = ((21 : Int) + i, wh s i) := by unfold chk; rw [chkTo_at h hb hi]; rfl

theorem ok_chk {s : Scn} (h : (chk s).1 = 0) : ∀ k, k < 7 → wh s k = -1 := by
  intro k hk
  by_cases e : wh s k = -1
  · exact e
  · obtain ⟨i, hi, h1, h2⟩ : ∃ i, i < 7 ∧ (∀ k, k < i → wh s k = -1) ∧ wh s i ≠ -1 := by
      have : ∀ n, (∃ k, k < n ∧ wh s k ≠ -1) → ∃ i, i < n ∧ (∀ k, k < i → wh s k = -1) ∧ wh s i ≠ -1 := by
        intro n
        induction n with
        | zero => rintro ⟨k, hk, _⟩; omega
        | succ n ih =>
          rintro ⟨k, hk, hne⟩
          by_cases hex : ∃ k, k < n ∧ wh s k ≠ -1
          · obtain ⟨i, hi, r⟩ := ih hex; exact ⟨i, by omega, r⟩
          · refine ⟨k, hk, fun j hj => ?_, hne⟩
            by_cases e2 : wh s j = -1
            · exact e2
            · exact absurd ⟨j, by omega, e2⟩ hex
      exact this 7 ⟨k, hk, e⟩
    rw [chk_bad hi h1 h2] at h
    simp at h
    omega

end Go.Proofs.YtplcbdmiccpnnaaGreat.Sc
