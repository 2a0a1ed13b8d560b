/- Tracks, plainly: keys as rows of four numbers; which tracks may be; the place of a time. No program's code in sight. -/
import Derived.Test.YtfbppiamlolfpaaC14
import Derived.Test.YtfbppiamlolfpaaC22
namespace Go.Proofs.Ytfbppiamlolfpaa.Tk
open Go.RowKit Go.Proofs.Ytfbppiamlolfpaa Go.Proofs.Ytfbppiamlolfpaa.Wa Go.Proofs.Ytfbppiamlolfpaa.Ve

/-- a key as a value: its time, and its value's three numbers -/
abbrev K4 (t x y z : Int) : Value := .agg #[.int .i64 t, .int .i64 x, .int .i64 y, .int .i64 z]

/-- a slice of keys: none, or its numbers stand in one block -/
def KeysAt (w : World) (a : Option Addr) (n : Nat) (L : Nat → Int) : Prop :=
  n * 32 ≤ 140737488351232 ∧ (n = 0 ∨ ∃ b off, a = some ⟨b, off, none⟩ ∧ b < w.heap.size ∧ ∀ j, j < n * 4 → w.cell? ⟨b, off + j, none⟩ = some (.int .i64 (L j)))

theorem KeysAt.on {w w' : World} {a : Option Addr} {n : Nat} {L : Nat → Int} (h : KeysAt w a n L) (hb : Below w.heap.size w w') : KeysAt w' a n L := by
  obtain ⟨h0, h | ⟨b, off, rfl, hlt, hc⟩⟩ := h
  · exact ⟨h0, .inl h⟩
  · exact ⟨h0, .inr ⟨b, off, rfl, Nat.lt_of_lt_of_le hlt hb.size, fun j hj => (hb.cell (p := ⟨b, off + j, none⟩) hlt).trans (hc j hj)⟩⟩

/-- a cell of a world, under a name that the walk doesn't open -/
def Cell (W : World) (p : Addr) (v : Value) : Prop := W.cell? p = some v

theorem Cell.on {W w9 : World} {p : Addr} {v : Value} (h : Cell W p v) (hb : Below W.heap.size W w9) : Cell w9 p v := (hb.cell (World.block_lt_of_cell? _ _ h)).trans h

theorem Cell.is {W : World} {p : Addr} {v : Value} (h : Cell W p v) : W.cell? p = some v := h

theorem Cell.old {W : World} {b j : Nat} {v : Value} (h : Cell W ⟨b, j, none⟩ v) (o : Obj) : Cell (W.alloc o) ⟨b, j, none⟩ v := by
  have hlt := World.block_lt_of_cell? _ _ h
  unfold Cell at h ⊢
  rw [World.cell?_alloc_past _ _ _ hlt]; exact h

theorem Cell.draw {W : World} {p : Addr} {v : Value} (h : Cell W p v) : Cell W.drew p v := h

/-- the numbers of one key -/
def Four (w : World) (b o : Nat) (L : Nat → Int) (k : Nat) : Prop :=
  w.cell? ⟨b, o, none⟩ = some (.int .i64 (L (k * 4))) ∧ w.cell? ⟨b, o + 1, none⟩ = some (.int .i64 (L (k * 4 + 1))) ∧ w.cell? ⟨b, o + 2, none⟩ = some (.int .i64 (L (k * 4 + 2))) ∧ w.cell? ⟨b, o + 3, none⟩ = some (.int .i64 (L (k * 4 + 3)))

theorem four_of {w : World} {b off n : Nat} {L : Nat → Int} (hc : ∀ j, j < n * 4 → w.cell? ⟨b, off + j, none⟩ = some (.int .i64 (L j))) {k : Nat} (hk : k < n) : Four w b (off + k * 4) L k :=
  ⟨hc (k * 4) (by omega), hc (k * 4 + 1) (by omega), hc (k * 4 + 2) (by omega), hc (k * 4 + 3) (by omega)⟩

/-- whether a key may be, wherever it stands -/
def mayB (t x y z : Int) : Bool :=
  decide ((0 ≤ t ∧ t ≤ 2097152) ∧ (-2147483648 ≤ x ∧ x ≤ 2147483648) ∧ (-2147483648 ≤ y ∧ y ≤ 2147483648) ∧ (-2147483648 ≤ z ∧ z ≤ 2147483648))

theorem mayB_true {t x y z : Int} : mayB t x y z = true ↔ (0 ≤ t ∧ t ≤ 2097152) ∧ (-2147483648 ≤ x ∧ x ≤ 2147483648) ∧ (-2147483648 ≤ y ∧ y ≤ 2147483648) ∧ (-2147483648 ≤ z ∧ z ≤ 2147483648) := by
  unfold mayB; simp

/-- whether a key may stand where it stands -/
def okKey (L : Nat → Int) (k : Nat) : Bool :=
  mayB (L (k * 4)) (L (k * 4 + 1)) (L (k * 4 + 2)) (L (k * 4 + 3)) && (decide (k = 0) || decide (L ((k - 1) * 4) < L (k * 4)))

def okUpto (L : Nat → Int) : Nat → Bool
  | 0 => true
  | k + 1 => okUpto L k && okKey L k

/-- whether a track may be -/
def rightB (way : Int) (n : Nat) (L : Nat → Int) : Bool :=
  decide (0 ≤ way ∧ way ≤ 2 ∧ 1 ≤ n ∧ n ≤ 16) && okUpto L n

theorem okUpto_bad {L : Nat → Int} {k : Nat} (h : okKey L k = false) : ∀ n, k < n → okUpto L n = false
  | n + 1, hk => by
    unfold okUpto
    by_cases e : k = n
    · subst e; rw [h]; simp
    · rw [okUpto_bad h n (by omega)]; rfl

theorem okUpto_all {L : Nat → Int} : ∀ {n : Nat}, okUpto L n = true → ∀ k, k < n → okKey L k = true
  | n + 1, h, k, hk => by
    unfold okUpto at h
    simp at h
    by_cases e : k = n
    · subst e; exact h.2
    · exact okUpto_all h.1 k (by omega)

theorem rightB_shape {way : Int} {n : Nat} {L : Nat → Int} (h : ¬ (0 ≤ way ∧ way ≤ 2 ∧ 1 ≤ n ∧ n ≤ 16)) : rightB way n L = false := by
  unfold rightB; rw [decide_eq_false h]; rfl

theorem rightB_bad {way : Int} {n : Nat} {L : Nat → Int} {k : Nat} (h : okKey L k = false) (hk : k < n) : rightB way n L = false := by
  unfold rightB; rw [okUpto_bad h n hk]; simp

theorem rightB_good {way : Int} {n : Nat} {L : Nat → Int} (h : 0 ≤ way ∧ way ≤ 2 ∧ 1 ≤ n ∧ n ≤ 16) (ho : okUpto L n = true) : rightB way n L = true := by
  unfold rightB; rw [ho, decide_eq_true h]; rfl

theorem right_of {way : Int} {n : Nat} {L : Nat → Int} (h : rightB way n L = true) : (0 ≤ way ∧ way ≤ 2 ∧ 1 ≤ n ∧ n ≤ 16) ∧ ∀ k, k < n → okKey L k = true := by
  unfold rightB at h
  simp only [Bool.and_eq_true, decide_eq_true_eq] at h
  exact ⟨h.1, okUpto_all h.2⟩

/-- what a key of a track is -/
theorem key_of {L : Nat → Int} {k : Nat} (h : okKey L k = true) : ((0 ≤ L (k * 4) ∧ L (k * 4) ≤ 2097152) ∧ (-2147483648 ≤ L (k * 4 + 1) ∧ L (k * 4 + 1) ≤ 2147483648) ∧ (-2147483648 ≤ L (k * 4 + 2) ∧ L (k * 4 + 2) ≤ 2147483648) ∧ (-2147483648 ≤ L (k * 4 + 3) ∧ L (k * 4 + 3) ≤ 2147483648)) ∧ (k = 0 ∨ L ((k - 1) * 4) < L (k * 4)) := by
  unfold okKey at h
  simp only [Bool.and_eq_true, Bool.or_eq_true, decide_eq_true_eq, mayB_true] at h
  exact h

/-- the place of the last of k keys that isn't behind a time; -1: there is none -/
def plc (L : Nat → Int) (t : Int) : Nat → Int
  | 0 => -1
  | k + 1 => if L (k * 4) ≤ t then k else plc L t k

theorem plc_bd (L : Nat → Int) (t : Int) : ∀ n, -1 ≤ plc L t n ∧ plc L t n < n
  | 0 => by simp [plc]
  | k + 1 => by
    have := plc_bd L t k
    unfold plc; split <;> omega

theorem plc_none {L : Nat → Int} {t : Int} : ∀ n, (∀ j, j < n → ¬ L (j * 4) ≤ t) → plc L t n = -1
  | 0, _ => rfl
  | k + 1, h => by
    unfold plc; rw [if_neg (h k (by omega))]; exact plc_none k (fun j hj => h j (by omega))

theorem plc_last {L : Nat → Int} {t : Int} {k : Nat} (hk : L (k * 4) ≤ t) : ∀ n, k < n → (∀ j, k < j → j < n → ¬ L (j * 4) ≤ t) → plc L t n = k
  | n + 1, hn, h => by
    unfold plc
    by_cases e : k = n
    · subst e; rw [if_pos hk]
    · rw [if_neg (h n (by omega) (by omega))]; exact plc_last hk n (by omega) (fun j h1 h2 => h j h1 (by omega))

theorem plc_le {L : Nat → Int} {t : Int} : ∀ {n : Nat} {k : Nat}, plc L t n = k → L (k * 4) ≤ t
  | 0, k, h => by unfold plc at h; omega
  | n + 1, k, h => by
    unfold plc at h
    by_cases e : L (n * 4) ≤ t
    · rw [if_pos e] at h; have : n = k := by omega
      subst this; exact e
    · rw [if_neg e] at h; exact plc_le h

/-- times rise -/
theorem times_rise {L : Nat → Int} {n : Nat} (h : ∀ k, k < n → okKey L k = true) {i : Nat} : ∀ {j : Nat}, i < j → j < n → L (i * 4) < L (j * 4)
  | j + 1, hij, hj => by
    have h1 := (key_of (h (j + 1) hj)).2
    simp at h1
    by_cases e : i = j
    · subst e; omega
    · have := times_rise h (i := i) (j := j) (by omega) (by omega)
      omega

/-- at its own time a key is the last one that isn't behind -/
theorem plc_own {L : Nat → Int} {n : Nat} (h : ∀ k, k < n → okKey L k = true) {k : Nat} (hk : k < n) : plc L (L (k * 4)) n = k :=
  plc_last (by omega) n hk (fun j h1 h2 => by have := times_rise h h1 h2; omega)

/-- what of a way between two keys a time is -/
def part (way t a b : Int) : Int := if way = 2 then Pl.ease (Pl.div (Pl.sub t a) (Pl.sub b a)) else Pl.div (Pl.sub t a) (Pl.sub b a)

/-- the number c (1, 2, 3) of a track's value at a time -/
def valN (way : Int) (n : Nat) (L : Nat → Int) (t : Int) (c : Nat) : Int :=
  if rightB way n L = false then 0
  else if plc L t n = -1 then L c
  else if plc L t n = n - 1 ∨ way = 0 then L ((plc L t n).toNat * 4 + c)
  else Pl.lerp (L ((plc L t n).toNat * 4 + c)) (L (((plc L t n).toNat + 1) * 4 + c)) (part way t (L ((plc L t n).toNat * 4)) (L (((plc L t n).toNat + 1) * 4)))
end Go.Proofs.Ytfbppiamlolfpaa.Tk
