/- What the walks over matrices share: a matrix as a value, in a block; directions and points behind it. -/
import Derived.Test.YtplcbdmiccpnnaaVk
import Derived.Test.YtplcbdmiccpnnaaVg
import Derived.Test.YtplcbdmiccpnnaaVf
import Derived.Test.YtplcbdmiccpnnaaVfs
import Derived.Deep.DeepCutAuto
namespace Go.Proofs.Ytplcbdmiccpnnaa.Ve
open Go.RowKit Go.Proofs.Ytplcbdmiccpnnaa Go.Proofs.Ytplcbdmiccpnnaa.Wa

/-- a matrix as a value: three columns, and where zero goes -/
abbrev MV (m : Nat → Int) : Value := .agg #[.int .i64 (m 0), .int .i64 (m 1), .int .i64 (m 2), .int .i64 (m 3), .int .i64 (m 4), .int .i64 (m 5), .int .i64 (m 6), .int .i64 (m 7), .int .i64 (m 8), .int .i64 (m 9), .int .i64 (m 10), .int .i64 (m 11)]

/-- one number of a direction behind a matrix -/
def dir3 (a b c x y z : Int) : Int := Pl.add (Pl.add (Pl.add 0 (Pl.mul a x)) (Pl.mul b y)) (Pl.mul c z)

def dirN (m : Nat → Int) (x y z : Int) (i : Nat) : Int := dir3 (m i) (m (3 + i)) (m (6 + i)) x y z

def pointN (m : Nat → Int) (x y z : Int) (i : Nat) : Int := Pl.add (dirN m x y z i) (m (9 + i))

/-- one matrix behind another one -/
def timesN (m n : Nat → Int) (i : Nat) : Int :=
  if i < 3 then dirN m (n 0) (n 1) (n 2) i else if i < 6 then dirN m (n 3) (n 4) (n 5) (i - 3) else if i < 9 then dirN m (n 6) (n 7) (n 8) (i - 6) else pointN m (n 9) (n 10) (n 11) (i - 9)

def sizeN (s : Int) (i : Nat) : Int := if i = 0 ∨ i = 4 ∨ i = 8 then s else 0

def moveN (x y z : Int) (i : Nat) : Int := if i = 9 then x else if i = 10 then y else if i = 11 then z else sizeN 65536 i

/-- numbers in a block of their own, which can be written -/
def Bk (g c : Nat) (m : Nat → Int) (w : World) : Prop :=
  g < w.heap.size ∧ (∀ j, j < c → w.cell? ⟨g, j, none⟩ = some (.int .i64 (m j))) ∧ ∀ j, w.frozen? ⟨g, j, none⟩ = false

theorem Bk.lt {g c : Nat} {m : Nat → Int} {w : World} (h : Bk g c m w) : g < w.heap.size := h.1

theorem Bk.on {g c : Nat} {m : Nat → Int} {w w' : World} (h : Bk g c m w) (hb : Below w.heap.size w w') : Bk g c m w' := by
  obtain ⟨h0, h1, h2⟩ := h
  obtain ⟨hc, hf⟩ := bcell hb
  exact ⟨Nat.lt_of_lt_of_le h0 hb.size, fun j hj => (hc _ _ h0).trans (h1 j hj), fun j => (hf _ _ h0).trans (h2 j)⟩

theorem bset_at {wr : World} {b i j : Nat} {x v : Value} (hb : wr.cell? ⟨b, i, none⟩ = some v) : (wr.setCell ⟨b, i, none⟩ x).cell? ⟨b, j, none⟩ = if j = i then some x else wr.cell? ⟨b, j, none⟩ := by
  by_cases h : j = i
  · subst h; simp [World.cell?_setCell_same, hb]
  · rw [if_neg h]; exact World.cell?_setCell_other _ _ _ _ (by first | (simp; done) | (simp; omega))

theorem bset_far {wr : World} {b c i j : Nat} {x : Value} (h : c ≠ b) : (wr.setCell ⟨b, i, none⟩ x).cell? ⟨c, j, none⟩ = wr.cell? ⟨c, j, none⟩ :=
  World.cell?_setCell_other _ _ _ _ (by first | (simp; done) | (simp; omega))

theorem Bk.put {g c : Nat} {m : Nat → Int} {w : World} (h : Bk g c m w) {i : Nat} (hi : i < c) (x : Int) : Bk g c (fun j => if j = i then x else m j) (w.setCell ⟨g, i, none⟩ (.int .i64 x)) := by
  obtain ⟨h0, h1, h2⟩ := h
  refine ⟨by simpa using h0, fun j hj => ?_, fun j => by rw [World.frozen?_setCell]; exact h2 j⟩
  rw [bset_at (h1 i hi)]
  by_cases e : j = i
  · simp only [if_pos e]
  · simp only [if_neg e]; exact h1 j hj

theorem Bk.put3 {g c : Nat} {m : Nat → Int} {w : World} (h : Bk g c m w) {i : Nat} (hi : i + 2 < c) (x y z : Int) : Bk g c (fun j => if j = i + 2 then z else if j = i + 1 then y else if j = i then x else m j) (((w.setCell ⟨g, i, none⟩ (.int .i64 x)).setCell ⟨g, i + 1, none⟩ (.int .i64 y)).setCell ⟨g, i + 2, none⟩ (.int .i64 z)) :=
  ((h.put (i := i) (by omega) x).put (i := i + 1) (by omega) y).put hi z

theorem Bk.far {g c k i : Nat} {m : Nat → Int} {w : World} (h : Bk g c m w) (hn : g ≠ k) (v : Value) : Bk g c m (w.setCell ⟨k, i, none⟩ v) := by
  obtain ⟨h0, h1, h2⟩ := h
  exact ⟨by simpa using h0, fun j hj => (bset_far hn).trans (h1 j hj), fun j => by rw [World.frozen?_setCell]; exact h2 j⟩

theorem Bk.far3 {g c k i j l : Nat} {m : Nat → Int} {w : World} (h : Bk g c m w) (hn : g ≠ k) (x y z : Value) : Bk g c m (((w.setCell ⟨k, i, none⟩ x).setCell ⟨k, j, none⟩ y).setCell ⟨k, l, none⟩ z) :=
  ((h.far hn x).far hn y).far hn z

theorem Bk.far12 {g c k : Nat} {m : Nat → Int} {w : World} (h : Bk g c m w) (hn : g ≠ k) (v0 v1 v2 v3 v4 v5 v6 v7 v8 v9 v10 v11 : Value) : Bk g c m ((((((((((((w.setCell ⟨k, 0, none⟩ v0).setCell ⟨k, 1, none⟩ v1).setCell ⟨k, 2, none⟩ v2).setCell ⟨k, 3, none⟩ v3).setCell ⟨k, 4, none⟩ v4).setCell ⟨k, 5, none⟩ v5).setCell ⟨k, 6, none⟩ v6).setCell ⟨k, 7, none⟩ v7).setCell ⟨k, 8, none⟩ v8).setCell ⟨k, 9, none⟩ v9).setCell ⟨k, 10, none⟩ v10).setCell ⟨k, 11, none⟩ v11) :=
  ((((((((((((h.far hn v0).far hn v1).far hn v2).far hn v3).far hn v4).far hn v5).far hn v6).far hn v7).far hn v8).far hn v9).far hn v10).far hn v11)

theorem below_set12 {B k : Nat} {a w : World} (h : Below B a w) (hk : B ≤ k) (v0 v1 v2 v3 v4 v5 v6 v7 v8 v9 v10 v11 : Value) : Below B a ((((((((((((w.setCell ⟨k, 0, none⟩ v0).setCell ⟨k, 1, none⟩ v1).setCell ⟨k, 2, none⟩ v2).setCell ⟨k, 3, none⟩ v3).setCell ⟨k, 4, none⟩ v4).setCell ⟨k, 5, none⟩ v5).setCell ⟨k, 6, none⟩ v6).setCell ⟨k, 7, none⟩ v7).setCell ⟨k, 8, none⟩ v8).setCell ⟨k, 9, none⟩ v9).setCell ⟨k, 10, none⟩ v10).setCell ⟨k, 11, none⟩ v11) :=
  ((((((((((((h.setCell (p := ⟨k, 0, none⟩) hk v0).setCell (p := ⟨k, 1, none⟩) hk v1).setCell (p := ⟨k, 2, none⟩) hk v2).setCell (p := ⟨k, 3, none⟩) hk v3).setCell (p := ⟨k, 4, none⟩) hk v4).setCell (p := ⟨k, 5, none⟩) hk v5).setCell (p := ⟨k, 6, none⟩) hk v6).setCell (p := ⟨k, 7, none⟩) hk v7).setCell (p := ⟨k, 8, none⟩) hk v8).setCell (p := ⟨k, 9, none⟩) hk v9).setCell (p := ⟨k, 10, none⟩) hk v10).setCell (p := ⟨k, 11, none⟩) hk v11)

theorem Bk.eq {g c : Nat} {m n : Nat → Int} {w : World} (h : Bk g c m w) (he : ∀ j, j < c → m j = n j) : Bk g c n w :=
  ⟨h.1, fun j hj => by rw [← he j hj]; exact h.2.1 j hj, h.2.2⟩

theorem below_set3 {B k i j l : Nat} {a w : World} (h : Below B a w) (hk : B ≤ k) (x y z : Value) : Below B a (((w.setCell ⟨k, i, none⟩ x).setCell ⟨k, j, none⟩ y).setCell ⟨k, l, none⟩ z) :=
  ((h.setCell (p := ⟨k, i, none⟩) hk x).setCell (p := ⟨k, j, none⟩) hk y).setCell (p := ⟨k, l, none⟩) hk z

theorem Bk.c3 {g : Nat} {m : Nat → Int} {w : World} (h : Bk g 3 m w) : w.cell? ⟨g, 0, none⟩ = some (.int .i64 (m 0)) ∧ w.cell? ⟨g, 1, none⟩ = some (.int .i64 (m 1)) ∧ w.cell? ⟨g, 2, none⟩ = some (.int .i64 (m 2)) :=
  ⟨h.2.1 0 (by omega), h.2.1 1 (by omega), h.2.1 2 (by omega)⟩

theorem Bk.c12 {g : Nat} {m : Nat → Int} {w : World} (h : Bk g 12 m w) : w.cell? ⟨g, 0, none⟩ = some (.int .i64 (m 0)) ∧ w.cell? ⟨g, 1, none⟩ = some (.int .i64 (m 1)) ∧ w.cell? ⟨g, 2, none⟩ = some (.int .i64 (m 2)) ∧ w.cell? ⟨g, 3, none⟩ = some (.int .i64 (m 3)) ∧ w.cell? ⟨g, 4, none⟩ = some (.int .i64 (m 4)) ∧ w.cell? ⟨g, 5, none⟩ = some (.int .i64 (m 5)) ∧ w.cell? ⟨g, 6, none⟩ = some (.int .i64 (m 6)) ∧ w.cell? ⟨g, 7, none⟩ = some (.int .i64 (m 7)) ∧ w.cell? ⟨g, 8, none⟩ = some (.int .i64 (m 8)) ∧ w.cell? ⟨g, 9, none⟩ = some (.int .i64 (m 9)) ∧ w.cell? ⟨g, 10, none⟩ = some (.int .i64 (m 10)) ∧ w.cell? ⟨g, 11, none⟩ = some (.int .i64 (m 11)) :=
  ⟨h.2.1 0 (by omega), h.2.1 1 (by omega), h.2.1 2 (by omega), h.2.1 3 (by omega), h.2.1 4 (by omega), h.2.1 5 (by omega), h.2.1 6 (by omega), h.2.1 7 (by omega), h.2.1 8 (by omega), h.2.1 9 (by omega), h.2.1 10 (by omega), h.2.1 11 (by omega)⟩

theorem draw_below {w w1 : World} (hb : Below w.drew.heap.size w.drew w1) : Below w.heap.size w w1 := ((Below.refl w.heap.size w).drew).trans (hb.mono (by simp))

/-- three numbers by their place -/
def f3 (x y z : Int) (j : Nat) : Int := if j = 0 then x else if j = 1 then y else z

theorem new3 (w : World) (n : Nat) (hn : n = w.heap.size) (x y z : Int) (t : TypeId) : Bk n 3 (f3 x y z) (w.alloc (.cells #[.int .i64 x, .int .i64 y, .int .i64 z] t)) := by
  subst hn
  refine ⟨by simp, fun j hj => ?_, fun j => by go_simp⟩
  match j, hj with
  | 0, _ => go_simp; rfl
  | 1, _ => go_simp; rfl
  | 2, _ => go_simp; rfl

/-- a block that was written as a whole -/
theorem Bk.put12 {g : Nat} {m : Nat → Int} {w : World} (h : Bk g 12 m w) (n : Nat → Int) : Bk g 12 n (((((((((((((w.setCell ⟨g, 0, none⟩ (.int .i64 (n 0))).setCell ⟨g, 1, none⟩ (.int .i64 (n 1))).setCell ⟨g, 2, none⟩ (.int .i64 (n 2))).setCell ⟨g, 3, none⟩ (.int .i64 (n 3))).setCell ⟨g, 4, none⟩ (.int .i64 (n 4))).setCell ⟨g, 5, none⟩ (.int .i64 (n 5))).setCell ⟨g, 6, none⟩ (.int .i64 (n 6))).setCell ⟨g, 7, none⟩ (.int .i64 (n 7))).setCell ⟨g, 8, none⟩ (.int .i64 (n 8))).setCell ⟨g, 9, none⟩ (.int .i64 (n 9))).setCell ⟨g, 10, none⟩ (.int .i64 (n 10))).setCell ⟨g, 11, none⟩ (.int .i64 (n 11)))) := by
  refine ((((((((((((((h.put (i := 0) (by omega) (n 0)).put (i := 1) (by omega) (n 1)).put (i := 2) (by omega) (n 2)).put (i := 3) (by omega) (n 3)).put (i := 4) (by omega) (n 4)).put (i := 5) (by omega) (n 5)).put (i := 6) (by omega) (n 6)).put (i := 7) (by omega) (n 7)).put (i := 8) (by omega) (n 8)).put (i := 9) (by omega) (n 9)).put (i := 10) (by omega) (n 10)).put (i := 11) (by omega) (n 11)))).eq fun j hj => ?_
  match j, hj with
  | 0, _ => rfl
  | 1, _ => rfl
  | 2, _ => rfl
  | 3, _ => rfl
  | 4, _ => rfl
  | 5, _ => rfl
  | 6, _ => rfl
  | 7, _ => rfl
  | 8, _ => rfl
  | 9, _ => rfl
  | 10, _ => rfl
  | 11, _ => rfl

/-- a block of three that was written as a whole -/
theorem Bk.putw3 {g : Nat} {m : Nat → Int} {w : World} (h : Bk g 3 m w) (n : Nat → Int) : Bk g 3 n (((w.setCell ⟨g, 0, none⟩ (.int .i64 (n 0))).setCell ⟨g, 1, none⟩ (.int .i64 (n 1))).setCell ⟨g, 2, none⟩ (.int .i64 (n 2))) := by
  refine (((h.put (i := 0) (by omega) (n 0)).put (i := 1) (by omega) (n 1)).put (i := 2) (by omega) (n 2)).eq fun j hj => ?_
  match j, hj with
  | 0, _ => rfl
  | 1, _ => rfl
  | 2, _ => rfl

theorem Bk.v3 {g : Nat} {x y z : Int} {w : World} (h : Bk g 3 (f3 x y z) w) : w.cell? ⟨g, 0, none⟩ = some (.int .i64 x) ∧ w.cell? ⟨g, 1, none⟩ = some (.int .i64 y) ∧ w.cell? ⟨g, 2, none⟩ = some (.int .i64 z) :=
  ⟨h.2.1 0 (by omega), h.2.1 1 (by omega), h.2.1 2 (by omega)⟩

theorem Bk.putf3 {g : Nat} {m : Nat → Int} {w : World} (h : Bk g 3 m w) (x y z : Int) : Bk g 3 (f3 x y z) (((w.setCell ⟨g, 0, none⟩ (.int .i64 x)).setCell ⟨g, 1, none⟩ (.int .i64 y)).setCell ⟨g, 2, none⟩ (.int .i64 z)) :=
  h.putw3 (f3 x y z)

/-- a block that was written as a whole, with numbers that are those of a row -/
theorem Bk.put12v {g : Nat} {m : Nat → Int} {w : World} (h : Bk g 12 m w) (n : Nat → Int) {i0 i1 i2 i3 i4 i5 i6 i7 i8 i9 i10 i11 : Int} (e0 : i0 = n 0) (e1 : i1 = n 1) (e2 : i2 = n 2) (e3 : i3 = n 3) (e4 : i4 = n 4) (e5 : i5 = n 5) (e6 : i6 = n 6) (e7 : i7 = n 7) (e8 : i8 = n 8) (e9 : i9 = n 9) (e10 : i10 = n 10) (e11 : i11 = n 11) : Bk g 12 n ((((((((((((w.setCell ⟨g, 0, none⟩ (.int .i64 i0)).setCell ⟨g, 1, none⟩ (.int .i64 i1)).setCell ⟨g, 2, none⟩ (.int .i64 i2)).setCell ⟨g, 3, none⟩ (.int .i64 i3)).setCell ⟨g, 4, none⟩ (.int .i64 i4)).setCell ⟨g, 5, none⟩ (.int .i64 i5)).setCell ⟨g, 6, none⟩ (.int .i64 i6)).setCell ⟨g, 7, none⟩ (.int .i64 i7)).setCell ⟨g, 8, none⟩ (.int .i64 i8)).setCell ⟨g, 9, none⟩ (.int .i64 i9)).setCell ⟨g, 10, none⟩ (.int .i64 i10)).setCell ⟨g, 11, none⟩ (.int .i64 i11)) := by
  subst e0 e1 e2 e3 e4 e5 e6 e7 e8 e9 e10 e11
  exact h.put12 n

/-- what holds where all orders of a region meet -/
def meetPost (A : Act) (R : World → Prop) : Exit → Act → World → Prop
  | .normal, a, w => a = A ∧ R w
  | _, _, _ => False

theorem wp_meet {P : Program} {c : Code} {Q : Exit → Act → World → Prop} {a : Act} {w : World} (A : Act) (R : World → Prop) (h : c.wp P (meetPost A R) a w) (k : ∀ wx, R wx → Q .normal A wx) : c.wp P Q a w :=
  Code.wp_mono (fun e a' w' h' => by
    cases e with
    | normal => obtain ⟨rfl, hr⟩ := h'; exact k _ hr
    | _ => exact False.elim h') h

/-- the number in a block's cell -/
def numAt (g : Nat) (w : World) (j : Nat) : Int := match w.cell? ⟨g, j, none⟩ with
  | some (.int _ n) => n
  | _ => 0

theorem Bk.e3 {g : Nat} {x y z : Int} {w : World} (h : Bk g 3 (f3 x y z) w) : numAt g w 0 = x ∧ numAt g w 1 = y ∧ numAt g w 2 = z := by
  obtain ⟨a, b, c⟩ := h.v3
  unfold numAt
  rw [a, b, c]
  exact ⟨rfl, rfl, rfl⟩

theorem Bk.n3 {g : Nat} {x y z : Int} {w : World} (h : Bk g 3 (f3 x y z) w) : w.cell? ⟨g, 0, none⟩ = some (.int .i64 (numAt g w 0)) ∧ w.cell? ⟨g, 1, none⟩ = some (.int .i64 (numAt g w 1)) ∧ w.cell? ⟨g, 2, none⟩ = some (.int .i64 (numAt g w 2)) := by
  obtain ⟨e, f, g⟩ := h.e3
  rw [e, f, g]
  exact h.v3

/-- three points of a new row -/
theorem pts9 (w : World) (a b c d e f g h i : Int) (t : TypeId) : PtsV (w.alloc (.cells #[.int .i64 a, .int .i64 b, .int .i64 c, .int .i64 d, .int .i64 e, .int .i64 f, .int .i64 g, .int .i64 h, .int .i64 i] t)) (.slice (some ⟨w.heap.size, 0, none⟩) 3 3) 3 (f3 a d g) (f3 b e h) (f3 c f i) := by
  refine .inr ⟨w.heap.size, 3, rfl, by simp, fun j hj => ?_⟩
  match j, hj with
  | 0, _ => exact ⟨by go_simp; rfl, by go_simp; rfl, by go_simp; rfl⟩
  | 1, _ => exact ⟨by go_simp; rfl, by go_simp; rfl, by go_simp; rfl⟩
  | 2, _ => exact ⟨by go_simp; rfl, by go_simp; rfl, by go_simp; rfl⟩

theorem new12 (w : World) (n : Nat) (hn : n = w.heap.size) (m : Nat → Int) (t : TypeId) : Bk n 12 m (w.alloc (.cells #[.int .i64 (m 0), .int .i64 (m 1), .int .i64 (m 2), .int .i64 (m 3), .int .i64 (m 4), .int .i64 (m 5), .int .i64 (m 6), .int .i64 (m 7), .int .i64 (m 8), .int .i64 (m 9), .int .i64 (m 10), .int .i64 (m 11)] t)) := by
  subst hn
  refine ⟨by simp, fun j hj => ?_, fun j => by go_simp⟩
  match j, hj with
  | 0, _ => go_simp
  | 1, _ => go_simp
  | 2, _ => go_simp
  | 3, _ => go_simp
  | 4, _ => go_simp
  | 5, _ => go_simp
  | 6, _ => go_simp
  | 7, _ => go_simp
  | 8, _ => go_simp
  | 9, _ => go_simp
  | 10, _ => go_simp
  | 11, _ => go_simp

end Go.Proofs.Ytplcbdmiccpnnaa.Ve
