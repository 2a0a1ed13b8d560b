/- Jobs: a writer, and what its calls leave be: all rows but those of bytes, and what lies below its base. -/
import Derived.Test.YtcohehekkeeeoaaDoorF13
import Derived.Test.YtcohehekkeeeoaaDoorF09
import Derived.Test.YtcohehekkeeeoaaDoorF14
import Derived.BigQuiet
namespace Go.Proofs.YtcohehekkeeeoaaDoor.Jw
open Go.RowKit Go.Proofs.YtcohehekkeeeoaaDoor Go.Proofs.YtcohehekkeeeoaaDoor.Rp Go.Proofs.YtcohehekkeeeoaaDoor.Re Go.Proofs.YtcohehekkeeeoaaDoor.Au
set_option linter.unusedVariables false
set_option linter.unusedSimpArgs false

/-- a writer in block g, from the base B on: what it has laid -/
def WP (g B : Nat) (l : List UInt8) (w : World) : Prop :=
  g < w.heap.size ∧ B ≤ g ∧ (∀ j, w.frozen? ⟨g, j, none⟩ = false) ∧ ∃ v, w.cell? ⟨g, 0, none⟩ = some v ∧ w.ownsRow B 5 1 v l.length (vals l) ∧ ∀ q, v.ownBlock = some q → q ≠ g

/-- what its calls let be -/
def WS (g B : Nat) (w : World) (k : Nat) : Prop := k < w.heap.size ∧ k ≠ g ∧ (k < B ∨ ∃ cs t fr, w.heap[k]? = some (.cells cs t fr) ∧ t ≠ 5)

theorem own_lift {w : World} {v : Value} {n B : Nat} {xs : List Value} (h : w.ownsRow 0 5 1 v n xs) (hb : ∀ q, v.ownBlock = some q → B ≤ q) : w.ownsRow B 5 1 v n xs := by
  refine ⟨h.1, ?_⟩
  rcases h.2 with hn | ⟨q, cap, cur, rfl, h1, h2⟩
  · exact .inl hn
  · exact .inr ⟨q, cap, cur, rfl, hb q rfl, h2⟩

theorem own_drop {w : World} {v : Value} {n B : Nat} {xs : List Value} (h : w.ownsRow B 5 1 v n xs) : w.ownsRow 0 5 1 v n xs := by
  refine ⟨h.1, ?_⟩
  rcases h.2 with hn | ⟨q, cap, cur, rfl, h1, h2⟩
  · exact .inl hn
  · exact .inr ⟨q, cap, cur, rfl, Nat.zero_le _, h2⟩

theorem WP.use {g B : Nat} {l : List UInt8} {w : World} (h : WP g B l w) : WAt g (WS g B w) l w := by
  obtain ⟨h1, h2, h3, v, h4, h5, h6⟩ := h
  refine ⟨h1, fun k hk => hk.1, fun hk => hk.2.1 rfl, h3, v, h4, own_drop h5, fun q hq => ⟨fun hk => ?_, h6 q hq⟩⟩
  have hb := (h5.lt q hq).1
  rcases hk.2.2 with hk | ⟨cs, t, fr, hk, ht⟩
  · omega
  · rcases h5.2 with ⟨rfl, -⟩ | ⟨q', cap, cur, rfl, h7, h8, -⟩
    · simp [Value.ownBlock] at hq
    · simp [Value.ownBlock] at hq
      subst hq
      rw [h8] at hk
      simp at hk
      exact ht hk.2.1.symm

theorem WP.back {g B : Nat} {l : List UInt8} {w w' : World} (hB : B ≤ g) (hw : g < w.heap.size) (h : WAt g (WS g B w) l w') : WP g B l w' := by
  obtain ⟨h1, h2, h0, h3, v, h4, h5, h6⟩ := h
  refine ⟨h1, hB, h3, v, h4, own_lift h5 fun q hq => ?_, fun q hq => (h6 q hq).2⟩
  rcases Nat.lt_or_ge q B with hlt | hge
  · exact absurd ⟨by omega, (h6 q hq).2, .inl hlt⟩ (h6 q hq).1
  · exact hge

theorem aft_of_aw {g B : Nat} {w w' : World} (h : Aw (WS g B w) w w') : Aft g B w w' :=
  ⟨h.os, h.tape, h.output, h.size, fun k h1 h2 h3 => h.block k ⟨h2, h3, .inl h1⟩ h2, fun k cs t fr h1 h2 h3 => (h.block k ⟨lt_of_heap h3, h1, .inr ⟨cs, t, fr, h3, h2⟩⟩ (lt_of_heap h3)).trans h3⟩

theorem WP.new {g B : Nat} {l : List UInt8} {w w' : World} (h : WP g B l w) (hb : Below w.heap.size w w') : WP g B l w' := by
  obtain ⟨h1, h2, h3, v, h4, h5, h6⟩ := h
  exact ⟨Nat.lt_of_lt_of_le h1 hb.size, h2, fun j => (hb.frozen (p := ⟨g, j, none⟩) h1).trans (h3 j), v, (hb.cell (p := ⟨g, 0, none⟩) h1).trans h4, by
    refine ⟨h5.1, ?_⟩
    have hl := fun q hq => h5.lt q hq
    rcases h5.2 with hn | ⟨q, cap, cur, rfl, k1, k2, k3⟩
    · exact .inl hn
    · exact .inr ⟨q, cap, cur, rfl, k1, (hb.block q (hl q rfl).2).trans k2, k3⟩, h6⟩

theorem wp_drew {g B : Nat} {l : List UInt8} {w : World} (h : WP g B l w) : WP g B l w.drew := h.new (Below.refl _ w).drew

theorem WP.size {g B : Nat} {l : List UInt8} {w : World} (h : WP g B l w) : B ≤ g ∧ g < w.heap.size := ⟨h.2.1, h.1⟩

theorem lift {fn : FuncId} {args : Array Value} {g B : Nat} {l l' : List UInt8} {w : World} (hw : WP g B l w) (h : Calls Tryd.prog fn args w fun e w' => e = .returned (.tuple #[]) ∧ WAt g (WS g B w) l' w' ∧ Aw (WS g B w) w w') :
    Calls Tryd.prog fn args w fun e w' => e = .returned (.tuple #[]) ∧ WP g B l' w' ∧ Aft g B w w' :=
  h.mono fun e w' ⟨he, a, b⟩ => ⟨he, WP.back hw.2.1 hw.1 a, aft_of_aw b⟩

abbrev ivs (zs : List Int) : Array Value := (zs.map fun z => Value.int .i64 z).toArray

theorem ivs_at (zs : List Int) : ∀ j, j < zs.length → (ivs zs)[j]? = some (.int .i64 (zs.getD j 0)) := by
  intro j hj
  simp [ivs, List.getElem?_eq_getElem hj, List.getD]

theorem wints {g B b : Nat} {zs : List Int} {cs : Array Value} {t : TypeId} {w : World} (hr : w.heap[b]? = some (.cells cs t (0, 0))) (hc : cs = ivs zs) (ht : t ≠ 5) (hb : b ≠ g) : Ints (WS g B w) w (some ⟨b, 0, none⟩) zs := by
  subst hc
  exact Ints.cons zs hr ⟨lt_of_heap hr, hb, .inr ⟨_, _, _, hr, ht⟩⟩ (ivs_at zs)

/-- the bytes of some points -/
def vecsOf (L : Nat → Int) : Nat → List UInt8
  | 0 => []
  | k + 1 => vecsOf L k ++ numsOf 5 [L (k * 3), L (k * 3 + 1), L (k * 3 + 2)]

theorem vecsOf_length (L : Nat → Int) (k : Nat) : (vecsOf L k).length = k * 15 := by
  induction k with
  | zero => rfl
  | succ k ih => simp only [vecsOf, List.length_append, ih, numsOf_length]; simp; omega

end Go.Proofs.YtcohehekkeeeoaaDoor.Jw

/- Films: what a film is, plainly; rows of numbers that lie in memory; sizes. -/
namespace Go.Proofs.YtcohehekkeeeoaaDoor.Fm
open Go.RowKit Go.Proofs.YtcohehekkeeeoaaDoor Go.Proofs.YtcohehekkeeeoaaDoor.Rp Go.Proofs.YtcohehekkeeeoaaDoor.Re Go.Proofs.YtcohehekkeeeoaaDoor.Au Go.Proofs.YtcohehekkeeeoaaDoor.Jw
set_option linter.unusedVariables false
set_option linter.unusedSimpArgs false

/-- a film: how wide and high, of each list how many, and their numbers, one behind the other -/
structure Flm where
  W : Int
  H : Int
  nl : Nat
  nd : Nat
  nn : Nat
  nb : Nat
  ns : Nat
  nf : Nat
  L : Nat → Int
  D : Nat → Int
  N : Nat → Int
  B : Nat → Int
  S : Nat → Int
  F : Nat → Int

def okSz (W H : Int) : Prop := 1 ≤ W ∧ W ≤ 64 ∧ 1 ≤ H ∧ H ≤ 64

instance (W H : Int) : Decidable (okSz W H) := by unfold okSz; infer_instance

def okSh (W H : Int) (nl : Nat) : Prop := okSz W H ∧ (nl : Int) = W * H

instance (W H : Int) (nl : Nat) : Decidable (okSh W H nl) := by unfold okSh; infer_instance

/-- so many numbers, each between two others -/
def lie (L : Nat → Int) (n : Nat) (a b : Int) : Prop := ∀ j, j < n → a ≤ L j ∧ L j ≤ b

instance (L : Nat → Int) (n : Nat) (a b : Int) : Decidable (lie L n a b) := by unfold lie; infer_instance

def okF (f : Flm) : Prop := okSh f.W f.H f.nl ∧ (f.nd : Int) = f.W * f.H ∧ (f.nn : Int) = f.W * f.H ∧ (f.nb : Int) = f.W * f.H ∧ ((f.ns : Int) = f.W * f.H ∧ lie f.S f.ns (-1) 127) ∧ ((f.nf : Int) = f.W * f.H ∧ lie f.F f.nf (-1) (f.W * f.H - 1))

instance (f : Flm) : Decidable (okF f) := by unfold okF; infer_instance

theorem okSz_mul {W H : Int} (h : okSz W H) : 1 ≤ W * H ∧ W * H ≤ 4096 := by
  obtain ⟨h1, h2, h3, h4⟩ := h
  have a := Int.mul_le_mul h1 h3 (by omega) (by omega)
  have b := Int.mul_le_mul h2 h4 (by omega) (by omega)
  omega

theorem lies_any (n a b : Int) (w : World) : Calls Tryd.prog 66 #[.int .i64 n, .int .i64 a, .int .i64 b] w fun e w' => e = .returned (.bool (decide (a ≤ n ∧ n ≤ b))) ∧ w' = w := by
  obtain ⟨r, hr⟩ : ∃ r, r = decide (a ≤ n ∧ n ≤ b) := ⟨_, rfl⟩
  rw [← hr]
  by_cases h1 : a ≤ n
  · by_cases h2 : n ≤ b
    · have HD := Lib.hid (show r = true by rw [hr]; simp [h1, h2])
      clear hr
      go_enter Tryd.func66, Tryd.ntmps66
      go_wp2
      go_ret
      exact ⟨by rw [HD.out]; rfl, rfl⟩
    · have HD := Lib.hid (show r = false by rw [hr]; simp [h2])
      clear hr
      go_enter Tryd.func66, Tryd.ntmps66
      go_wp2
      go_ret
      exact ⟨by rw [HD.out]; rfl, rfl⟩
  · have HD := Lib.hid (show r = false by rw [hr]; simp [h1])
    clear hr
    go_enter Tryd.func66, Tryd.ntmps66
    go_wp2
    go_ret
    exact ⟨by rw [HD.out]; rfl, rfl⟩

theorem szright_any (W H : Int) (w : World) : Calls Tryd.prog 48 #[.agg #[.int .i64 W, .int .i64 H]] w fun e w' => e = .returned (.bool (decide (okSz W H))) ∧ Below w.heap.size w w' := by
  have HB := Lib.hid (below_n1 w (.cells #[.int .i64 W, .int .i64 H] 33))
  by_cases h1 : 1 ≤ W ∧ W ≤ 64
  · have d1 := decide_eq_true h1
    by_cases h2 : 1 ≤ H ∧ H ≤ 64
    · have d2 := decide_eq_true h2
      have HD := Lib.hid (show decide (okSz W H) = true from decide_eq_true ⟨h1.1, h1.2, h2.1, h2.2⟩)
      clear h1 h2
      go_enter Tryd.func48, Tryd.ntmps48
      go_wp2_with fail
      refine (lies_any _ _ _ _).mono ?_
      rintro e w1 ⟨rfl, rfl⟩
      rw [d1]
      go_wp2_with fail
      refine (lies_any _ _ _ _).mono ?_
      rintro e w1 ⟨rfl, rfl⟩
      rw [d2]
      go_wp2
      go_ret
      exact ⟨by rw [HD.out]; rfl, HB.out⟩
    · have d2 := decide_eq_false h2
      have HD := Lib.hid (show decide (okSz W H) = false from decide_eq_false fun h => h2 ⟨h.2.2.1, h.2.2.2⟩)
      clear h1 h2
      go_enter Tryd.func48, Tryd.ntmps48
      go_wp2_with fail
      refine (lies_any _ _ _ _).mono ?_
      rintro e w1 ⟨rfl, rfl⟩
      rw [d1]
      go_wp2_with fail
      refine (lies_any _ _ _ _).mono ?_
      rintro e w1 ⟨rfl, rfl⟩
      rw [d2]
      go_wp2
      go_ret
      exact ⟨by rw [HD.out]; rfl, HB.out⟩
  · have d1 := decide_eq_false h1
    have HD := Lib.hid (show decide (okSz W H) = false from decide_eq_false fun h => h1 ⟨h.1, h.2.1⟩)
    clear h1
    go_enter Tryd.func48, Tryd.ntmps48
    go_wp2_with fail
    refine (lies_any _ _ _ _).mono ?_
    rintro e w1 ⟨rfl, rfl⟩
    rw [d1]
    go_wp2
    go_ret
    exact ⟨by rw [HD.out]; rfl, HB.out⟩

theorem below_rest {B : Nat} {w w' : World} (h : Below B w w') {k : Nat} (hk : k < B) : w'.heap[k]? = w.heap[k]? := h.block k hk

theorem below_drewQ {B : Nat} {a w : World} (h : Below B a w) (n : Nat) : Below B a (w.drewN n) := ⟨h.os, h.tape, h.output, h.size, h.block⟩

theorem pix_ok (W H : Int) (hok : okSz W H) (w : World) : Calls Tryd.prog 37 #[.agg #[.int .i64 W, .int .i64 H]] w fun e w' => e = .returned (.int .i64 (W * H)) ∧ Below w.heap.size w w' := by
  obtain ⟨m1, m2⟩ := okSz_mul hok
  obtain ⟨k1, k2, k3, k4⟩ := hok
  obtain ⟨m, hm⟩ : ∃ m, m = W * H := ⟨_, rfl⟩
  have hw : IntKind.i64.wrap (W * H) = m := by rw [IntKind.wrap_i64]; omega
  have hw2 : wrap64 (W * H) = m := by unfold wrap64; omega
  have t1 : m.tdiv W = H := by rw [hm]; exact Int.mul_tdiv_cancel_left _ (by omega)
  have t2 : m.tdiv H = W := by rw [hm]; exact Int.mul_tdiv_cancel _ (by omega)
  have hm0 : (m != 0) = true := by simp; omega
  have hm0' : (m == 0) = false := by simp; omega
  have hWne : (H != H) = false := by simp
  have hWne2 : (W != W) = false := by simp
  have hw0 : (W == 0) = false := by simp; omega
  have hh0 : (H == 0) = false := by simp; omega
  have q1 : IntKind.i64.wrap H = H := by rw [IntKind.wrap_i64]; omega
  have q2 : IntKind.i64.wrap W = W := by rw [IntKind.wrap_i64]; omega
  have HM := Lib.hid hm
  rw [← hm] at m1 m2
  clear hm
  have HB := Lib.hid (below_n1 w (.cells #[.int .i64 W, .int .i64 H] 33))
  go_enter Tryd.func37, Tryd.ntmps37
  go_wp2_with fail
  go_quiet (fail)
  go_wp2
  go_ret
  rw [← HM.out]
  exact ⟨rfl, below_drewQ HB.out _⟩
theorem pix_zero (W H : Int) (hz : IntKind.i64.wrap (W * H) = 0) (w : World) : Calls Tryd.prog 37 #[.agg #[.int .i64 W, .int .i64 H]] w fun e w' => (∃ z, e = .returned (.int .i64 z)) ∧ Below w.heap.size w w' := by
  have hw2 : wrap64 (W * H) = 0 := by rw [← hz, IntKind.wrap_i64]; simp only [wrap64]
  have HB := Lib.hid (below_n1 w (.cells #[.int .i64 W, .int .i64 H] 33))
  go_enter Tryd.func37, Tryd.ntmps37
  go_wp2_with fail
  go_quiet (fail)
  go_wp2
  go_ret
  exact ⟨⟨_, rfl⟩, below_drewQ HB.out _⟩

set_option maxHeartbeats 4000000 in
theorem pix_odd (W H m : Int) (hw : IntKind.i64.wrap (W * H) = m) (hm : ¬ m = 0) (w : World) : Calls Tryd.prog 37 #[.agg #[.int .i64 W, .int .i64 H]] w fun e w' => (∃ z, e = .returned (.int .i64 z)) ∧ Below w.heap.size w w' := by
  have hw2 : wrap64 (W * H) = m := by rw [← hw, IntKind.wrap_i64]; simp only [wrap64]
  have hm0 : (m != 0) = true := by simpa using hm
  have hW : ¬ W = 0 := fun e => hm (by rw [← hw, e, Int.zero_mul]; rfl)
  have hH : ¬ H = 0 := fun e => hm (by rw [← hw, e, Int.mul_zero]; rfl)
  have hw0 : (W == 0) = false := by simpa using hW
  have hh0 : (H == 0) = false := by simpa using hH
  obtain ⟨a, ha⟩ : ∃ a, a = IntKind.i64.wrap (m.tdiv W) := ⟨_, rfl⟩
  obtain ⟨b, hb⟩ : ∃ b, b = IntKind.i64.wrap (m.tdiv H) := ⟨_, rfl⟩
  have HB := Lib.hid (below_n1 w (.cells #[.int .i64 W, .int .i64 H] 33))
  by_cases h1 : a = H
  · have g1 : (a != H) = false := by simpa using h1
    by_cases h2 : b = W
    · have g2 : (b != W) = false := by simpa using h2
      clear h1 h2
      rw [ha] at g1
      rw [hb] at g2
      clear ha hb
      go_enter Tryd.func37, Tryd.ntmps37
      go_wp2_with fail
      go_quiet (fail)
      go_wp2
      go_ret
      exact ⟨⟨_, rfl⟩, below_drewQ HB.out _⟩
    · have g2 : (b != W) = true := by simpa using h2
      clear h1 h2
      rw [ha] at g1
      rw [hb] at g2
      clear ha hb
      go_enter Tryd.func37, Tryd.ntmps37
      go_wp2_with fail
      go_quiet (fail)
      go_wp2
      go_ret
      exact ⟨⟨_, rfl⟩, below_drewQ HB.out _⟩
  · have g1 : (a != H) = true := by simpa using h1
    clear h1
    rw [ha] at g1
    clear ha hb
    go_enter Tryd.func37, Tryd.ntmps37
    go_wp2_with fail
    go_quiet (fail)
    go_wp2
    go_ret
    exact ⟨⟨_, rfl⟩, below_drewQ HB.out _⟩

theorem pix_any (W H : Int) (w : World) : Calls Tryd.prog 37 #[.agg #[.int .i64 W, .int .i64 H]] w fun e w' => (∃ z, e = .returned (.int .i64 z) ∧ Hid (okSz W H → z = W * H)) ∧ Below w.heap.size w w' := by
  by_cases h : okSz W H
  · refine (pix_ok W H h w).mono ?_
    rintro e w' ⟨h1, h2⟩
    exact ⟨⟨_, h1, Lib.hid fun _ => rfl⟩, h2⟩
  · by_cases hz : IntKind.i64.wrap (W * H) = 0
    · refine (pix_zero W H hz w).mono ?_
      rintro e w' ⟨⟨z, h1⟩, h2⟩
      exact ⟨⟨z, h1, Lib.hid fun h' => absurd h' h⟩, h2⟩
    · obtain ⟨m, hm⟩ : ∃ m, IntKind.i64.wrap (W * H) = m := ⟨_, rfl⟩
      rw [hm] at hz
      refine (pix_odd W H m hm hz w).mono ?_
      rintro e w' ⟨⟨z, h1⟩, h2⟩
      exact ⟨⟨z, h1, Lib.hid fun h' => absurd h' h⟩, h2⟩
end Go.Proofs.YtcohehekkeeeoaaDoor.Fm
