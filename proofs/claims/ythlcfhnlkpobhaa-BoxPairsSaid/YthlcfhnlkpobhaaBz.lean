/- Boxes: the pair of a list's pairs, and the pair about a moving shape, are one on both sides; pairs compared. -/
import Derived.Test.YthlcfhnlkpobhaaBh
import Derived.Test.YthlcfhnlkpobhaaBq
import Derived.Test.YthlcfhnlkpobhaaBl
import Derived.Test.YthlcfhnlkpobhaaMv
import Derived.Test.YthlcfhnlkpobhaaRm
import Derived.Test.YthlcfhnlkpobhaaRga
namespace Go.Proofs.Ythlcfhnlkpobhaa.Bx
open Go.RowKit Go.Proofs.Ythlcfhnlkpobhaa Go.Proofs.Ythlcfhnlkpobhaa.Wa Go.Proofs.Ythlcfhnlkpobhaa.Ve Go.Proofs.Ythlcfhnlkpobhaa.Au
set_option linter.unusedVariables false
set_option linter.unusedSimpArgs false

theorem next_a (f : Int → Int → Int) (L : Nat → Int) (i n : Nat) (hi : i < 6) (hn : 1 ≤ n) (h0 : f (L i) (L i) = L i) : foldN f (L i) (fun j => L (j * 12 + i + 12)) (n - 1) = foldN f (La L i) (fun j => La L (j * 6 + i)) n := by
  obtain ⟨k, rfl⟩ : ∃ k, n = k + 1 := ⟨n - 1, by omega⟩
  have e0 : La L i = L i := by have := La_at L 0 i hi; simpa using this
  rw [e0]
  exact fold_next f (L i) (fun j => La L (j * 6 + i)) _ (by show f (L i) (La L (0 * 6 + i)) = L i; rw [La_at L 0 i hi, show 0 * 12 + i = i by omega]; exact h0)
    (fun j => by show La L ((j + 1) * 6 + i) = _; rw [La_at L (j + 1) i hi]; congr 1; omega) k

theorem next_b (f : Int → Int → Int) (L : Nat → Int) (i n : Nat) (hi : i < 6) (hn : 1 ≤ n) (h0 : f (L (6 + i)) (L (6 + i)) = L (6 + i)) : foldN f (L (6 + i)) (fun j => L (j * 12 + (6 + i) + 12)) (n - 1) = foldN f (Lb L i) (fun j => Lb L (j * 6 + i)) n := by
  obtain ⟨k, rfl⟩ : ∃ k, n = k + 1 := ⟨n - 1, by omega⟩
  have e0 : Lb L i = L (6 + i) := by have := Lb_at L 0 i hi; simpa using this
  rw [e0]
  exact fold_next f (L (6 + i)) (fun j => Lb L (j * 6 + i)) _ (by show f (L (6 + i)) (Lb L (0 * 6 + i)) = L (6 + i); rw [Lb_at L 0 i hi, show 0 * 12 + (6 + i) = 6 + i by omega]; exact h0)
    (fun j => by show Lb L ((j + 1) * 6 + i) = _; rw [Lb_at L (j + 1) i hi]; congr 1; omega) k

/-- the pair of a list's pairs: the first one, and the others behind it -/
theorem both_list (g o n cap : Nat) (ho : n = 1 ∨ o = 12) (L : Nat → Int) (hn : 1 ≤ n) (hm : n ≤ 1000000) (w : World) (hg : g < w.heap.size) (hp : ∀ j, j < n * 12 → w.cell? ⟨g, j, none⟩ = some (.int .i64 (L j))) :
    Calls Try.prog 22 #[.agg #[.int .i64 (L 0), .int .i64 (L 1), .int .i64 (L 2), .int .i64 (L 3), .int .i64 (L 4), .int .i64 (L 5), .int .i64 (L 6), .int .i64 (L 7), .int .i64 (L 8), .int .i64 (L 9), .int .i64 (L 10), .int .i64 (L 11)], .slice (some ⟨g, o, none⟩) (n - 1) cap] w fun e w' => e = .returned (.agg #[.int .i64 (lo6 (La L) 0 n), .int .i64 (lo6 (La L) 1 n), .int .i64 (lo6 (La L) 2 n), .int .i64 (hi6 (La L) 0 n), .int .i64 (hi6 (La L) 1 n), .int .i64 (hi6 (La L) 2 n), .int .i64 (lo6 (Lb L) 0 n), .int .i64 (lo6 (Lb L) 1 n), .int .i64 (lo6 (Lb L) 2 n), .int .i64 (hi6 (Lb L) 0 n), .int .i64 (hi6 (Lb L) 1 n), .int .i64 (hi6 (Lb L) 2 n)]) ∧ Below w.heap.size w w' := by
  have h := both_any (L 0) (L 1) (L 2) (L 3) (L 4) (L 5) (L 6) (L 7) (L 8) (L 9) (L 10) (L 11) (.slice (some ⟨g, o, none⟩) (n - 1) cap) (n - 1) (fun j => L (j + 12)) (by omega) w
    (.inr ⟨g, o, cap, rfl, hg, fun j hj => by
      obtain rfl : o = 12 := by omega
      rw [Nat.add_comm 12 j]
      exact hp _ (by omega)⟩)
  have e0 := next_a min L 0 n (by omega) hn (by omega)
  have e1 := next_a min L 1 n (by omega) hn (by omega)
  have e2 := next_a min L 2 n (by omega) hn (by omega)
  have e3 := next_a max L 3 n (by omega) hn (by omega)
  have e4 := next_a max L 4 n (by omega) hn (by omega)
  have e5 := next_a max L 5 n (by omega) hn (by omega)
  have e6 := next_b min L 0 n (by omega) hn (by omega)
  have e7 := next_b min L 1 n (by omega) hn (by omega)
  have e8 := next_b min L 2 n (by omega) hn (by omega)
  have e9 := next_b max L 3 n (by omega) hn (by omega)
  have e10 := next_b max L 4 n (by omega) hn (by omega)
  have e11 := next_b max L 5 n (by omega) hn (by omega)
  simp only [Nat.add_zero, Nat.reduceAdd] at e0 e1 e2 e3 e4 e5 e6 e7 e8 e9 e10 e11
  simp only [e0, e1, e2, e3, e4, e5, e6, e7, e8, e9, e10, e11] at h
  exact h

theorem amount_end {x : Int} (h0 : -2147483648 ≤ x) (h1 : x ≤ 2147483648) : Pl.amount x = 2147483648 ↔ (2147483648 ≤ x ∨ x ≤ -2147483648) := by
  unfold Pl.amount
  rw [Pl.held_in h0 h1]
  split <;> omega

theorem amount_le {x : Int} (h0 : -2147483648 ≤ x) (h1 : x ≤ 2147483648) : Pl.amount x ≤ 2147483648 := by
  unfold Pl.amount
  rw [Pl.held_in h0 h1]
  split <;> omega

theorem amount_reach {x : Int} (h0 : -2147483648 < x) (h1 : x ≤ 2147483648) : Pl.amount x = 2147483648 ↔ x = 2147483648 := by
  unfold Pl.amount
  rw [Pl.held_in (by omega) h1]
  split <;> omega

theorem max_end {a b c : Int} (ha : a ≤ 2147483648) (hb : b ≤ 2147483648) (hc : c ≤ 2147483648) : max (max a b) c = 2147483648 ↔ (a = 2147483648 ∨ b = 2147483648 ∨ c = 2147483648) := by omega

theorem reach_low (a : Int) : -2147483648 < Pl.add a 8192 := by
  unfold Pl.add
  rw [Pl.held_in (n := 8192) (by omega) (by omega)]
  have h0 := Pl.held_lo a
  have h1 := Pl.held_hi a
  unfold Pl.held at *
  repeat' split
  all_goals omega
theorem reach_high (a : Int) : Pl.add a 8192 ≤ 2147483648 := Pl.held_hi _

theorem any_ends (a b c d e f g h i j k l r s : Int) (a0 : -2147483648 ≤ a) (a1 : a ≤ 2147483648) (b0 : -2147483648 ≤ b) (b1 : b ≤ 2147483648) (c0 : -2147483648 ≤ c) (c1 : c ≤ 2147483648) (d0 : -2147483648 ≤ d) (d1 : d ≤ 2147483648) (e0 : -2147483648 ≤ e) (e1 : e ≤ 2147483648) (f0 : -2147483648 ≤ f) (f1 : f ≤ 2147483648) (g0 : -2147483648 ≤ g) (g1 : g ≤ 2147483648) (h0 : -2147483648 ≤ h) (h1 : h ≤ 2147483648) (i0 : -2147483648 ≤ i) (i1 : i ≤ 2147483648) (j0 : -2147483648 ≤ j) (j1 : j ≤ 2147483648) (k0 : -2147483648 ≤ k) (k1 : k ≤ 2147483648) (l0 : -2147483648 ≤ l) (l1 : l ≤ 2147483648) (r0 : -2147483648 < r) (r1 : r ≤ 2147483648) (s0 : -2147483648 < s) (s1 : s ≤ 2147483648) :
    anyE (l18 a b c d e f g h i j k l r s) 6 = (ends6 a b c d e f || ends6 g h i j k l || decide (r = 2147483648) || decide (s = 2147483648)) := by
  have m0 : (mx (l18 a b c d e f g h i j k l r s) 0 = 2147483648) ↔ ((2147483648 ≤ a ∨ a ≤ -2147483648) ∨ (2147483648 ≤ b ∨ b ≤ -2147483648) ∨ (2147483648 ≤ c ∨ c ≤ -2147483648)) := by
    show max (max (Pl.amount a) (Pl.amount b)) (Pl.amount c) = 2147483648 ↔ _
    rw [max_end (amount_le a0 a1) (amount_le b0 b1) (amount_le c0 c1), amount_end a0 a1, amount_end b0 b1, amount_end c0 c1]
  have m1 : (mx (l18 a b c d e f g h i j k l r s) 1 = 2147483648) ↔ ((2147483648 ≤ d ∨ d ≤ -2147483648) ∨ (2147483648 ≤ e ∨ e ≤ -2147483648) ∨ (2147483648 ≤ f ∨ f ≤ -2147483648)) := by
    show max (max (Pl.amount d) (Pl.amount e)) (Pl.amount f) = 2147483648 ↔ _
    rw [max_end (amount_le d0 d1) (amount_le e0 e1) (amount_le f0 f1), amount_end d0 d1, amount_end e0 e1, amount_end f0 f1]
  have m2 : (mx (l18 a b c d e f g h i j k l r s) 2 = 2147483648) ↔ ((2147483648 ≤ g ∨ g ≤ -2147483648) ∨ (2147483648 ≤ h ∨ h ≤ -2147483648) ∨ (2147483648 ≤ i ∨ i ≤ -2147483648)) := by
    show max (max (Pl.amount g) (Pl.amount h)) (Pl.amount i) = 2147483648 ↔ _
    rw [max_end (amount_le g0 g1) (amount_le h0 h1) (amount_le i0 i1), amount_end g0 g1, amount_end h0 h1, amount_end i0 i1]
  have m3 : (mx (l18 a b c d e f g h i j k l r s) 3 = 2147483648) ↔ ((2147483648 ≤ j ∨ j ≤ -2147483648) ∨ (2147483648 ≤ k ∨ k ≤ -2147483648) ∨ (2147483648 ≤ l ∨ l ≤ -2147483648)) := by
    show max (max (Pl.amount j) (Pl.amount k)) (Pl.amount l) = 2147483648 ↔ _
    rw [max_end (amount_le j0 j1) (amount_le k0 k1) (amount_le l0 l1), amount_end j0 j1, amount_end k0 k1, amount_end l0 l1]
  have m4 : (mx (l18 a b c d e f g h i j k l r s) 4 = 2147483648) ↔ r = 2147483648 := by
    show max (max (Pl.amount r) (Pl.amount r)) (Pl.amount r) = 2147483648 ↔ _
    rw [Int.max_self, Int.max_self, amount_reach r0 r1]
  have m5 : (mx (l18 a b c d e f g h i j k l r s) 5 = 2147483648) ↔ s = 2147483648 := by
    show max (max (Pl.amount s) (Pl.amount s)) (Pl.amount s) = 2147483648 ↔ _
    rw [Int.max_self, Int.max_self, amount_reach s0 s1]
  rw [Bool.eq_iff_iff]
  simp only [anyE, ends6, atE, Bool.or_eq_true, decide_eq_true_eq, Bool.false_eq_true, false_or, m0, m1, m2, m3, m4, m5]
  simp only [or_assoc, or_left_comm, or_comm]

set_option maxHeartbeats 2000000 in
/-- the pair about a moving shape: the program's and the document's are one -/
theorem moving_both (a0 a1 a2 a3 a4 a5 a6 a7 a8 a9 a10 a11 a12 a13 a14 a15 a16 a17 a18 a19 a20 a21 a22 a23 : Int) : ∃ p0 p1 p2 p3 p4 p5 p6 p7 p8 p9 p10 p11 : Int,
    (∀ w, Calls Try.prog 24 #[.agg #[.int .i64 a0, .int .i64 a1, .int .i64 a2, .int .i64 a3, .int .i64 a4, .int .i64 a5, .int .i64 a6, .int .i64 a7, .int .i64 a8, .int .i64 a9, .int .i64 a10, .int .i64 a11, .int .i64 a12, .int .i64 a13, .int .i64 a14, .int .i64 a15, .int .i64 a16, .int .i64 a17, .int .i64 a18, .int .i64 a19, .int .i64 a20, .int .i64 a21, .int .i64 a22, .int .i64 a23]] w fun e' w' => e' = .returned (.agg #[.int .i64 p0, .int .i64 p1, .int .i64 p2, .int .i64 p3, .int .i64 p4, .int .i64 p5, .int .i64 p6, .int .i64 p7, .int .i64 p8, .int .i64 p9, .int .i64 p10, .int .i64 p11]) ∧ Below w.heap.size w w') ∧
    (∀ w, Calls Try.prog 26 #[.agg #[.int .i64 a0, .int .i64 a1, .int .i64 a2, .int .i64 a3, .int .i64 a4, .int .i64 a5, .int .i64 a6, .int .i64 a7, .int .i64 a8, .int .i64 a9, .int .i64 a10, .int .i64 a11, .int .i64 a12, .int .i64 a13, .int .i64 a14, .int .i64 a15, .int .i64 a16, .int .i64 a17, .int .i64 a18, .int .i64 a19, .int .i64 a20, .int .i64 a21, .int .i64 a22, .int .i64 a23]] w fun e' w' => e' = .returned (.agg #[.int .i64 p0, .int .i64 p1, .int .i64 p2, .int .i64 p3, .int .i64 p4, .int .i64 p5, .int .i64 p6, .int .i64 p7, .int .i64 p8, .int .i64 p9, .int .i64 p10, .int .i64 p11]) ∧ Below w.heap.size w w') := by
  by_cases hk : a0 = 0
  · subst hk
    have hE := any_ends (Pl.sub a2 (Pl.add a11 8192)) (Pl.sub a3 (Pl.add a11 8192)) (Pl.sub a4 (Pl.add a11 8192)) (Pl.add a2 (Pl.add a11 8192)) (Pl.add a3 (Pl.add a11 8192)) (Pl.add a4 (Pl.add a11 8192)) (Pl.sub a14 (Pl.add a23 8192)) (Pl.sub a15 (Pl.add a23 8192)) (Pl.sub a16 (Pl.add a23 8192)) (Pl.add a14 (Pl.add a23 8192)) (Pl.add a15 (Pl.add a23 8192)) (Pl.add a16 (Pl.add a23 8192)) (Pl.add a11 8192) (Pl.add a23 8192) (Pl.held_lo _) (Pl.held_hi _) (Pl.held_lo _) (Pl.held_hi _) (Pl.held_lo _) (Pl.held_hi _) (Pl.held_lo _) (Pl.held_hi _) (Pl.held_lo _) (Pl.held_hi _) (Pl.held_lo _) (Pl.held_hi _) (Pl.held_lo _) (Pl.held_hi _) (Pl.held_lo _) (Pl.held_hi _) (Pl.held_lo _) (Pl.held_hi _) (Pl.held_lo _) (Pl.held_hi _) (Pl.held_lo _) (Pl.held_hi _) (Pl.held_lo _) (Pl.held_hi _) (reach_low _) (reach_high _) (reach_low _) (reach_high _)
    cases hv : anyE (l18 (Pl.sub a2 (Pl.add a11 8192)) (Pl.sub a3 (Pl.add a11 8192)) (Pl.sub a4 (Pl.add a11 8192)) (Pl.add a2 (Pl.add a11 8192)) (Pl.add a3 (Pl.add a11 8192)) (Pl.add a4 (Pl.add a11 8192)) (Pl.sub a14 (Pl.add a23 8192)) (Pl.sub a15 (Pl.add a23 8192)) (Pl.sub a16 (Pl.add a23 8192)) (Pl.add a14 (Pl.add a23 8192)) (Pl.add a15 (Pl.add a23 8192)) (Pl.add a16 (Pl.add a23 8192)) (Pl.add a11 8192) (Pl.add a23 8192)) 6
    · rw [hv] at hE
      refine ⟨Pl.sub a2 (Pl.add a11 8192), Pl.sub a3 (Pl.add a11 8192), Pl.sub a4 (Pl.add a11 8192), Pl.add a2 (Pl.add a11 8192), Pl.add a3 (Pl.add a11 8192), Pl.add a4 (Pl.add a11 8192), Pl.sub a14 (Pl.add a23 8192), Pl.sub a15 (Pl.add a23 8192), Pl.sub a16 (Pl.add a23 8192), Pl.add a14 (Pl.add a23 8192), Pl.add a15 (Pl.add a23 8192), Pl.add a16 (Pl.add a23 8192), fun w => ?_, fun w => ?_⟩
      · have h := bmoving_ball a1 a2 a3 a4 a5 a6 a7 a8 a9 a10 a11 a12 a13 a14 a15 a16 a17 a18 a19 a20 a21 a22 a23 w
        rw [hv, if_neg (by decide)] at h
        exact h
      · have h := rmoving_ball a1 a2 a3 a4 a5 a6 a7 a8 a9 a10 a11 a12 a13 a14 a15 a16 a17 a18 a19 a20 a21 a22 a23 w
        rw [← hE, if_neg (by decide)] at h
        exact h
    · rw [hv] at hE
      refine ⟨-2147483648, -2147483648, -2147483648, 2147483648, 2147483648, 2147483648, -2147483648, -2147483648, -2147483648, 2147483648, 2147483648, 2147483648, fun w => ?_, fun w => ?_⟩
      · have h := bmoving_ball a1 a2 a3 a4 a5 a6 a7 a8 a9 a10 a11 a12 a13 a14 a15 a16 a17 a18 a19 a20 a21 a22 a23 w
        rw [hv, if_pos rfl] at h
        exact h
      · have h := rmoving_ball a1 a2 a3 a4 a5 a6 a7 a8 a9 a10 a11 a12 a13 a14 a15 a16 a17 a18 a19 a20 a21 a22 a23 w
        rw [← hE, if_pos rfl] at h
        exact h
  · skip
    have hE := any_ends (Pl.sub (min a2 (min a5 a8)) 8192) (Pl.sub (min a3 (min a6 a9)) 8192) (Pl.sub (min a4 (min a7 a10)) 8192) (Pl.add (max a2 (max a5 a8)) 8192) (Pl.add (max a3 (max a6 a9)) 8192) (Pl.add (max a4 (max a7 a10)) 8192) (Pl.sub (min a14 (min a17 a20)) 8192) (Pl.sub (min a15 (min a18 a21)) 8192) (Pl.sub (min a16 (min a19 a22)) 8192) (Pl.add (max a14 (max a17 a20)) 8192) (Pl.add (max a15 (max a18 a21)) 8192) (Pl.add (max a16 (max a19 a22)) 8192) (Pl.add a11 8192) (Pl.add a23 8192) (Pl.held_lo _) (Pl.held_hi _) (Pl.held_lo _) (Pl.held_hi _) (Pl.held_lo _) (Pl.held_hi _) (Pl.held_lo _) (Pl.held_hi _) (Pl.held_lo _) (Pl.held_hi _) (Pl.held_lo _) (Pl.held_hi _) (Pl.held_lo _) (Pl.held_hi _) (Pl.held_lo _) (Pl.held_hi _) (Pl.held_lo _) (Pl.held_hi _) (Pl.held_lo _) (Pl.held_hi _) (Pl.held_lo _) (Pl.held_hi _) (Pl.held_lo _) (Pl.held_hi _) (reach_low _) (reach_high _) (reach_low _) (reach_high _)
    cases hv : anyE (l18 (Pl.sub (min a2 (min a5 a8)) 8192) (Pl.sub (min a3 (min a6 a9)) 8192) (Pl.sub (min a4 (min a7 a10)) 8192) (Pl.add (max a2 (max a5 a8)) 8192) (Pl.add (max a3 (max a6 a9)) 8192) (Pl.add (max a4 (max a7 a10)) 8192) (Pl.sub (min a14 (min a17 a20)) 8192) (Pl.sub (min a15 (min a18 a21)) 8192) (Pl.sub (min a16 (min a19 a22)) 8192) (Pl.add (max a14 (max a17 a20)) 8192) (Pl.add (max a15 (max a18 a21)) 8192) (Pl.add (max a16 (max a19 a22)) 8192) (Pl.add a11 8192) (Pl.add a23 8192)) 6
    · rw [hv] at hE
      refine ⟨Pl.sub (min a2 (min a5 a8)) 8192, Pl.sub (min a3 (min a6 a9)) 8192, Pl.sub (min a4 (min a7 a10)) 8192, Pl.add (max a2 (max a5 a8)) 8192, Pl.add (max a3 (max a6 a9)) 8192, Pl.add (max a4 (max a7 a10)) 8192, Pl.sub (min a14 (min a17 a20)) 8192, Pl.sub (min a15 (min a18 a21)) 8192, Pl.sub (min a16 (min a19 a22)) 8192, Pl.add (max a14 (max a17 a20)) 8192, Pl.add (max a15 (max a18 a21)) 8192, Pl.add (max a16 (max a19 a22)) 8192, fun w => ?_, fun w => ?_⟩
      · have h := bmoving_face a0 a1 a2 a3 a4 a5 a6 a7 a8 a9 a10 a11 a12 a13 a14 a15 a16 a17 a18 a19 a20 a21 a22 a23 hk w
        rw [hv, if_neg (by decide)] at h
        exact h
      · have h := rmoving_face a0 a1 a2 a3 a4 a5 a6 a7 a8 a9 a10 a11 a12 a13 a14 a15 a16 a17 a18 a19 a20 a21 a22 a23 hk w
        rw [← hE, if_neg (by decide)] at h
        exact h
    · rw [hv] at hE
      refine ⟨-2147483648, -2147483648, -2147483648, 2147483648, 2147483648, 2147483648, -2147483648, -2147483648, -2147483648, 2147483648, 2147483648, 2147483648, fun w => ?_, fun w => ?_⟩
      · have h := bmoving_face a0 a1 a2 a3 a4 a5 a6 a7 a8 a9 a10 a11 a12 a13 a14 a15 a16 a17 a18 a19 a20 a21 a22 a23 hk w
        rw [hv, if_pos rfl] at h
        exact h
      · have h := rmoving_face a0 a1 a2 a3 a4 a5 a6 a7 a8 a9 a10 a11 a12 a13 a14 a15 a16 a17 a18 a19 a20 a21 a22 a23 hk w
        rw [← hE, if_pos rfl] at h
        exact h

theorem eq_b6d (d : Nat) (a b c d' e f : Int) (W : World) : (Op.equalIn (d + 3) 67 (.agg #[.int .i64 a, .int .i64 b, .int .i64 c, .int .i64 d', .int .i64 e, .int .i64 f]) (.agg #[.int .i64 a, .int .i64 b, .int .i64 c, .int .i64 d', .int .i64 e, .int .i64 f])).run Try.prog W = .ok true W := by
  rw [run_equalIn_struct W (d + 2) 67 _ _ (by kernel_rfl) (by kernel_rfl)]
  simp only [Program.fieldsOf, Try.underlying67, Op.eqFields]
  have hv := fun x y z => eq_v3d d x y z
  simp [go_sem, hv]

theorem eq_b12 (p0 p1 p2 p3 p4 p5 p6 p7 p8 p9 p10 p11 : Int) (W : World) : (Op.equalIn 10000 69 (.agg #[.int .i64 p0, .int .i64 p1, .int .i64 p2, .int .i64 p3, .int .i64 p4, .int .i64 p5, .int .i64 p6, .int .i64 p7, .int .i64 p8, .int .i64 p9, .int .i64 p10, .int .i64 p11]) (.agg #[.int .i64 p0, .int .i64 p1, .int .i64 p2, .int .i64 p3, .int .i64 p4, .int .i64 p5, .int .i64 p6, .int .i64 p7, .int .i64 p8, .int .i64 p9, .int .i64 p10, .int .i64 p11])).run Try.prog W = .ok true W := by
  rw [run_equalIn_struct W 9999 69 _ _ (by kernel_rfl) (by kernel_rfl)]
  simp only [Program.fieldsOf, Try.underlying69, Op.eqFields]
  have hv := fun a b c d e f => eq_b6d 9996 a b c d e f
  simp [go_sem, hv]

end Go.Proofs.Ythlcfhnlkpobhaa.Bx
