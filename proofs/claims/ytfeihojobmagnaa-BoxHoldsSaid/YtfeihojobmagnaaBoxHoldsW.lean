/- BoxHolds: the walk: the law returns true, whatever pairs and whatever part come in; nothing that was there is written. -/
import Derived.Test.YtfeihojobmagnaaBd
import Derived.Test.YtfeihojobmagnaaBg
import Derived.Test.YtfeihojobmagnaaBh
import Derived.Test.YtfeihojobmagnaaNi
import Derived.Test.YtfeihojobmagnaaLs
namespace Go.Proofs.Ytfeihojobmagnaa.boxHoldsW
open Go.RowKit Go.Proofs.Ytfeihojobmagnaa Go.Proofs.Ytfeihojobmagnaa.Wa Go.Proofs.Ytfeihojobmagnaa.Ve Go.Proofs.Ytfeihojobmagnaa.Au Go.Proofs.Ytfeihojobmagnaa.Bx Go.Proofs.Ytfeihojobmagnaa.Ls
set_option linter.unusedVariables false
set_option linter.unusedSimpArgs false

theorem infoPair : (Try.prog.info? 114).map (fun i => (i.zero, i.size, i.bytes)) = some (some (.agg #[.int .i64 0, .int .i64 0, .int .i64 0, .int .i64 0, .int .i64 0, .int .i64 0, .int .i64 0, .int .i64 0, .int .i64 0, .int .i64 0, .int .i64 0, .int .i64 0]), 12, 96) := by kernel_rfl

/-- the values of a row's numbers, twelve a thing -/
def flat12 (L : Nat → Int) (k : Nat) : List Value := (List.range (k * 12)).map fun j => .int .i64 (L j)

theorem flat12_step (L : Nat → Int) (k : Nat) : flat12 L (k + 1) = flat12 L k ++ [.int .i64 (L (k * 12)), .int .i64 (L (k * 12 + 1)), .int .i64 (L (k * 12 + 2)), .int .i64 (L (k * 12 + 3)), .int .i64 (L (k * 12 + 4)), .int .i64 (L (k * 12 + 5)), .int .i64 (L (k * 12 + 6)), .int .i64 (L (k * 12 + 7)), .int .i64 (L (k * 12 + 8)), .int .i64 (L (k * 12 + 9)), .int .i64 (L (k * 12 + 10)), .int .i64 (L (k * 12 + 11))] := by
  simp [flat12, show (k + 1) * 12 = k * 12 + 1 + 1 + 1 + 1 + 1 + 1 + 1 + 1 + 1 + 1 + 1 + 1 by omega, List.range_succ]

theorem flat12_at (L : Nat → Int) (k j : Nat) (h : j < k * 12) : (flat12 L k)[j]? = some (.int .i64 (L j)) := by
  simp [flat12, h]

def lo12 (L : Nat → Int) (k i : Nat) : Int := foldN min (L i) (fun j => L (j * 12 + i + 12)) (k - 1)

def hi12 (L : Nat → Int) (k i : Nat) : Int := foldN max (L i) (fun j => L (j * 12 + i + 12)) (k - 1)

theorem fold_min_le (a : Int) (l : Nat → Int) : ∀ n, foldN min a l n ≤ a ∧ ∀ j, j < n → foldN min a l n ≤ l j
  | 0 => ⟨Int.le_refl _, fun j hj => absurd hj (by omega)⟩
  | n + 1 => by
    obtain ⟨h1, h2⟩ := fold_min_le a l n
    refine ⟨?_, fun j hj => ?_⟩
    · show min (foldN min a l n) (l n) ≤ a
      omega
    · show min (foldN min a l n) (l n) ≤ l j
      by_cases e : j = n
      · subst e; omega
      · have := h2 j (by omega); omega

theorem fold_max_le (a : Int) (l : Nat → Int) : ∀ n, a ≤ foldN max a l n ∧ ∀ j, j < n → l j ≤ foldN max a l n
  | 0 => ⟨Int.le_refl _, fun j hj => absurd hj (by omega)⟩
  | n + 1 => by
    obtain ⟨h1, h2⟩ := fold_max_le a l n
    refine ⟨?_, fun j hj => ?_⟩
    · show a ≤ max (foldN max a l n) (l n)
      omega
    · show l j ≤ max (foldN max a l n) (l n)
      by_cases e : j = n
      · subst e; omega
      · have := h2 j (by omega); omega

theorem lo12_le (L : Nat → Int) (k j i : Nat) (h : j < k) : lo12 L k i ≤ L (j * 12 + i) := by
  have h0 := fold_min_le (L i) (fun j => L (j * 12 + i + 12)) (k - 1)
  by_cases e : j = 0
  · subst e; rw [show 0 * 12 + i = i by omega]; exact h0.1
  · have := h0.2 (j - 1) (by omega)
    simp only [show (j - 1) * 12 + i + 12 = j * 12 + i by omega] at this
    exact this

theorem le_hi12 (L : Nat → Int) (k j i : Nat) (h : j < k) : L (j * 12 + i) ≤ hi12 L k i := by
  have h0 := fold_max_le (L i) (fun j => L (j * 12 + i + 12)) (k - 1)
  by_cases e : j = 0
  · subst e; rw [show 0 * 12 + i = i by omega]; exact h0.1
  · have := h0.2 (j - 1) (by omega)
    simp only [show (j - 1) * 12 + i + 12 = j * 12 + i by omega] at this
    exact this

theorem below_all (L : Nat → Int) (k j i : Nat) (t : Int) (h : j < k) : Pl.lerp (lo12 L k i) (lo12 L k (i + 6)) t ≤ Pl.lerp (L (j * 12 + i)) (L (j * 12 + (i + 6))) t :=
  Int.le_trans (Pl.lerp_mono_left (lo12_le L k j i h) _ t) (Pl.lerp_mono_right (lo12_le L k j (i + 6) h) _ t)

theorem above_all (L : Nat → Int) (k j i : Nat) (t : Int) (h : j < k) : Pl.lerp (L (j * 12 + i)) (L (j * 12 + (i + 6))) t ≤ Pl.lerp (hi12 L k i) (hi12 L k (i + 6)) t :=
  Int.le_trans (Pl.lerp_mono_left (le_hi12 L k j i h) _ t) (Pl.lerp_mono_right (le_hi12 L k j (i + 6) h) _ t)

theorem idx0 (a b c d e f g h i j k l : Int) (W : World) : (Instr.index 132 (.agg #[.int .i64 a, .int .i64 b, .int .i64 c, .int .i64 d, .int .i64 e, .int .i64 f, .int .i64 g, .int .i64 h, .int .i64 i, .int .i64 j, .int .i64 k, .int .i64 l]) (.int .i64 0)).run Try.prog W = .ok (.agg #[.int .i64 a, .int .i64 b, .int .i64 c, .int .i64 d]) W := by
  simp [Instr.index, go_sem]

theorem idx1 (a b c d e f g h i j k l : Int) (W : World) : (Instr.index 132 (.agg #[.int .i64 a, .int .i64 b, .int .i64 c, .int .i64 d, .int .i64 e, .int .i64 f, .int .i64 g, .int .i64 h, .int .i64 i, .int .i64 j, .int .i64 k, .int .i64 l]) (.int .i64 1)).run Try.prog W = .ok (.agg #[.int .i64 e, .int .i64 f, .int .i64 g, .int .i64 h]) W := by
  simp [Instr.index, go_sem]

theorem idx2 (a b c d e f g h i j k l : Int) (W : World) : (Instr.index 132 (.agg #[.int .i64 a, .int .i64 b, .int .i64 c, .int .i64 d, .int .i64 e, .int .i64 f, .int .i64 g, .int .i64 h, .int .i64 i, .int .i64 j, .int .i64 k, .int .i64 l]) (.int .i64 2)).run Try.prog W = .ok (.agg #[.int .i64 i, .int .i64 j, .int .i64 k, .int .i64 l]) W := by
  simp [Instr.index, go_sem]

theorem rowU_next {w : World} {g o n cap : Nat} {L : Nat → Int} (ho : n = 1 ∨ o = 12) (hg : g < w.heap.size) (hp : ∀ j, j < n * 12 → w.cell? ⟨g, j, none⟩ = some (.int .i64 (L j))) : RowU 12 w (.slice (some ⟨g, o, none⟩) (n - 1) cap) (n - 1) (fun j => L (j + 12)) :=
  .inr ⟨g, o, cap, rfl, hg, fun j hj => by
    obtain rfl : o = 12 := by omega
    rw [Nat.add_comm 12 j]
    exact hp _ (by omega)⟩

set_option maxHeartbeats 8000000 in
set_option maxRecDepth 100000 in
theorem walk (a1 : Option Addr) (n1 c1 : Nat) (L : Nat → Int) (t : Int) (w : World) (hl : Ni.Nums 12 w a1 n1 L) :
    Calls Try.prog 8 #[.slice a1 n1 c1, .int .i64 t] w fun e w' => e = .returned (.bool true) ∧ Below w.heap.size w w' := by
  obtain ⟨i0, hi, hz0, hz1, hz2⟩ := info_parts infoPair
  have HL := Lib.hid hl
  clear hl
  go_enter Try.func8, Try.ntmps8
  by_cases e1 : n1 = 0
  · subst e1
    go_wp2_with fail
    refine (awake_any _).mono ?_
    rintro e w1 ⟨rfl, hb⟩
    go_wp2
    go_ret
    exact ⟨rfl, hb⟩
  have g1 : ((n1 : Int) == 0) = false := by simpa using e1
  by_cases e3 : (40 : Int) < n1
  · have g3 := decide_eq_true e3
    go_wp2_with fail
    refine (awake_any _).mono ?_
    rintro e w1 ⟨rfl, hb⟩
    go_wp2
    go_ret
    exact ⟨rfl, hb⟩
  have g3 := decide_eq_false e3
  go_wp2_with fail
  clear g1 g3
  go_loopw [5, 25] (fun s5 s25 wr => ∃ k : Nat, k ≤ n1 ∧ s25 = .int .i64 k ∧ wr.ownsRow w.heap.size 114 12 s5 k (flat12 L k) ∧ Hid (Below w.heap.size w wr)) (fun _ s25 _ => n1 - (intOf s25).toNat)
  case atStart => exact ⟨0, by omega, rfl, World.ownsRow_nil _ _ _ _, Lib.hid (Below.refl _ _)⟩
  case round =>
    obtain ⟨k, hk, rfl, hin, HU0⟩ := hrel
    obtain ⟨y0, rfl⟩ : ∃ y : World, y = wr := ⟨_, rfl⟩
    by_cases hlt : k < n1
    · have hlt' : (k : Int) < n1 := by omega
      obtain ⟨-, h0 | ⟨b, off, rfl, hb, hc⟩⟩ := HL.out
      · exact absurd hlt (by omega)
      have C0 : y0.cell? ⟨b, off + k * 12, none⟩ = some (.int .i64 (L (k * 12))) := (HU0.out.cell (p := ⟨b, off + (k * 12 + 0), none⟩) hb).trans (hc (k * 12 + 0) (by omega))
      have C1 : y0.cell? ⟨b, off + k * 12 + 1, none⟩ = some (.int .i64 (L (k * 12 + 1))) := (HU0.out.cell (p := ⟨b, off + (k * 12 + 1), none⟩) hb).trans (hc (k * 12 + 1) (by omega))
      have C2 : y0.cell? ⟨b, off + k * 12 + 2, none⟩ = some (.int .i64 (L (k * 12 + 2))) := (HU0.out.cell (p := ⟨b, off + (k * 12 + 2), none⟩) hb).trans (hc (k * 12 + 2) (by omega))
      have C3 : y0.cell? ⟨b, off + k * 12 + 3, none⟩ = some (.int .i64 (L (k * 12 + 3))) := (HU0.out.cell (p := ⟨b, off + (k * 12 + 3), none⟩) hb).trans (hc (k * 12 + 3) (by omega))
      have C4 : y0.cell? ⟨b, off + k * 12 + 4, none⟩ = some (.int .i64 (L (k * 12 + 4))) := (HU0.out.cell (p := ⟨b, off + (k * 12 + 4), none⟩) hb).trans (hc (k * 12 + 4) (by omega))
      have C5 : y0.cell? ⟨b, off + k * 12 + 5, none⟩ = some (.int .i64 (L (k * 12 + 5))) := (HU0.out.cell (p := ⟨b, off + (k * 12 + 5), none⟩) hb).trans (hc (k * 12 + 5) (by omega))
      have C6 : y0.cell? ⟨b, off + k * 12 + 6, none⟩ = some (.int .i64 (L (k * 12 + 6))) := (HU0.out.cell (p := ⟨b, off + (k * 12 + 6), none⟩) hb).trans (hc (k * 12 + 6) (by omega))
      have C7 : y0.cell? ⟨b, off + k * 12 + 7, none⟩ = some (.int .i64 (L (k * 12 + 7))) := (HU0.out.cell (p := ⟨b, off + (k * 12 + 7), none⟩) hb).trans (hc (k * 12 + 7) (by omega))
      have C8 : y0.cell? ⟨b, off + k * 12 + 8, none⟩ = some (.int .i64 (L (k * 12 + 8))) := (HU0.out.cell (p := ⟨b, off + (k * 12 + 8), none⟩) hb).trans (hc (k * 12 + 8) (by omega))
      have C9 : y0.cell? ⟨b, off + k * 12 + 9, none⟩ = some (.int .i64 (L (k * 12 + 9))) := (HU0.out.cell (p := ⟨b, off + (k * 12 + 9), none⟩) hb).trans (hc (k * 12 + 9) (by omega))
      have C10 : y0.cell? ⟨b, off + k * 12 + 10, none⟩ = some (.int .i64 (L (k * 12 + 10))) := (HU0.out.cell (p := ⟨b, off + (k * 12 + 10), none⟩) hb).trans (hc (k * 12 + 10) (by omega))
      have C11 : y0.cell? ⟨b, off + k * 12 + 11, none⟩ = some (.int .i64 (L (k * 12 + 11))) := (HU0.out.cell (p := ⟨b, off + (k * 12 + 11), none⟩) hb).trans (hc (k * 12 + 11) (by omega))
      have HI := Lib.hid hin
      clear hc hin
      go_wp2_with fail
      clear C0 C1 C2 C3 C4 C5 C6 C7 C8 C9 C10 C11
      have hb1 := below_n1 y0 (.cells #[.int .i64 (L (k * 12)), .int .i64 (L (k * 12 + 1)), .int .i64 (L (k * 12 + 2)), .int .i64 (L (k * 12 + 3)), .int .i64 (L (k * 12 + 4)), .int .i64 (L (k * 12 + 5)), .int .i64 (L (k * 12 + 6)), .int .i64 (L (k * 12 + 7)), .int .i64 (L (k * 12 + 8)), .int .i64 (L (k * 12 + 9)), .int .i64 (L (k * 12 + 10)), .int .i64 (L (k * 12 + 11))] 112)
      have hN := heap_alloc_last y0 (.cells #[.int .i64 (L (k * 12)), .int .i64 (L (k * 12 + 1)), .int .i64 (L (k * 12 + 2)), .int .i64 (L (k * 12 + 3)), .int .i64 (L (k * 12 + 4)), .int .i64 (L (k * 12 + 5)), .int .i64 (L (k * 12 + 6)), .int .i64 (L (k * 12 + 7)), .int .i64 (L (k * 12 + 8)), .int .i64 (L (k * 12 + 9)), .int .i64 (L (k * 12 + 10)), .int .i64 (L (k * 12 + 11))] 112)
      obtain ⟨y1, hy1⟩ : ∃ y, y0.alloc (.cells #[.int .i64 (L (k * 12)), .int .i64 (L (k * 12 + 1)), .int .i64 (L (k * 12 + 2)), .int .i64 (L (k * 12 + 3)), .int .i64 (L (k * 12 + 4)), .int .i64 (L (k * 12 + 5)), .int .i64 (L (k * 12 + 6)), .int .i64 (L (k * 12 + 7)), .int .i64 (L (k * 12 + 8)), .int .i64 (L (k * 12 + 9)), .int .i64 (L (k * 12 + 10)), .int .i64 (L (k * 12 + 11))] 112) = y := ⟨_, rfl⟩
      have hs1 : y1.heap.size = y0.heap.size + 1 := by rw [← hy1]; simp
      rw [hy1] at hb1 hN ⊢
      clear hy1
      have HU1 := Lib.hid (HU0.out.trans (hb1.mono HU0.out.size))
      clear HU0
      have hr1_0 := hN
      clear hN
      have HI1 := Lib.hid (own_below HI.out hb1)
      clear HI
      refine (held_ans _ _ _ _ _ _ _).mono ?_
      rintro e y2 ⟨⟨v1, rfl⟩, hb2⟩
      have hr2_0 := (hb2.block _ (lt_heap hr1_0)).trans hr1_0
      have HU2 := Lib.hid (HU1.out.trans (hb2.mono HU1.out.size))
      clear hr1_0 HU1
      have HI2 := Lib.hid (own_below HI1.out hb2)
      clear HI1
      have c0_0 := cell_of_row _ _ 0 _ _ _ hr2_0
      have c0_1 := cell_of_row _ _ 1 _ _ _ hr2_0
      have c0_2 := cell_of_row _ _ 2 _ _ _ hr2_0
      have c0_3 := cell_of_row _ _ 3 _ _ _ hr2_0
      have c0_4 := cell_of_row _ _ 4 _ _ _ hr2_0
      have c0_5 := cell_of_row _ _ 5 _ _ _ hr2_0
      have c0_6 := cell_of_row _ _ 6 _ _ _ hr2_0
      have c0_7 := cell_of_row _ _ 7 _ _ _ hr2_0
      have c0_8 := cell_of_row _ _ 8 _ _ _ hr2_0
      have c0_9 := cell_of_row _ _ 9 _ _ _ hr2_0
      have c0_10 := cell_of_row _ _ 10 _ _ _ hr2_0
      have c0_11 := cell_of_row _ _ 11 _ _ _ hr2_0
      simp at c0_0 c0_1 c0_2 c0_3 c0_4 c0_5 c0_6 c0_7 c0_8 c0_9 c0_10 c0_11
      cases v1
      · go_wp2_with fail
        refine (awake_any _).mono ?_
        rintro e wq ⟨rfl, hbq⟩
        go_wp2
        go_ret
        exact ⟨rfl, HU2.out.trans (hbq.mono HU2.out.size)⟩
      go_wp2_with fail
      refine (held_ans _ _ _ _ _ _ _).mono ?_
      rintro e y3 ⟨⟨v2, rfl⟩, hb3⟩
      clear c0_0 c0_1 c0_2 c0_3 c0_4 c0_5 c0_6 c0_7 c0_8 c0_9 c0_10 c0_11
      have hr3_0 := (hb3.block _ (lt_heap hr2_0)).trans hr2_0
      have HU3 := Lib.hid (HU2.out.trans (hb3.mono HU2.out.size))
      clear hr2_0 HU2
      have HI3 := Lib.hid (own_below HI2.out hb3)
      clear HI2
      cases v2
      · go_wp2_with fail
        refine (awake_any _).mono ?_
        rintro e wq ⟨rfl, hbq⟩
        go_wp2
        go_ret
        exact ⟨rfl, HU3.out.trans (hbq.mono HU3.out.size)⟩
      have c0_0 := cell_of_row _ _ 0 _ _ _ hr3_0
      have c0_1 := cell_of_row _ _ 1 _ _ _ hr3_0
      have c0_2 := cell_of_row _ _ 2 _ _ _ hr3_0
      have c0_3 := cell_of_row _ _ 3 _ _ _ hr3_0
      have c0_4 := cell_of_row _ _ 4 _ _ _ hr3_0
      have c0_5 := cell_of_row _ _ 5 _ _ _ hr3_0
      have c0_6 := cell_of_row _ _ 6 _ _ _ hr3_0
      have c0_7 := cell_of_row _ _ 7 _ _ _ hr3_0
      have c0_8 := cell_of_row _ _ 8 _ _ _ hr3_0
      have c0_9 := cell_of_row _ _ 9 _ _ _ hr3_0
      have c0_10 := cell_of_row _ _ 10 _ _ _ hr3_0
      have c0_11 := cell_of_row _ _ 11 _ _ _ hr3_0
      simp at c0_0 c0_1 c0_2 c0_3 c0_4 c0_5 c0_6 c0_7 c0_8 c0_9 c0_10 c0_11
      go_wp2_with fail
      refine (ptopair_any _ _ _ _ _ _ _ _ _ _ _ _ _).mono ?_
      rintro e y4 ⟨rfl, hb4⟩
      clear c0_0 c0_1 c0_2 c0_3 c0_4 c0_5 c0_6 c0_7 c0_8 c0_9 c0_10 c0_11
      have hr4_0 := (hb4.block _ (lt_heap hr3_0)).trans hr3_0
      have HU4 := Lib.hid (HU3.out.trans (hb4.mono HU3.out.size))
      clear hr3_0 HU3
      have HI4 := Lib.hid (own_below HI3.out hb4)
      clear HI3
      have hsz := HU4.out.size
      go_wp2_with (first | (at_builtin; refine wpList_append_own _ rfl _ _ 110 rfl w.heap.size 114 i0 (.agg #[.int .i64 0, .int .i64 0, .int .i64 0, .int .i64 0, .int .i64 0, .int .i64 0, .int .i64 0, .int .i64 0, .int .i64 0, .int .i64 0, .int .i64 0, .int .i64 0]) 12 96 Try.underlying110 hi hz0 hz1 hz2 rfl (by decide) _ _ _ rfl (HI4.out.alloc _) ⟨y4.heap.size, 0, none⟩ 1 1 [.int .i64 (L (k * 12)), .int .i64 (L (k * 12 + 1)), .int .i64 (L (k * 12 + 2)), .int .i64 (L (k * 12 + 3)), .int .i64 (L (k * 12 + 4)), .int .i64 (L (k * 12 + 5)), .int .i64 (L (k * 12 + 6)), .int .i64 (L (k * 12 + 7)), .int .i64 (L (k * 12 + 8)), .int .i64 (L (k * 12 + 9)), .int .i64 (L (k * 12 + 10)), .int .i64 (L (k * 12 + 11))] rfl rfl ?c1 ?c2 ?c3 ?c4 ?c5 ?_))
      case c1 =>
        intro j u hj
        match j, hj with
        | 0, hj => simp at hj; subst hj; simp [Addr.add]
        | 1, hj => simp at hj; subst hj; simp [Addr.add]
        | 2, hj => simp at hj; subst hj; simp [Addr.add]
        | 3, hj => simp at hj; subst hj; simp [Addr.add]
        | 4, hj => simp at hj; subst hj; simp [Addr.add]
        | 5, hj => simp at hj; subst hj; simp [Addr.add]
        | 6, hj => simp at hj; subst hj; simp [Addr.add]
        | 7, hj => simp at hj; subst hj; simp [Addr.add]
        | 8, hj => simp at hj; subst hj; simp [Addr.add]
        | 9, hj => simp at hj; subst hj; simp [Addr.add]
        | 10, hj => simp at hj; subst hj; simp [Addr.add]
        | 11, hj => simp at hj; subst hj; simp [Addr.add]
      case c2 => intro u hu; simp at hu; rcases hu with rfl | rfl | rfl | rfl | rfl | rfl | rfl | rfl | rfl | rfl | rfl | rfl <;> rfl
      case c3 => unfold maxLen; omega
      case c4 => omega
      case c5 => simp; omega
      intro v5 y5 hin2 hgrow _
      rw [← flat12_step] at hin2
      have HU5 := Lib.hid ((HU4.out.trans ((below_n1 y4 _).mono HU4.out.size)).grown hgrow (by simp; omega) (fun q hq => (HI4.out.lt q hq).1))
      go_wp2_with fail
      go_roundw
      case rel => exact ⟨k + 1, by omega, by go_num, hin2, HU5⟩
      case measure => simp [intOf]; omega
    · obtain rfl : k = n1 := by omega
      clear hlt
      obtain ⟨z0, hz0'⟩ : ∃ z0, z0 = y0 := ⟨_, rfl⟩
      rw [← hz0'] at hin HU0 ⊢
      clear hz0'
      obtain ⟨gi, ci, rfl, kci, hgi, hci⟩ : ∃ g cap, u5 = .slice (some ⟨g, 0, none⟩) k cap ∧ k ≤ cap ∧ g < z0.heap.size ∧ ∀ j, j < k * 12 → z0.cell? ⟨g, j, none⟩ = some (.int .i64 (L j)) := by
        rcases hin.2 with ⟨hv, hn⟩ | ⟨g, cap, cur, hv, -, -, hle, -, -, -⟩
        · exact absurd hn e1
        · exact ⟨g, cap, hv, hle, (hin.lt g (by rw [hv]; rfl)).2, fun j hj => by have h9 := hin; rw [hv] at h9; exact (h9.cellAt j hj).trans (flat12_at L k j hj)⟩
      have HCI := Lib.hid hci
      clear hin hci HL
      have r1 : 0 < k := by omega
      have q3 : k - 1 ≤ 4611686018427387904 := by omega
      have q4 : (0 : Int) < k := by omega
      have q6 : (1 : Int) ≤ k := by omega
      have p1 : 1 ≤ k := by omega
      have XI0 : ∀ y, Below z0.heap.size z0 y → y.cell? ⟨gi, 0, none⟩ = some (.int .i64 (L 0)) := fun y h => (h.cell (p := ⟨gi, 0, none⟩) hgi).trans (HCI.out 0 (by omega))
      have XI1 : ∀ y, Below z0.heap.size z0 y → y.cell? ⟨gi, 1, none⟩ = some (.int .i64 (L 1)) := fun y h => (h.cell (p := ⟨gi, 1, none⟩) hgi).trans (HCI.out 1 (by omega))
      have XI2 : ∀ y, Below z0.heap.size z0 y → y.cell? ⟨gi, 2, none⟩ = some (.int .i64 (L 2)) := fun y h => (h.cell (p := ⟨gi, 2, none⟩) hgi).trans (HCI.out 2 (by omega))
      have XI3 : ∀ y, Below z0.heap.size z0 y → y.cell? ⟨gi, 3, none⟩ = some (.int .i64 (L 3)) := fun y h => (h.cell (p := ⟨gi, 3, none⟩) hgi).trans (HCI.out 3 (by omega))
      have XI4 : ∀ y, Below z0.heap.size z0 y → y.cell? ⟨gi, 4, none⟩ = some (.int .i64 (L 4)) := fun y h => (h.cell (p := ⟨gi, 4, none⟩) hgi).trans (HCI.out 4 (by omega))
      have XI5 : ∀ y, Below z0.heap.size z0 y → y.cell? ⟨gi, 5, none⟩ = some (.int .i64 (L 5)) := fun y h => (h.cell (p := ⟨gi, 5, none⟩) hgi).trans (HCI.out 5 (by omega))
      have XI6 : ∀ y, Below z0.heap.size z0 y → y.cell? ⟨gi, 6, none⟩ = some (.int .i64 (L 6)) := fun y h => (h.cell (p := ⟨gi, 6, none⟩) hgi).trans (HCI.out 6 (by omega))
      have XI7 : ∀ y, Below z0.heap.size z0 y → y.cell? ⟨gi, 7, none⟩ = some (.int .i64 (L 7)) := fun y h => (h.cell (p := ⟨gi, 7, none⟩) hgi).trans (HCI.out 7 (by omega))
      have XI8 : ∀ y, Below z0.heap.size z0 y → y.cell? ⟨gi, 8, none⟩ = some (.int .i64 (L 8)) := fun y h => (h.cell (p := ⟨gi, 8, none⟩) hgi).trans (HCI.out 8 (by omega))
      have XI9 : ∀ y, Below z0.heap.size z0 y → y.cell? ⟨gi, 9, none⟩ = some (.int .i64 (L 9)) := fun y h => (h.cell (p := ⟨gi, 9, none⟩) hgi).trans (HCI.out 9 (by omega))
      have XI10 : ∀ y, Below z0.heap.size z0 y → y.cell? ⟨gi, 10, none⟩ = some (.int .i64 (L 10)) := fun y h => (h.cell (p := ⟨gi, 10, none⟩) hgi).trans (HCI.out 10 (by omega))
      have XI11 : ∀ y, Below z0.heap.size z0 y → y.cell? ⟨gi, 11, none⟩ = some (.int .i64 (L 11)) := fun y h => (h.cell (p := ⟨gi, 11, none⟩) hgi).trans (HCI.out 11 (by omega))
      go_upto_region 11 with fail
      go_cut [8] (fun s8 wx => ∃ ga : Nat, s8 = .pointer (some ⟨ga, 0, none⟩) ∧ wx.heap[ga]? = some (.cells #[.int .i64 (Pl.lerp (lo12 L k 0) (lo12 L k 6) t), .int .i64 (Pl.lerp (lo12 L k 1) (lo12 L k 7) t), .int .i64 (Pl.lerp (lo12 L k 2) (lo12 L k 8) t), .int .i64 (Pl.lerp (hi12 L k 3) (hi12 L k 9) t), .int .i64 (Pl.lerp (hi12 L k 4) (hi12 L k 10) t), .int .i64 (Pl.lerp (hi12 L k 5) (hi12 L k 11) t)] 84 (0, 0)) ∧ Hid (Below z0.heap.size z0 wx))
      case first =>
        by_cases x1 : ci = 1
        · have HO1 : Hid (k = 1 ∨ (0 : Nat) = 12) := Lib.hid (.inl (by omega))
          clear kci
          subst x1
          refine wp_region_held_drew (S := fun y => Below z0.heap.size z0 y) (by kernel_rfl) ((Below.refl z0.heap.size z0).drew) (fun hV0 => ?_)
          obtain ⟨u0, hu0⟩ : ∃ u0, z0.drew = u0 := ⟨_, rfl⟩
          rw [hu0] at hV0 ⊢
          clear hu0
          refine wpAnyH_take (i := 0) (v := ?_) rfl (by kernel_rfl) (by kernel_rfl) (by kernel_rfl) (fun _ _ _ h => h) (Or.inl ⟨by kernel_rfl, by (intro wz hSz; go_simp; try with_reducible rfl)⟩) hV0 ?_
          go_simp
          refine wpAnyH_take (i := 1) (v := ?_) rfl (by kernel_rfl) (by kernel_rfl) (by kernel_rfl) (fun _ _ _ h => h) (Or.inl ⟨by kernel_rfl, by (intro wz hSz; go_simp; try with_reducible rfl)⟩) hV0 ?_
          go_simp
          refine wpAnyH_take (i := 2) (v := ?_) rfl (by kernel_rfl) (by kernel_rfl) (by kernel_rfl) (fun _ _ _ h => h) (Or.inl ⟨by kernel_rfl, by (intro wz hSz; have x0 := XI0 _ hSz; have x1 := XI1 _ hSz; have x2 := XI2 _ hSz; have x3 := XI3 _ hSz; have x4 := XI4 _ hSz; have x5 := XI5 _ hSz; have x6 := XI6 _ hSz; have x7 := XI7 _ hSz; have x8 := XI8 _ hSz; have x9 := XI9 _ hSz; have x10 := XI10 _ hSz; have x11 := XI11 _ hSz; go_simp; try with_reducible rfl)⟩) hV0 ?_
          go_simp
          refine wpAnyH_take (i := 3) (v := ?_) rfl (by kernel_rfl) (by kernel_rfl) (by kernel_rfl) (fun _ _ _ h => h) (Or.inl ⟨by kernel_rfl, by (intro wz hSz; go_simp; try with_reducible rfl)⟩) hV0 ?_
          go_simp
          refine wpAnyH_take (i := 4) (v := ?_) rfl (by kernel_rfl) (by kernel_rfl) (by kernel_rfl) (fun _ _ _ h => h) (Or.inl ⟨by kernel_rfl, by (intro wz hSz; go_simp; try with_reducible rfl)⟩) hV0 ?_
          go_simp
          refine wpAnyH_take (i := 6) (v := ?_) rfl (by kernel_rfl) (by kernel_rfl) (by kernel_rfl) (fun _ _ _ h => h) (Or.inl ⟨by kernel_rfl, by (intro wz hSz; go_simp; try with_reducible rfl)⟩) hV0 ?_
          go_simp
          refine wpAnyH_ready (rs := [5, 8]) (by kernel_rfl) (by simp) ?_
          refine AllReadyH.cons rfl (fun K hK => ?_) (AllReadyH.cons rfl (fun K hK => ?_) AllReadyH.nil)
          · skip
            go_simp
            go_wp2_with (go_at_call 51; with_reducible refine (both_any _ _ _ _ _ _ _ _ _ _ _ _ (.slice (some ⟨gi, 0, none⟩) (k - 1) _) (k - 1) (fun j => L (j + 12)) q3 _ (rowU_next HO1.out (Nat.lt_of_lt_of_le hgi hV0.size) (fun j h => (hV0.cell (p := ⟨gi, j, none⟩) hgi).trans (HCI.out j h)))).mono ?_; rintro e u1 ⟨rfl, hu1⟩)
            refine hK.out _ _ (hV0.trans (hu1.mono hV0.size)) (fun hV1 => ?_)
            clear hK K
            refine wpAnyH_ready (rs := [7, 8]) (by kernel_rfl) (by simp) ?_
            refine AllReadyH.cons rfl (fun K hK => ?_) (AllReadyH.cons rfl (fun K hK => ?_) AllReadyH.nil)
            · skip
              go_simp
              go_wp2_with (go_at_call 47; with_reducible refine (pat_any _ _ _ _ _ _ _ _ _ _ _ _ _ _).mono ?_; rintro e u2 ⟨rfl, hu2⟩)
              refine hK.out _ _ (hV1.trans (hu2.mono hV1.size)) (fun hV2 => ?_)
              clear hK K
              refine wpAnyH_ready (rs := [8]) (by kernel_rfl) (by simp) ?_
              refine AllReadyH.cons rfl (fun K hK => ?_) AllReadyH.nil
              go_simp
              have hu3 := below_n1 u2 (.cells #[.int .i64 0, .int .i64 0, .int .i64 0, .int .i64 0, .int .i64 0, .int .i64 0] 84)
              have hq3 := heap_alloc_last u2 (.cells #[.int .i64 0, .int .i64 0, .int .i64 0, .int .i64 0, .int .i64 0, .int .i64 0] 84)
              obtain ⟨u3, hy3⟩ : ∃ y, u2.alloc (.cells #[.int .i64 0, .int .i64 0, .int .i64 0, .int .i64 0, .int .i64 0, .int .i64 0] 84) = y := ⟨_, rfl⟩
              rw [hy3] at hu3 hq3 ⊢
              clear hy3
              refine hK.out _ _ (hV2.trans (hu3.mono hV2.size)) (fun hV3 => ?_)
              clear hK K
              refine wpAnyH_ready (rs := [9]) (by kernel_rfl) (by simp) ?_
              refine AllReadyH.cons rfl (fun K hK => ?_) AllReadyH.nil
              have hz4 := hV2.size
              refine step_store_row rfl 84 (.tmp 8) (.tmp 53) rfl #[.int .i64 0, .int .i64 0, .int .i64 0, .int .i64 0, .int .i64 0, .int .i64 0] #[.int .i64 (Pl.lerp (lo12 L k 0) (lo12 L k 6) t), .int .i64 (Pl.lerp (lo12 L k 1) (lo12 L k 7) t), .int .i64 (Pl.lerp (lo12 L k 2) (lo12 L k 8) t), .int .i64 (Pl.lerp (hi12 L k 3) (hi12 L k 9) t), .int .i64 (Pl.lerp (hi12 L k 4) (hi12 L k 10) t), .int .i64 (Pl.lerp (hi12 L k 5) (hi12 L k 11) t)] _ 84 hq3 rfl (by first | rfl | (go_simp; done) | (go_simp; rfl)) (by kernel_rfl) rfl (by simp [Value.oneCell']) ?_
              have hq4 := setRow_heap _ (u2.heap.size) _ #[.int .i64 (Pl.lerp (lo12 L k 0) (lo12 L k 6) t), .int .i64 (Pl.lerp (lo12 L k 1) (lo12 L k 7) t), .int .i64 (Pl.lerp (lo12 L k 2) (lo12 L k 8) t), .int .i64 (Pl.lerp (hi12 L k 3) (hi12 L k 9) t), .int .i64 (Pl.lerp (hi12 L k 4) (hi12 L k 10) t), .int .i64 (Pl.lerp (hi12 L k 5) (hi12 L k 11) t)] _ _ hq3
              have hV4x := below_setRow (g := u2.heap.size) hV3 (by omega) #[.int .i64 (Pl.lerp (lo12 L k 0) (lo12 L k 6) t), .int .i64 (Pl.lerp (lo12 L k 1) (lo12 L k 7) t), .int .i64 (Pl.lerp (lo12 L k 2) (lo12 L k 8) t), .int .i64 (Pl.lerp (hi12 L k 3) (hi12 L k 9) t), .int .i64 (Pl.lerp (hi12 L k 4) (hi12 L k 10) t), .int .i64 (Pl.lerp (hi12 L k 5) (hi12 L k 11) t)]
              refine hK.out _ _ (hV4x) (fun hV4 => ?_)
              clear hK K
              refine wpAnyH_done (by kernel_rfl) ?_ _
              go_wp2_with fail
              go_meet
              exact ⟨_, rfl, hq4, Lib.hid hV4⟩
            · skip
              go_simp
              have hu2 := below_n1 u1 (.cells #[.int .i64 0, .int .i64 0, .int .i64 0, .int .i64 0, .int .i64 0, .int .i64 0] 84)
              have hq2 := heap_alloc_last u1 (.cells #[.int .i64 0, .int .i64 0, .int .i64 0, .int .i64 0, .int .i64 0, .int .i64 0] 84)
              obtain ⟨u2, hy2⟩ : ∃ y, u1.alloc (.cells #[.int .i64 0, .int .i64 0, .int .i64 0, .int .i64 0, .int .i64 0, .int .i64 0] 84) = y := ⟨_, rfl⟩
              rw [hy2] at hu2 hq2 ⊢
              clear hy2
              refine hK.out _ _ (hV1.trans (hu2.mono hV1.size)) (fun hV2 => ?_)
              clear hK K
              refine wpAnyH_ready (rs := [7]) (by kernel_rfl) (by simp) ?_
              refine AllReadyH.cons rfl (fun K hK => ?_) AllReadyH.nil
              go_simp
              go_wp2_with (go_at_call 47; with_reducible refine (pat_any _ _ _ _ _ _ _ _ _ _ _ _ _ _).mono ?_; rintro e u3 ⟨rfl, hu3⟩)
              have hq3 := (hu3.block _ (lt_heap hq2)).trans hq2
              refine hK.out _ _ (hV2.trans (hu3.mono hV2.size)) (fun hV3 => ?_)
              clear hK K
              refine wpAnyH_ready (rs := [9]) (by kernel_rfl) (by simp) ?_
              refine AllReadyH.cons rfl (fun K hK => ?_) AllReadyH.nil
              have hz4 := hV1.size
              refine step_store_row rfl 84 (.tmp 8) (.tmp 53) rfl #[.int .i64 0, .int .i64 0, .int .i64 0, .int .i64 0, .int .i64 0, .int .i64 0] #[.int .i64 (Pl.lerp (lo12 L k 0) (lo12 L k 6) t), .int .i64 (Pl.lerp (lo12 L k 1) (lo12 L k 7) t), .int .i64 (Pl.lerp (lo12 L k 2) (lo12 L k 8) t), .int .i64 (Pl.lerp (hi12 L k 3) (hi12 L k 9) t), .int .i64 (Pl.lerp (hi12 L k 4) (hi12 L k 10) t), .int .i64 (Pl.lerp (hi12 L k 5) (hi12 L k 11) t)] _ 84 hq3 rfl (by first | rfl | (go_simp; done) | (go_simp; rfl)) (by kernel_rfl) rfl (by simp [Value.oneCell']) ?_
              have hq4 := setRow_heap _ (u1.heap.size) _ #[.int .i64 (Pl.lerp (lo12 L k 0) (lo12 L k 6) t), .int .i64 (Pl.lerp (lo12 L k 1) (lo12 L k 7) t), .int .i64 (Pl.lerp (lo12 L k 2) (lo12 L k 8) t), .int .i64 (Pl.lerp (hi12 L k 3) (hi12 L k 9) t), .int .i64 (Pl.lerp (hi12 L k 4) (hi12 L k 10) t), .int .i64 (Pl.lerp (hi12 L k 5) (hi12 L k 11) t)] _ _ hq3
              have hV4x := below_setRow (g := u1.heap.size) hV3 (by omega) #[.int .i64 (Pl.lerp (lo12 L k 0) (lo12 L k 6) t), .int .i64 (Pl.lerp (lo12 L k 1) (lo12 L k 7) t), .int .i64 (Pl.lerp (lo12 L k 2) (lo12 L k 8) t), .int .i64 (Pl.lerp (hi12 L k 3) (hi12 L k 9) t), .int .i64 (Pl.lerp (hi12 L k 4) (hi12 L k 10) t), .int .i64 (Pl.lerp (hi12 L k 5) (hi12 L k 11) t)]
              refine hK.out _ _ (hV4x) (fun hV4 => ?_)
              clear hK K
              refine wpAnyH_done (by kernel_rfl) ?_ _
              go_wp2_with fail
              go_meet
              exact ⟨_, rfl, hq4, Lib.hid hV4⟩
          · skip
            go_simp
            have hu1 := below_n1 u0 (.cells #[.int .i64 0, .int .i64 0, .int .i64 0, .int .i64 0, .int .i64 0, .int .i64 0] 84)
            have hq1 := heap_alloc_last u0 (.cells #[.int .i64 0, .int .i64 0, .int .i64 0, .int .i64 0, .int .i64 0, .int .i64 0] 84)
            obtain ⟨u1, hy1⟩ : ∃ y, u0.alloc (.cells #[.int .i64 0, .int .i64 0, .int .i64 0, .int .i64 0, .int .i64 0, .int .i64 0] 84) = y := ⟨_, rfl⟩
            rw [hy1] at hu1 hq1 ⊢
            clear hy1
            refine hK.out _ _ (hV0.trans (hu1.mono hV0.size)) (fun hV1 => ?_)
            clear hK K
            refine wpAnyH_ready (rs := [5]) (by kernel_rfl) (by simp) ?_
            refine AllReadyH.cons rfl (fun K hK => ?_) AllReadyH.nil
            go_simp
            go_wp2_with (go_at_call 51; with_reducible refine (both_any _ _ _ _ _ _ _ _ _ _ _ _ (.slice (some ⟨gi, 0, none⟩) (k - 1) _) (k - 1) (fun j => L (j + 12)) q3 _ (rowU_next HO1.out (Nat.lt_of_lt_of_le hgi hV1.size) (fun j h => (hV1.cell (p := ⟨gi, j, none⟩) hgi).trans (HCI.out j h)))).mono ?_; rintro e u2 ⟨rfl, hu2⟩)
            have hq2 := (hu2.block _ (lt_heap hq1)).trans hq1
            refine hK.out _ _ (hV1.trans (hu2.mono hV1.size)) (fun hV2 => ?_)
            clear hK K
            refine wpAnyH_ready (rs := [7]) (by kernel_rfl) (by simp) ?_
            refine AllReadyH.cons rfl (fun K hK => ?_) AllReadyH.nil
            go_simp
            go_wp2_with (go_at_call 47; with_reducible refine (pat_any _ _ _ _ _ _ _ _ _ _ _ _ _ _).mono ?_; rintro e u3 ⟨rfl, hu3⟩)
            have hq3 := (hu3.block _ (lt_heap hq2)).trans hq2
            refine hK.out _ _ (hV2.trans (hu3.mono hV2.size)) (fun hV3 => ?_)
            clear hK K
            refine wpAnyH_ready (rs := [9]) (by kernel_rfl) (by simp) ?_
            refine AllReadyH.cons rfl (fun K hK => ?_) AllReadyH.nil
            have hz4 := hV0.size
            refine step_store_row rfl 84 (.tmp 8) (.tmp 53) rfl #[.int .i64 0, .int .i64 0, .int .i64 0, .int .i64 0, .int .i64 0, .int .i64 0] #[.int .i64 (Pl.lerp (lo12 L k 0) (lo12 L k 6) t), .int .i64 (Pl.lerp (lo12 L k 1) (lo12 L k 7) t), .int .i64 (Pl.lerp (lo12 L k 2) (lo12 L k 8) t), .int .i64 (Pl.lerp (hi12 L k 3) (hi12 L k 9) t), .int .i64 (Pl.lerp (hi12 L k 4) (hi12 L k 10) t), .int .i64 (Pl.lerp (hi12 L k 5) (hi12 L k 11) t)] _ 84 hq3 rfl (by first | rfl | (go_simp; done) | (go_simp; rfl)) (by kernel_rfl) rfl (by simp [Value.oneCell']) ?_
            have hq4 := setRow_heap _ (u0.heap.size) _ #[.int .i64 (Pl.lerp (lo12 L k 0) (lo12 L k 6) t), .int .i64 (Pl.lerp (lo12 L k 1) (lo12 L k 7) t), .int .i64 (Pl.lerp (lo12 L k 2) (lo12 L k 8) t), .int .i64 (Pl.lerp (hi12 L k 3) (hi12 L k 9) t), .int .i64 (Pl.lerp (hi12 L k 4) (hi12 L k 10) t), .int .i64 (Pl.lerp (hi12 L k 5) (hi12 L k 11) t)] _ _ hq3
            have hV4x := below_setRow (g := u0.heap.size) hV3 (by omega) #[.int .i64 (Pl.lerp (lo12 L k 0) (lo12 L k 6) t), .int .i64 (Pl.lerp (lo12 L k 1) (lo12 L k 7) t), .int .i64 (Pl.lerp (lo12 L k 2) (lo12 L k 8) t), .int .i64 (Pl.lerp (hi12 L k 3) (hi12 L k 9) t), .int .i64 (Pl.lerp (hi12 L k 4) (hi12 L k 10) t), .int .i64 (Pl.lerp (hi12 L k 5) (hi12 L k 11) t)]
            refine hK.out _ _ (hV4x) (fun hV4 => ?_)
            clear hK K
            refine wpAnyH_done (by kernel_rfl) ?_ _
            go_wp2_with fail
            go_meet
            exact ⟨_, rfl, hq4, Lib.hid hV4⟩
        · skip
          refine wp_region_held_drew (S := fun y => Below z0.heap.size z0 y) (by kernel_rfl) ((Below.refl z0.heap.size z0).drew) (fun hV0 => ?_)
          obtain ⟨u0, hu0⟩ : ∃ u0, z0.drew = u0 := ⟨_, rfl⟩
          rw [hu0] at hV0 ⊢
          clear hu0
          refine wpAnyH_take (i := 0) (v := ?_) rfl (by kernel_rfl) (by kernel_rfl) (by kernel_rfl) (fun _ _ _ h => h) (Or.inl ⟨by kernel_rfl, by (intro wz hSz; go_simp; try with_reducible rfl)⟩) hV0 ?_
          go_simp
          refine wpAnyH_take (i := 1) (v := ?_) rfl (by kernel_rfl) (by kernel_rfl) (by kernel_rfl) (fun _ _ _ h => h) (Or.inl ⟨by kernel_rfl, by (intro wz hSz; go_simp; try with_reducible rfl)⟩) hV0 ?_
          go_simp
          refine wpAnyH_take (i := 2) (v := ?_) rfl (by kernel_rfl) (by kernel_rfl) (by kernel_rfl) (fun _ _ _ h => h) (Or.inl ⟨by kernel_rfl, by (intro wz hSz; have x0 := XI0 _ hSz; have x1 := XI1 _ hSz; have x2 := XI2 _ hSz; have x3 := XI3 _ hSz; have x4 := XI4 _ hSz; have x5 := XI5 _ hSz; have x6 := XI6 _ hSz; have x7 := XI7 _ hSz; have x8 := XI8 _ hSz; have x9 := XI9 _ hSz; have x10 := XI10 _ hSz; have x11 := XI11 _ hSz; go_simp; try with_reducible rfl)⟩) hV0 ?_
          go_simp
          refine wpAnyH_take (i := 3) (v := ?_) rfl (by kernel_rfl) (by kernel_rfl) (by kernel_rfl) (fun _ _ _ h => h) (Or.inl ⟨by kernel_rfl, by (intro wz hSz; go_simp; try with_reducible rfl)⟩) hV0 ?_
          go_simp
          refine wpAnyH_take (i := 4) (v := ?_) rfl (by kernel_rfl) (by kernel_rfl) (by kernel_rfl) (fun _ _ _ h => h) (Or.inl ⟨by kernel_rfl, by (intro wz hSz; go_simp; try with_reducible rfl)⟩) hV0 ?_
          go_simp
          refine wpAnyH_take (i := 6) (v := ?_) rfl (by kernel_rfl) (by kernel_rfl) (by kernel_rfl) (fun _ _ _ h => h) (Or.inl ⟨by kernel_rfl, by (intro wz hSz; go_simp; try with_reducible rfl)⟩) hV0 ?_
          go_simp
          refine wpAnyH_ready (rs := [5, 8]) (by kernel_rfl) (by simp) ?_
          refine AllReadyH.cons rfl (fun K hK => ?_) (AllReadyH.cons rfl (fun K hK => ?_) AllReadyH.nil)
          · skip
            go_simp
            go_wp2_with (go_at_call 51; with_reducible refine (both_any _ _ _ _ _ _ _ _ _ _ _ _ (.slice (some ⟨gi, 12, none⟩) (k - 1) _) (k - 1) (fun j => L (j + 12)) q3 _ (rowU_next (.inr rfl) (Nat.lt_of_lt_of_le hgi hV0.size) (fun j h => (hV0.cell (p := ⟨gi, j, none⟩) hgi).trans (HCI.out j h)))).mono ?_; rintro e u1 ⟨rfl, hu1⟩)
            refine hK.out _ _ (hV0.trans (hu1.mono hV0.size)) (fun hV1 => ?_)
            clear hK K
            refine wpAnyH_ready (rs := [7, 8]) (by kernel_rfl) (by simp) ?_
            refine AllReadyH.cons rfl (fun K hK => ?_) (AllReadyH.cons rfl (fun K hK => ?_) AllReadyH.nil)
            · skip
              go_simp
              go_wp2_with (go_at_call 47; with_reducible refine (pat_any _ _ _ _ _ _ _ _ _ _ _ _ _ _).mono ?_; rintro e u2 ⟨rfl, hu2⟩)
              refine hK.out _ _ (hV1.trans (hu2.mono hV1.size)) (fun hV2 => ?_)
              clear hK K
              refine wpAnyH_ready (rs := [8]) (by kernel_rfl) (by simp) ?_
              refine AllReadyH.cons rfl (fun K hK => ?_) AllReadyH.nil
              go_simp
              have hu3 := below_n1 u2 (.cells #[.int .i64 0, .int .i64 0, .int .i64 0, .int .i64 0, .int .i64 0, .int .i64 0] 84)
              have hq3 := heap_alloc_last u2 (.cells #[.int .i64 0, .int .i64 0, .int .i64 0, .int .i64 0, .int .i64 0, .int .i64 0] 84)
              obtain ⟨u3, hy3⟩ : ∃ y, u2.alloc (.cells #[.int .i64 0, .int .i64 0, .int .i64 0, .int .i64 0, .int .i64 0, .int .i64 0] 84) = y := ⟨_, rfl⟩
              rw [hy3] at hu3 hq3 ⊢
              clear hy3
              refine hK.out _ _ (hV2.trans (hu3.mono hV2.size)) (fun hV3 => ?_)
              clear hK K
              refine wpAnyH_ready (rs := [9]) (by kernel_rfl) (by simp) ?_
              refine AllReadyH.cons rfl (fun K hK => ?_) AllReadyH.nil
              have hz4 := hV2.size
              refine step_store_row rfl 84 (.tmp 8) (.tmp 53) rfl #[.int .i64 0, .int .i64 0, .int .i64 0, .int .i64 0, .int .i64 0, .int .i64 0] #[.int .i64 (Pl.lerp (lo12 L k 0) (lo12 L k 6) t), .int .i64 (Pl.lerp (lo12 L k 1) (lo12 L k 7) t), .int .i64 (Pl.lerp (lo12 L k 2) (lo12 L k 8) t), .int .i64 (Pl.lerp (hi12 L k 3) (hi12 L k 9) t), .int .i64 (Pl.lerp (hi12 L k 4) (hi12 L k 10) t), .int .i64 (Pl.lerp (hi12 L k 5) (hi12 L k 11) t)] _ 84 hq3 rfl (by first | rfl | (go_simp; done) | (go_simp; rfl)) (by kernel_rfl) rfl (by simp [Value.oneCell']) ?_
              have hq4 := setRow_heap _ (u2.heap.size) _ #[.int .i64 (Pl.lerp (lo12 L k 0) (lo12 L k 6) t), .int .i64 (Pl.lerp (lo12 L k 1) (lo12 L k 7) t), .int .i64 (Pl.lerp (lo12 L k 2) (lo12 L k 8) t), .int .i64 (Pl.lerp (hi12 L k 3) (hi12 L k 9) t), .int .i64 (Pl.lerp (hi12 L k 4) (hi12 L k 10) t), .int .i64 (Pl.lerp (hi12 L k 5) (hi12 L k 11) t)] _ _ hq3
              have hV4x := below_setRow (g := u2.heap.size) hV3 (by omega) #[.int .i64 (Pl.lerp (lo12 L k 0) (lo12 L k 6) t), .int .i64 (Pl.lerp (lo12 L k 1) (lo12 L k 7) t), .int .i64 (Pl.lerp (lo12 L k 2) (lo12 L k 8) t), .int .i64 (Pl.lerp (hi12 L k 3) (hi12 L k 9) t), .int .i64 (Pl.lerp (hi12 L k 4) (hi12 L k 10) t), .int .i64 (Pl.lerp (hi12 L k 5) (hi12 L k 11) t)]
              refine hK.out _ _ (hV4x) (fun hV4 => ?_)
              clear hK K
              refine wpAnyH_done (by kernel_rfl) ?_ _
              go_wp2_with fail
              go_meet
              exact ⟨_, rfl, hq4, Lib.hid hV4⟩
            · skip
              go_simp
              have hu2 := below_n1 u1 (.cells #[.int .i64 0, .int .i64 0, .int .i64 0, .int .i64 0, .int .i64 0, .int .i64 0] 84)
              have hq2 := heap_alloc_last u1 (.cells #[.int .i64 0, .int .i64 0, .int .i64 0, .int .i64 0, .int .i64 0, .int .i64 0] 84)
              obtain ⟨u2, hy2⟩ : ∃ y, u1.alloc (.cells #[.int .i64 0, .int .i64 0, .int .i64 0, .int .i64 0, .int .i64 0, .int .i64 0] 84) = y := ⟨_, rfl⟩
              rw [hy2] at hu2 hq2 ⊢
              clear hy2
              refine hK.out _ _ (hV1.trans (hu2.mono hV1.size)) (fun hV2 => ?_)
              clear hK K
              refine wpAnyH_ready (rs := [7]) (by kernel_rfl) (by simp) ?_
              refine AllReadyH.cons rfl (fun K hK => ?_) AllReadyH.nil
              go_simp
              go_wp2_with (go_at_call 47; with_reducible refine (pat_any _ _ _ _ _ _ _ _ _ _ _ _ _ _).mono ?_; rintro e u3 ⟨rfl, hu3⟩)
              have hq3 := (hu3.block _ (lt_heap hq2)).trans hq2
              refine hK.out _ _ (hV2.trans (hu3.mono hV2.size)) (fun hV3 => ?_)
              clear hK K
              refine wpAnyH_ready (rs := [9]) (by kernel_rfl) (by simp) ?_
              refine AllReadyH.cons rfl (fun K hK => ?_) AllReadyH.nil
              have hz4 := hV1.size
              refine step_store_row rfl 84 (.tmp 8) (.tmp 53) rfl #[.int .i64 0, .int .i64 0, .int .i64 0, .int .i64 0, .int .i64 0, .int .i64 0] #[.int .i64 (Pl.lerp (lo12 L k 0) (lo12 L k 6) t), .int .i64 (Pl.lerp (lo12 L k 1) (lo12 L k 7) t), .int .i64 (Pl.lerp (lo12 L k 2) (lo12 L k 8) t), .int .i64 (Pl.lerp (hi12 L k 3) (hi12 L k 9) t), .int .i64 (Pl.lerp (hi12 L k 4) (hi12 L k 10) t), .int .i64 (Pl.lerp (hi12 L k 5) (hi12 L k 11) t)] _ 84 hq3 rfl (by first | rfl | (go_simp; done) | (go_simp; rfl)) (by kernel_rfl) rfl (by simp [Value.oneCell']) ?_
              have hq4 := setRow_heap _ (u1.heap.size) _ #[.int .i64 (Pl.lerp (lo12 L k 0) (lo12 L k 6) t), .int .i64 (Pl.lerp (lo12 L k 1) (lo12 L k 7) t), .int .i64 (Pl.lerp (lo12 L k 2) (lo12 L k 8) t), .int .i64 (Pl.lerp (hi12 L k 3) (hi12 L k 9) t), .int .i64 (Pl.lerp (hi12 L k 4) (hi12 L k 10) t), .int .i64 (Pl.lerp (hi12 L k 5) (hi12 L k 11) t)] _ _ hq3
              have hV4x := below_setRow (g := u1.heap.size) hV3 (by omega) #[.int .i64 (Pl.lerp (lo12 L k 0) (lo12 L k 6) t), .int .i64 (Pl.lerp (lo12 L k 1) (lo12 L k 7) t), .int .i64 (Pl.lerp (lo12 L k 2) (lo12 L k 8) t), .int .i64 (Pl.lerp (hi12 L k 3) (hi12 L k 9) t), .int .i64 (Pl.lerp (hi12 L k 4) (hi12 L k 10) t), .int .i64 (Pl.lerp (hi12 L k 5) (hi12 L k 11) t)]
              refine hK.out _ _ (hV4x) (fun hV4 => ?_)
              clear hK K
              refine wpAnyH_done (by kernel_rfl) ?_ _
              go_wp2_with fail
              go_meet
              exact ⟨_, rfl, hq4, Lib.hid hV4⟩
          · skip
            go_simp
            have hu1 := below_n1 u0 (.cells #[.int .i64 0, .int .i64 0, .int .i64 0, .int .i64 0, .int .i64 0, .int .i64 0] 84)
            have hq1 := heap_alloc_last u0 (.cells #[.int .i64 0, .int .i64 0, .int .i64 0, .int .i64 0, .int .i64 0, .int .i64 0] 84)
            obtain ⟨u1, hy1⟩ : ∃ y, u0.alloc (.cells #[.int .i64 0, .int .i64 0, .int .i64 0, .int .i64 0, .int .i64 0, .int .i64 0] 84) = y := ⟨_, rfl⟩
            rw [hy1] at hu1 hq1 ⊢
            clear hy1
            refine hK.out _ _ (hV0.trans (hu1.mono hV0.size)) (fun hV1 => ?_)
            clear hK K
            refine wpAnyH_ready (rs := [5]) (by kernel_rfl) (by simp) ?_
            refine AllReadyH.cons rfl (fun K hK => ?_) AllReadyH.nil
            go_simp
            go_wp2_with (go_at_call 51; with_reducible refine (both_any _ _ _ _ _ _ _ _ _ _ _ _ (.slice (some ⟨gi, 12, none⟩) (k - 1) _) (k - 1) (fun j => L (j + 12)) q3 _ (rowU_next (.inr rfl) (Nat.lt_of_lt_of_le hgi hV1.size) (fun j h => (hV1.cell (p := ⟨gi, j, none⟩) hgi).trans (HCI.out j h)))).mono ?_; rintro e u2 ⟨rfl, hu2⟩)
            have hq2 := (hu2.block _ (lt_heap hq1)).trans hq1
            refine hK.out _ _ (hV1.trans (hu2.mono hV1.size)) (fun hV2 => ?_)
            clear hK K
            refine wpAnyH_ready (rs := [7]) (by kernel_rfl) (by simp) ?_
            refine AllReadyH.cons rfl (fun K hK => ?_) AllReadyH.nil
            go_simp
            go_wp2_with (go_at_call 47; with_reducible refine (pat_any _ _ _ _ _ _ _ _ _ _ _ _ _ _).mono ?_; rintro e u3 ⟨rfl, hu3⟩)
            have hq3 := (hu3.block _ (lt_heap hq2)).trans hq2
            refine hK.out _ _ (hV2.trans (hu3.mono hV2.size)) (fun hV3 => ?_)
            clear hK K
            refine wpAnyH_ready (rs := [9]) (by kernel_rfl) (by simp) ?_
            refine AllReadyH.cons rfl (fun K hK => ?_) AllReadyH.nil
            have hz4 := hV0.size
            refine step_store_row rfl 84 (.tmp 8) (.tmp 53) rfl #[.int .i64 0, .int .i64 0, .int .i64 0, .int .i64 0, .int .i64 0, .int .i64 0] #[.int .i64 (Pl.lerp (lo12 L k 0) (lo12 L k 6) t), .int .i64 (Pl.lerp (lo12 L k 1) (lo12 L k 7) t), .int .i64 (Pl.lerp (lo12 L k 2) (lo12 L k 8) t), .int .i64 (Pl.lerp (hi12 L k 3) (hi12 L k 9) t), .int .i64 (Pl.lerp (hi12 L k 4) (hi12 L k 10) t), .int .i64 (Pl.lerp (hi12 L k 5) (hi12 L k 11) t)] _ 84 hq3 rfl (by first | rfl | (go_simp; done) | (go_simp; rfl)) (by kernel_rfl) rfl (by simp [Value.oneCell']) ?_
            have hq4 := setRow_heap _ (u0.heap.size) _ #[.int .i64 (Pl.lerp (lo12 L k 0) (lo12 L k 6) t), .int .i64 (Pl.lerp (lo12 L k 1) (lo12 L k 7) t), .int .i64 (Pl.lerp (lo12 L k 2) (lo12 L k 8) t), .int .i64 (Pl.lerp (hi12 L k 3) (hi12 L k 9) t), .int .i64 (Pl.lerp (hi12 L k 4) (hi12 L k 10) t), .int .i64 (Pl.lerp (hi12 L k 5) (hi12 L k 11) t)] _ _ hq3
            have hV4x := below_setRow (g := u0.heap.size) hV3 (by omega) #[.int .i64 (Pl.lerp (lo12 L k 0) (lo12 L k 6) t), .int .i64 (Pl.lerp (lo12 L k 1) (lo12 L k 7) t), .int .i64 (Pl.lerp (lo12 L k 2) (lo12 L k 8) t), .int .i64 (Pl.lerp (hi12 L k 3) (hi12 L k 9) t), .int .i64 (Pl.lerp (hi12 L k 4) (hi12 L k 10) t), .int .i64 (Pl.lerp (hi12 L k 5) (hi12 L k 11) t)]
            refine hK.out _ _ (hV4x) (fun hV4 => ?_)
            clear hK K
            refine wpAnyH_done (by kernel_rfl) ?_ _
            go_wp2_with fail
            go_meet
            exact ⟨_, rfl, hq4, Lib.hid hV4⟩
      case rest =>
        clear XI0 XI1 XI2 XI3 XI4 XI5 XI6 XI7 XI8 XI9 XI10 XI11
        obtain ⟨ga, rfl, hqa, HC⟩ := hcut
        have hgc := Nat.lt_of_lt_of_le hgi HC.out.size
        have HUc := Lib.hid (HU0.out.trans (HC.out.mono HU0.out.size))
        go_wp2_with fail
        go_loopw [56] (fun ix wr => ∃ j : Nat, j ≤ k ∧ ix = .int .i64 j ∧ Hid (Below wc.heap.size wc wr)) (fun ix _ => k - (intOf ix).toNat)
        case atStart => exact ⟨0, by omega, rfl, Lib.hid (Below.refl _ _)⟩
        case round =>
          obtain ⟨j, hj, rfl, HK⟩ := hrel
          obtain ⟨y20, rfl⟩ : ∃ y : World, y = wr := ⟨_, rfl⟩
          have HU20 := HK
          by_cases hlt : j < k
          · have hlt' : (j : Int) < k := by omega
            have hlt2 : j < k := hlt
            have e0 : y20.cell? ⟨gi, j * 12, none⟩ = some (.int .i64 (L (j * 12))) := (HK.out.cell (p := ⟨gi, j * 12 + 0, none⟩) hgc).trans ((HC.out.cell (p := ⟨gi, j * 12 + 0, none⟩) hgi).trans (HCI.out (j * 12 + 0) (by omega)))
            have e1 : y20.cell? ⟨gi, j * 12 + 1, none⟩ = some (.int .i64 (L (j * 12 + 1))) := (HK.out.cell (p := ⟨gi, j * 12 + 1, none⟩) hgc).trans ((HC.out.cell (p := ⟨gi, j * 12 + 1, none⟩) hgi).trans (HCI.out (j * 12 + 1) (by omega)))
            have e2 : y20.cell? ⟨gi, j * 12 + 2, none⟩ = some (.int .i64 (L (j * 12 + 2))) := (HK.out.cell (p := ⟨gi, j * 12 + 2, none⟩) hgc).trans ((HC.out.cell (p := ⟨gi, j * 12 + 2, none⟩) hgi).trans (HCI.out (j * 12 + 2) (by omega)))
            have e3 : y20.cell? ⟨gi, j * 12 + 3, none⟩ = some (.int .i64 (L (j * 12 + 3))) := (HK.out.cell (p := ⟨gi, j * 12 + 3, none⟩) hgc).trans ((HC.out.cell (p := ⟨gi, j * 12 + 3, none⟩) hgi).trans (HCI.out (j * 12 + 3) (by omega)))
            have e4 : y20.cell? ⟨gi, j * 12 + 4, none⟩ = some (.int .i64 (L (j * 12 + 4))) := (HK.out.cell (p := ⟨gi, j * 12 + 4, none⟩) hgc).trans ((HC.out.cell (p := ⟨gi, j * 12 + 4, none⟩) hgi).trans (HCI.out (j * 12 + 4) (by omega)))
            have e5 : y20.cell? ⟨gi, j * 12 + 5, none⟩ = some (.int .i64 (L (j * 12 + 5))) := (HK.out.cell (p := ⟨gi, j * 12 + 5, none⟩) hgc).trans ((HC.out.cell (p := ⟨gi, j * 12 + 5, none⟩) hgi).trans (HCI.out (j * 12 + 5) (by omega)))
            have e6 : y20.cell? ⟨gi, j * 12 + 6, none⟩ = some (.int .i64 (L (j * 12 + 6))) := (HK.out.cell (p := ⟨gi, j * 12 + 6, none⟩) hgc).trans ((HC.out.cell (p := ⟨gi, j * 12 + 6, none⟩) hgi).trans (HCI.out (j * 12 + 6) (by omega)))
            have e7 : y20.cell? ⟨gi, j * 12 + 7, none⟩ = some (.int .i64 (L (j * 12 + 7))) := (HK.out.cell (p := ⟨gi, j * 12 + 7, none⟩) hgc).trans ((HC.out.cell (p := ⟨gi, j * 12 + 7, none⟩) hgi).trans (HCI.out (j * 12 + 7) (by omega)))
            have e8 : y20.cell? ⟨gi, j * 12 + 8, none⟩ = some (.int .i64 (L (j * 12 + 8))) := (HK.out.cell (p := ⟨gi, j * 12 + 8, none⟩) hgc).trans ((HC.out.cell (p := ⟨gi, j * 12 + 8, none⟩) hgi).trans (HCI.out (j * 12 + 8) (by omega)))
            have e9 : y20.cell? ⟨gi, j * 12 + 9, none⟩ = some (.int .i64 (L (j * 12 + 9))) := (HK.out.cell (p := ⟨gi, j * 12 + 9, none⟩) hgc).trans ((HC.out.cell (p := ⟨gi, j * 12 + 9, none⟩) hgi).trans (HCI.out (j * 12 + 9) (by omega)))
            have e10 : y20.cell? ⟨gi, j * 12 + 10, none⟩ = some (.int .i64 (L (j * 12 + 10))) := (HK.out.cell (p := ⟨gi, j * 12 + 10, none⟩) hgc).trans ((HC.out.cell (p := ⟨gi, j * 12 + 10, none⟩) hgi).trans (HCI.out (j * 12 + 10) (by omega)))
            have e11 : y20.cell? ⟨gi, j * 12 + 11, none⟩ = some (.int .i64 (L (j * 12 + 11))) := (HK.out.cell (p := ⟨gi, j * 12 + 11, none⟩) hgc).trans ((HC.out.cell (p := ⟨gi, j * 12 + 11, none⟩) hgi).trans (HCI.out (j * 12 + 11) (by omega)))
            have hr20_0 := (HK.out.block _ (lt_heap hqa)).trans hqa
            go_wp2_with fail
            clear e0 e1 e2 e3 e4 e5 e6 e7 e8 e9 e10 e11
            have hb21 := below_n1 y20 (.cells #[.int .i64 (L (j * 12)), .int .i64 (L (j * 12 + 1)), .int .i64 (L (j * 12 + 2)), .int .i64 (L (j * 12 + 3)), .int .i64 (L (j * 12 + 4)), .int .i64 (L (j * 12 + 5)), .int .i64 (L (j * 12 + 6)), .int .i64 (L (j * 12 + 7)), .int .i64 (L (j * 12 + 8)), .int .i64 (L (j * 12 + 9)), .int .i64 (L (j * 12 + 10)), .int .i64 (L (j * 12 + 11))] 114)
            have hN := heap_alloc_last y20 (.cells #[.int .i64 (L (j * 12)), .int .i64 (L (j * 12 + 1)), .int .i64 (L (j * 12 + 2)), .int .i64 (L (j * 12 + 3)), .int .i64 (L (j * 12 + 4)), .int .i64 (L (j * 12 + 5)), .int .i64 (L (j * 12 + 6)), .int .i64 (L (j * 12 + 7)), .int .i64 (L (j * 12 + 8)), .int .i64 (L (j * 12 + 9)), .int .i64 (L (j * 12 + 10)), .int .i64 (L (j * 12 + 11))] 114)
            obtain ⟨y21, hy21⟩ : ∃ y, y20.alloc (.cells #[.int .i64 (L (j * 12)), .int .i64 (L (j * 12 + 1)), .int .i64 (L (j * 12 + 2)), .int .i64 (L (j * 12 + 3)), .int .i64 (L (j * 12 + 4)), .int .i64 (L (j * 12 + 5)), .int .i64 (L (j * 12 + 6)), .int .i64 (L (j * 12 + 7)), .int .i64 (L (j * 12 + 8)), .int .i64 (L (j * 12 + 9)), .int .i64 (L (j * 12 + 10)), .int .i64 (L (j * 12 + 11))] 114) = y := ⟨_, rfl⟩
            have hs21 : y21.heap.size = y20.heap.size + 1 := by rw [← hy21]; simp
            rw [hy21] at hb21 hN ⊢
            clear hy21
            have hl21_0 := lt_heap hr20_0
            have hr21_0 := (hb21.block _ (lt_heap hr20_0)).trans hr20_0
            have HU21 := Lib.hid (HU20.out.trans (hb21.mono HU20.out.size))
            clear hr20_0 HU20
            have hr21_1 := hN
            clear hN
            have c1_0 := cell_of_row _ _ 0 _ _ _ hr21_1
            have c1_1 := cell_of_row _ _ 1 _ _ _ hr21_1
            have c1_2 := cell_of_row _ _ 2 _ _ _ hr21_1
            have c1_3 := cell_of_row _ _ 3 _ _ _ hr21_1
            have c1_4 := cell_of_row _ _ 4 _ _ _ hr21_1
            have c1_5 := cell_of_row _ _ 5 _ _ _ hr21_1
            have c1_6 := cell_of_row _ _ 6 _ _ _ hr21_1
            have c1_7 := cell_of_row _ _ 7 _ _ _ hr21_1
            have c1_8 := cell_of_row _ _ 8 _ _ _ hr21_1
            have c1_9 := cell_of_row _ _ 9 _ _ _ hr21_1
            have c1_10 := cell_of_row _ _ 10 _ _ _ hr21_1
            have c1_11 := cell_of_row _ _ 11 _ _ _ hr21_1
            simp at c1_0 c1_1 c1_2 c1_3 c1_4 c1_5 c1_6 c1_7 c1_8 c1_9 c1_10 c1_11
            go_wp2_with fail
            refine (pat_any _ _ _ _ _ _ _ _ _ _ _ _ _ _).mono ?_
            rintro e y22 ⟨rfl, hb22⟩
            clear c1_0 c1_1 c1_2 c1_3 c1_4 c1_5 c1_6 c1_7 c1_8 c1_9 c1_10 c1_11
            have hr22_0 := (hb22.block _ (lt_heap hr21_0)).trans hr21_0
            have hr22_1 := (hb22.block _ (lt_heap hr21_1)).trans hr21_1
            have HU22 := Lib.hid (HU21.out.trans (hb22.mono HU21.out.size))
            clear hr21_0 hr21_1 HU21
            go_upto_region 16 with fail
            have hb23 := below_n1 y22 (.cells #[.int .i64 (Pl.lerp (L (j * 12)) (L (j * 12 + 6)) t), .int .i64 (Pl.lerp (L (j * 12 + 1)) (L (j * 12 + 7)) t), .int .i64 (Pl.lerp (L (j * 12 + 2)) (L (j * 12 + 8)) t), .int .i64 (Pl.lerp (L (j * 12 + 3)) (L (j * 12 + 9)) t), .int .i64 (Pl.lerp (L (j * 12 + 4)) (L (j * 12 + 10)) t), .int .i64 (Pl.lerp (L (j * 12 + 5)) (L (j * 12 + 11)) t)] 84)
            have hN := heap_alloc_last y22 (.cells #[.int .i64 (Pl.lerp (L (j * 12)) (L (j * 12 + 6)) t), .int .i64 (Pl.lerp (L (j * 12 + 1)) (L (j * 12 + 7)) t), .int .i64 (Pl.lerp (L (j * 12 + 2)) (L (j * 12 + 8)) t), .int .i64 (Pl.lerp (L (j * 12 + 3)) (L (j * 12 + 9)) t), .int .i64 (Pl.lerp (L (j * 12 + 4)) (L (j * 12 + 10)) t), .int .i64 (Pl.lerp (L (j * 12 + 5)) (L (j * 12 + 11)) t)] 84)
            obtain ⟨y23, hy23⟩ : ∃ y, y22.alloc (.cells #[.int .i64 (Pl.lerp (L (j * 12)) (L (j * 12 + 6)) t), .int .i64 (Pl.lerp (L (j * 12 + 1)) (L (j * 12 + 7)) t), .int .i64 (Pl.lerp (L (j * 12 + 2)) (L (j * 12 + 8)) t), .int .i64 (Pl.lerp (L (j * 12 + 3)) (L (j * 12 + 9)) t), .int .i64 (Pl.lerp (L (j * 12 + 4)) (L (j * 12 + 10)) t), .int .i64 (Pl.lerp (L (j * 12 + 5)) (L (j * 12 + 11)) t)] 84) = y := ⟨_, rfl⟩
            have hs23 : y23.heap.size = y22.heap.size + 1 := by rw [← hy23]; simp
            rw [hy23] at hb23 hN ⊢
            clear hy23
            have hl23_0 := lt_heap hr22_0
            have hl23_1 := lt_heap hr22_1
            have hr23_0 := (hb23.block _ (lt_heap hr22_0)).trans hr22_0
            have hr23_1 := (hb23.block _ (lt_heap hr22_1)).trans hr22_1
            have HU23 := Lib.hid (HU22.out.trans (hb23.mono HU22.out.size))
            clear hr22_0 hr22_1 HU22
            have hr23_2 := hN
            clear hN
            have s0 : decide (Pl.lerp (L (j * 12)) (L (j * 12 + 6)) t < Pl.lerp (lo12 L k 0) (lo12 L k 6) t) = false := decide_eq_false (Int.not_lt.2 (below_all L k j 0 t (by omega)))
            have s1 : decide (Pl.lerp (L (j * 12 + 1)) (L (j * 12 + 7)) t < Pl.lerp (lo12 L k 1) (lo12 L k 7) t) = false := decide_eq_false (Int.not_lt.2 (below_all L k j 1 t (by omega)))
            have s2 : decide (Pl.lerp (L (j * 12 + 2)) (L (j * 12 + 8)) t < Pl.lerp (lo12 L k 2) (lo12 L k 8) t) = false := decide_eq_false (Int.not_lt.2 (below_all L k j 2 t (by omega)))
            have s3 : decide (Pl.lerp (hi12 L k 3) (hi12 L k 9) t < Pl.lerp (L (j * 12 + 3)) (L (j * 12 + 9)) t) = false := decide_eq_false (Int.not_lt.2 (above_all L k j 3 t (by omega)))
            have s4 : decide (Pl.lerp (hi12 L k 4) (hi12 L k 10) t < Pl.lerp (L (j * 12 + 4)) (L (j * 12 + 10)) t) = false := decide_eq_false (Int.not_lt.2 (above_all L k j 4 t (by omega)))
            have s5 : decide (Pl.lerp (hi12 L k 5) (hi12 L k 11) t < Pl.lerp (L (j * 12 + 5)) (L (j * 12 + 11)) t) = false := decide_eq_false (Int.not_lt.2 (above_all L k j 5 t (by omega)))
            have c0_0 := cell_of_row _ _ 0 _ _ _ hr23_0
            have c0_1 := cell_of_row _ _ 1 _ _ _ hr23_0
            have c0_2 := cell_of_row _ _ 2 _ _ _ hr23_0
            have c0_3 := cell_of_row _ _ 3 _ _ _ hr23_0
            have c0_4 := cell_of_row _ _ 4 _ _ _ hr23_0
            have c0_5 := cell_of_row _ _ 5 _ _ _ hr23_0
            have c2_0 := cell_of_row _ _ 0 _ _ _ hr23_2
            have c2_1 := cell_of_row _ _ 1 _ _ _ hr23_2
            have c2_2 := cell_of_row _ _ 2 _ _ _ hr23_2
            have c2_3 := cell_of_row _ _ 3 _ _ _ hr23_2
            have c2_4 := cell_of_row _ _ 4 _ _ _ hr23_2
            have c2_5 := cell_of_row _ _ 5 _ _ _ hr23_2
            simp at c0_0 c0_1 c0_2 c0_3 c0_4 c0_5 c2_0 c2_1 c2_2 c2_3 c2_4 c2_5
            have hx0 := idx0
            have hx1 := idx1
            have hx2 := idx2
            go_wp2_with fail
            refine wp_loop_rounds 4 ?_
            rw [rounds_succ]
            go_wp2_with fail
            rw [rounds_succ]
            go_wp2_with fail
            rw [rounds_succ]
            go_wp2_with fail
            rw [rounds_succ]
            go_wp2_with fail
            go_roundw
            case rel => exact ⟨j + 1, by omega, by go_num, Lib.hid (HU23.out.trans ((below_n3 y23 _ _ _).mono HU23.out.size))⟩
            case measure => simp [intOf]; omega
          · obtain rfl : j = k := by omega
            go_wp2_with fail
            refine (awake_any _).mono ?_
            rintro e wq ⟨rfl, hbq⟩
            go_wp2
            go_ret
            exact ⟨rfl, (HUc.out.trans (HK.out.mono HUc.out.size)).trans (hbq.mono (HUc.out.trans (HK.out.mono HUc.out.size)).size)⟩

end Go.Proofs.Ytfeihojobmagnaa.boxHoldsW
