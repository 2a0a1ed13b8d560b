/- Boxes: the box of some boxes, by the document, axis by axis. -/
import Derived.Test.YtoppcnkfgmbpfaaE06
import Derived.Test.YtoppcnkfgmbpfaaE19
import Derived.Test.YtoppcnkfgmbpfaaE10
import Derived.BigQuiet
namespace Go.Proofs.Ytoppcnkfgmbpfaa.Bx
open Go.RowKit Go.Proofs.Ytoppcnkfgmbpfaa Go.Proofs.Ytoppcnkfgmbpfaa.Wa Go.Proofs.Ytoppcnkfgmbpfaa.Ve Go.Proofs.Ytoppcnkfgmbpfaa.Au
set_option linter.unusedVariables false

theorem frozen_row {w : World} {g : Nat} {cs : Array Value} {t : TypeId} (h : w.heap[g]? = some (.cells cs t (0, 0))) (j : Nat) : w.frozen? ⟨g, j, none⟩ = false := by simp [World.frozen?, h]

/-- the least of some boxes' numbers at a place, the greatest -/
def lo6 (L : Nat → Int) (i K : Nat) : Int := foldN min (L i) (fun j => L (j * 6 + i)) K

def hi6 (L : Nat → Int) (i K : Nat) : Int := foldN max (L (3 + i)) (fun j => L (j * 6 + (3 + i))) K

theorem lo6_step (L : Nat → Int) (i K : Nat) : lo6 L i (K + 1) = min (lo6 L i K) (L (K * 6 + i)) := rfl

theorem hi6_step (L : Nat → Int) (i K : Nat) : hi6 L i (K + 1) = max (hi6 L i K) (L (K * 6 + (3 + i))) := rfl

theorem lo6_one (L : Nat → Int) (i : Nat) : lo6 L i 1 = L i := by
  show min (L i) (L (0 * 6 + i)) = L i
  rw [show 0 * 6 + i = i by omega]; omega

theorem hi6_one (L : Nat → Int) (i : Nat) : hi6 L i 1 = L (3 + i) := by
  show max (L (3 + i)) (L (0 * 6 + (3 + i))) = L (3 + i)
  rw [show 0 * 6 + (3 + i) = 3 + i by omega]; omega

/-- a box of the call's own, the zero result, and nothing that was there written -/
def S6 (w : World) (g : Nat) (fl fh : Nat → Int) (wr : World) : Prop :=
  w.heap.size < g ∧ (∀ j, j < 3 → wr.cell? ⟨g, j, none⟩ = some (.int .i64 (fl j))) ∧ (∀ j, j < 3 → wr.cell? ⟨g, 3 + j, none⟩ = some (.int .i64 (fh j))) ∧ (∀ j, wr.frozen? ⟨g, j, none⟩ = false) ∧
  (∀ j, j < 6 → wr.cell? ⟨w.heap.size, j, none⟩ = some (.int .i64 0)) ∧ (∀ j, wr.frozen? ⟨w.heap.size, j, none⟩ = false) ∧ Below w.heap.size w wr

theorem S6.congr {w : World} {g : Nat} {fl fh gl gh : Nat → Int} {wr : World} (m : S6 w g fl fh wr) (h1 : ∀ j, j < 3 → gl j = fl j) (h2 : ∀ j, j < 3 → gh j = fh j) : S6 w g gl gh wr :=
  ⟨m.1, fun j hj => by rw [h1 j hj]; exact m.2.1 j hj, fun j hj => by rw [h2 j hj]; exact m.2.2.1 j hj, m.2.2.2⟩

theorem S6.draws {w : World} {g : Nat} {fl fh : Nat → Int} {wr : World} (m : S6 w g fl fh wr) (k : Nat) : S6 w g fl fh (wr.drewN k) :=
  ⟨m.1, m.2.1, m.2.2.1, m.2.2.2.1, m.2.2.2.2.1, m.2.2.2.2.2.1, below_draws m.2.2.2.2.2.2 k⟩

theorem S6.setl {w : World} {g : Nat} {fl fh : Nat → Int} {wr : World} (m : S6 w g fl fh wr) {i : Nat} (hi : i < 3) (x : Int) : S6 w g (fun j => if j = i then x else fl j) fh (wr.setCell ⟨g, i, none⟩ (.int .i64 x)) := by
  have hn : w.heap.size ≠ g := Nat.ne_of_lt m.1
  refine ⟨m.1, fun j hj => ?_, fun j hj => ?_, fun j => ?_, fun j hj => ?_, fun j => ?_, m.2.2.2.2.2.2.setCell (Nat.le_of_lt m.1) _⟩
  · rw [set_at (m.2.1 i hi)]
    by_cases e : j = i
    · simp [e]
    · simp [e, m.2.1 j hj]
  · rw [set_at (m.2.1 i hi), if_neg (by omega)]; exact m.2.2.1 j hj
  · rw [World.frozen?_setCell]; exact m.2.2.2.1 j
  · rw [set_far hn]; exact m.2.2.2.2.1 j hj
  · rw [World.frozen?_setCell]; exact m.2.2.2.2.2.1 j

theorem S6.seth {w : World} {g : Nat} {fl fh : Nat → Int} {wr : World} (m : S6 w g fl fh wr) {i : Nat} (hi : i < 3) (x : Int) : S6 w g fl (fun j => if j = i then x else fh j) (wr.setCell ⟨g, 3 + i, none⟩ (.int .i64 x)) := by
  have hn : w.heap.size ≠ g := Nat.ne_of_lt m.1
  refine ⟨m.1, fun j hj => ?_, fun j hj => ?_, fun j => ?_, fun j hj => ?_, fun j => ?_, m.2.2.2.2.2.2.setCell (Nat.le_of_lt m.1) _⟩
  · rw [set_at (m.2.2.1 i hi), if_neg (by omega)]; exact m.2.1 j hj
  · rw [set_at (m.2.2.1 i hi)]
    by_cases e : j = i
    · simp [e]
    · rw [if_neg (by omega)]; simp only [if_neg e]; exact m.2.2.1 j hj
  · rw [World.frozen?_setCell]; exact m.2.2.2.1 j
  · rw [set_far hn]; exact m.2.2.2.2.1 j hj
  · rw [World.frozen?_setCell]; exact m.2.2.2.2.2.1 j

theorem step_if {a b f : Nat → Int} {i : Nat} {x : Int} (hx : a i = x) (j : Nat) : (if j < i + 1 then a j else b j) = if j = i then x else if j < i then a j else b j := by
  by_cases e : j = i
  · subst e; simp [hx]
  · by_cases h : j < i
    · rw [if_pos (by omega), if_neg e, if_pos h]
    · rw [if_neg (by omega), if_neg e, if_neg h]

theorem keep_if {a b : Nat → Int} {i : Nat} (hx : a i = b i) (j : Nat) : (if j < i + 1 then a j else b j) = if j < i then a j else b j := by
  by_cases e : j = i
  · subst e; simp [hx]
  · by_cases h : j < i
    · rw [if_pos (by omega), if_pos h]
    · rw [if_neg (by omega), if_neg h]

theorem S6.stepl {w : World} {g : Nat} {a b fh : Nat → Int} {wr : World} {i : Nat} {x : Int} (m : S6 w g (fun j => if j < i then a j else b j) fh wr) (hi : i < 3) (hx : a i = x) : S6 w g (fun j => if j < i + 1 then a j else b j) fh (wr.setCell ⟨g, i, none⟩ (.int .i64 x)) :=
  (m.setl hi x).congr (fun j _ => step_if (f := a) hx j) (fun _ _ => rfl)

theorem S6.keepl {w : World} {g : Nat} {a b fh : Nat → Int} {wr : World} {i : Nat} (m : S6 w g (fun j => if j < i then a j else b j) fh wr) (hx : a i = b i) : S6 w g (fun j => if j < i + 1 then a j else b j) fh wr :=
  m.congr (fun j _ => keep_if hx j) (fun _ _ => rfl)

theorem S6.steph {w : World} {g : Nat} {a b fl : Nat → Int} {wr : World} {i : Nat} {x : Int} (m : S6 w g fl (fun j => if j < i then a j else b j) wr) (hi : i < 3) (hx : a i = x) : S6 w g fl (fun j => if j < i + 1 then a j else b j) (wr.setCell ⟨g, 3 + i, none⟩ (.int .i64 x)) :=
  (m.seth hi x).congr (fun _ _ => rfl) (fun j _ => step_if (f := a) hx j)

theorem S6.keeph {w : World} {g : Nat} {a b fl : Nat → Int} {wr : World} {i : Nat} (m : S6 w g fl (fun j => if j < i then a j else b j) wr) (hx : a i = b i) : S6 w g fl (fun j => if j < i + 1 then a j else b j) wr :=
  m.congr (fun _ _ => rfl) (fun j _ => keep_if hx j)

set_option maxHeartbeats 4000000 in
set_option maxRecDepth 100000 in
theorem rjoin_row (gl ol n cap : Nat) (L : Nat → Int) (hn : 1 ≤ n) (hm : n ≤ 1000000) (w : World) (hg : gl < w.heap.size) (hp : ∀ j, j < n * 6 → w.cell? ⟨gl, ol + j, none⟩ = some (.int .i64 (L j))) :
    Calls Try.prog 50 #[.slice (some ⟨gl, ol, none⟩) n cap] w fun e w' => e = .returned (.agg #[.int .i64 (lo6 L 0 n), .int .i64 (lo6 L 1 n), .int .i64 (lo6 L 2 n), .int .i64 (hi6 L 0 n), .int .i64 (hi6 L 1 n), .int .i64 (hi6 L 2 n)]) ∧ Below w.heap.size w w' := by
  have HP := Lib.hid hp
  have c0 : w.cell? ⟨gl, ol, none⟩ = some (.int .i64 (L 0)) := hp 0 (by omega)
  have c1 : w.cell? ⟨gl, ol + 1, none⟩ = some (.int .i64 (L 1)) := hp 1 (by omega)
  have c2 : w.cell? ⟨gl, ol + 2, none⟩ = some (.int .i64 (L 2)) := hp 2 (by omega)
  have c3 : w.cell? ⟨gl, ol + 3, none⟩ = some (.int .i64 (L 3)) := hp 3 (by omega)
  have c4 : w.cell? ⟨gl, ol + 4, none⟩ = some (.int .i64 (L 4)) := hp 4 (by omega)
  have c5 : w.cell? ⟨gl, ol + 5, none⟩ = some (.int .i64 (L 5)) := hp 5 (by omega)
  have l1 : gl < w.heap.size + 1 := by omega
  have hn0 : (0 : Int) < (n : Int) := by omega
  have hn1 : 0 < n := by omega
  clear hp
  go_enter Try.func50, Try.ntmps50
  go_wp2_with fail
  have HM0 := Lib.hid (show S6 w (w.heap.size + 1) (fun j => lo6 L j 1) (fun j => hi6 L j 1) ((w.alloc (.cells #[.int .i64 0, .int .i64 0, .int .i64 0, .int .i64 0, .int .i64 0, .int .i64 0] 49)).alloc (.cells #[.int .i64 (L 0), .int .i64 (L 1), .int .i64 (L 2), .int .i64 (L 3), .int .i64 (L 4), .int .i64 (L 5)] 49)) from by
    have hR := rows2 w (.cells #[.int .i64 0, .int .i64 0, .int .i64 0, .int .i64 0, .int .i64 0, .int .i64 0] 49) (.cells #[.int .i64 (L 0), .int .i64 (L 1), .int .i64 (L 2), .int .i64 (L 3), .int .i64 (L 4), .int .i64 (L 5)] 49)
    refine ⟨by omega, fun j hj => ?_, fun j hj => ?_, fun j => ?_, fun j hj => ?_, fun j => ?_, below_n2 _ _ _⟩
    · rw [cell_of_row _ _ j _ _ _ hR.2]; simp only [lo6_one]
      match j, hj with
      | 0, _ => rfl
      | 1, _ => rfl
      | 2, _ => rfl
    · rw [cell_of_row _ _ _ _ _ _ hR.2]; simp only [hi6_one]
      match j, hj with
      | 0, _ => rfl
      | 1, _ => rfl
      | 2, _ => rfl
    · exact frozen_row hR.2 j
    · rw [cell_of_row _ _ j _ _ _ hR.1]
      match j, hj with
      | 0, _ => rfl
      | 1, _ => rfl
      | 2, _ => rfl
      | 3, _ => rfl
      | 4, _ => rfl
      | 5, _ => rfl
    · exact frozen_row hR.1 j)
  obtain ⟨g, hgg⟩ : ∃ g, g = w.heap.size + 1 := ⟨_, rfl⟩
  rw [← hgg] at HM0 ⊢
  clear hgg c0 c1 c2 c3 c4 c5
  go_loopw [4] (fun s4 wr => ∃ K : Nat, 1 ≤ K ∧ K ≤ n ∧ s4 = .int .i64 K ∧ S6 w g (fun j => lo6 L j K) (fun j => hi6 L j K) wr) (fun s4 _ => n - (intOf s4).toNat)
  case atStart => exact ⟨1, Nat.le_refl _, hn, rfl, HM0.out⟩
  case round =>
    clear HM0
    obtain ⟨K, hK1, hKn, rfl, hm1⟩ := hrel
    have HM1 := Lib.hid hm1
    clear hm1
    by_cases hlt : K < n
    · go_wp2
      obtain ⟨wo, rfl⟩ : ∃ wo : World, wo = wr := ⟨_, rfl⟩
      go_loopw [5] (fun s5 wi => ∃ i : Nat, i ≤ 3 ∧ s5 = .int .i64 i ∧ S6 w g (fun j => if j < i then lo6 L j (K + 1) else lo6 L j K) (fun j => if j < i then hi6 L j (K + 1) else hi6 L j K) wi) (fun s5 _ => 3 - (intOf s5).toNat)
      case atStart => exact ⟨0, by omega, rfl, HM1.out.congr (fun j _ => by simp) (fun j _ => by simp)⟩
      case round =>
        obtain ⟨i, hi3, rfl, hm2⟩ := hrel
        by_cases hi : i < 3
        · have ec : wr.cell? ⟨gl, ol + K * 6 + i, none⟩ = some (.int .i64 (L (K * 6 + i))) := by
            rw [Nat.add_assoc]; exact (hm2.2.2.2.2.2.2.cell (p := ⟨gl, ol + (K * 6 + i), none⟩) hg).trans (HP.out (K * 6 + i) (by omega))
          have ed : wr.cell? ⟨gl, ol + K * 6 + 3 + i, none⟩ = some (.int .i64 (L (K * 6 + (3 + i)))) := by
            rw [Nat.add_assoc, Nat.add_assoc]; exact (hm2.2.2.2.2.2.2.cell (p := ⟨gl, ol + (K * 6 + (3 + i)), none⟩) hg).trans (HP.out (K * 6 + (3 + i)) (by omega))
          have gc := hm2.2.1 i hi
          have hc := hm2.2.2.1 i hi
          simp only [if_neg (show ¬ i < i by omega)] at gc hc
          have gf := hm2.2.2.2.1 i
          have hf := hm2.2.2.2.1 (3 + i)
          have ni : i ≠ 3 + i := by omega
          have ni' := Ne.symm ni
          have ngl : gl ≠ g := by have := hm2.1; omega
          have HM2 := Lib.hid hm2
          clear hm2
          by_cases t1 : L (K * 6 + i) < lo6 L i K
          · by_cases t2 : hi6 L i K < L (K * 6 + (3 + i))
            · skip
              have a1 : lo6 L i (K + 1) = L (K * 6 + i) := (lo6_step L i K).trans (by omega)
              have a2 : hi6 L i (K + 1) = L (K * 6 + (3 + i)) := (hi6_step L i K).trans (by omega)
              have d1 := decide_eq_true t1
              have d2 := decide_eq_true t2
              go_wp2_with fail
              go_quiet (fail)
              go_wp2
              go_quiet (fail)
              go_wp2
              try go_roundw
              all_goals first
                | (exact ⟨i + 1, by omega, rfl, (((HM2.out.draws _).stepl hi a1).draws _).steph hi a2⟩)
                | (exact ⟨⟨i + 1, by omega, rfl, (((HM2.out.draws _).stepl hi a1).draws _).steph hi a2⟩, by simp [intOf]; omega⟩)
                | (exact ⟨i + 1, by omega, rfl, ((HM2.out.draws _).stepl hi a1).steph hi a2⟩)
                | (exact ⟨⟨i + 1, by omega, rfl, ((HM2.out.draws _).stepl hi a1).steph hi a2⟩, by simp [intOf]; omega⟩)
                | (simp [intOf]; omega)
                | trace_state
            · skip
              have a1 : lo6 L i (K + 1) = L (K * 6 + i) := (lo6_step L i K).trans (by omega)
              have a2 : hi6 L i (K + 1) = hi6 L i K := (hi6_step L i K).trans (by omega)
              have d1 := decide_eq_true t1
              have d2 := decide_eq_false t2
              go_wp2_with fail
              go_quiet (fail)
              go_wp2
              go_quiet (fail)
              go_wp2
              try go_roundw
              all_goals first
                | (exact ⟨i + 1, by omega, rfl, (((HM2.out.draws _).stepl hi a1).draws _).keeph a2⟩)
                | (exact ⟨⟨i + 1, by omega, rfl, (((HM2.out.draws _).stepl hi a1).draws _).keeph a2⟩, by simp [intOf]; omega⟩)
                | (exact ⟨i + 1, by omega, rfl, ((HM2.out.draws _).stepl hi a1).keeph a2⟩)
                | (exact ⟨⟨i + 1, by omega, rfl, ((HM2.out.draws _).stepl hi a1).keeph a2⟩, by simp [intOf]; omega⟩)
                | (simp [intOf]; omega)
                | trace_state
          · by_cases t2 : hi6 L i K < L (K * 6 + (3 + i))
            · skip
              have a1 : lo6 L i (K + 1) = lo6 L i K := (lo6_step L i K).trans (by omega)
              have a2 : hi6 L i (K + 1) = L (K * 6 + (3 + i)) := (hi6_step L i K).trans (by omega)
              have d1 := decide_eq_false t1
              have d2 := decide_eq_true t2
              go_wp2_with fail
              go_quiet (fail)
              go_wp2
              go_quiet (fail)
              go_wp2
              try go_roundw
              all_goals first
                | (exact ⟨i + 1, by omega, rfl, (((HM2.out.draws _).keepl a1).draws _).steph hi a2⟩)
                | (exact ⟨⟨i + 1, by omega, rfl, (((HM2.out.draws _).keepl a1).draws _).steph hi a2⟩, by simp [intOf]; omega⟩)
                | (exact ⟨i + 1, by omega, rfl, ((HM2.out.draws _).keepl a1).steph hi a2⟩)
                | (exact ⟨⟨i + 1, by omega, rfl, ((HM2.out.draws _).keepl a1).steph hi a2⟩, by simp [intOf]; omega⟩)
                | (simp [intOf]; omega)
                | trace_state
            · skip
              have a1 : lo6 L i (K + 1) = lo6 L i K := (lo6_step L i K).trans (by omega)
              have a2 : hi6 L i (K + 1) = hi6 L i K := (hi6_step L i K).trans (by omega)
              have d1 := decide_eq_false t1
              have d2 := decide_eq_false t2
              go_wp2_with fail
              go_quiet (fail)
              go_wp2
              go_quiet (fail)
              go_wp2
              try go_roundw
              all_goals first
                | (exact ⟨i + 1, by omega, rfl, (((HM2.out.draws _).keepl a1).draws _).keeph a2⟩)
                | (exact ⟨⟨i + 1, by omega, rfl, (((HM2.out.draws _).keepl a1).draws _).keeph a2⟩, by simp [intOf]; omega⟩)
                | (exact ⟨i + 1, by omega, rfl, ((HM2.out.draws _).keepl a1).keeph a2⟩)
                | (exact ⟨⟨i + 1, by omega, rfl, ((HM2.out.draws _).keepl a1).keeph a2⟩, by simp [intOf]; omega⟩)
                | (simp [intOf]; omega)
                | trace_state
        · have e3 : i = 3 := by omega
          subst e3
          have n0 : ¬ (((3 : Nat) : Int) < 3) := by omega
          go_wp2_with fail
          go_roundw
          case rel => exact ⟨K + 1, by omega, by omega, rfl, hm2.congr (fun j hj => by simp only [if_pos hj]) (fun j hj => by simp only [if_pos hj])⟩
          case measure => simp [intOf]; omega
    · have eK : K = n := by omega
      subst eK
      have m := HM1.out
      have a0 := m.2.1 0 (by omega)
      have a1 := m.2.1 1 (by omega)
      have a2 := m.2.1 2 (by omega)
      have b0 := m.2.2.1 0 (by omega)
      have b1 := m.2.2.1 1 (by omega)
      have b2 := m.2.2.1 2 (by omega)
      simp at b0 b1 b2
      have z0 := m.2.2.2.2.1 0 (by omega)
      have z1 := m.2.2.2.2.1 1 (by omega)
      have z2 := m.2.2.2.2.1 2 (by omega)
      have z3 := m.2.2.2.2.1 3 (by omega)
      have z4 := m.2.2.2.2.1 4 (by omega)
      have z5 := m.2.2.2.2.1 5 (by omega)
      have zf := m.2.2.2.2.2.1
      have n1 : w.heap.size ≠ g := Nat.ne_of_lt m.1
      have n1' := Ne.symm n1
      have hbe := m.2.2.2.2.2.2
      clear m
      go_wp2_with fail
      have hw := below_put3o (below_put3 hbe (k := w.heap.size) (by omega) (.int .i64 (lo6 L 0 K)) (.int .i64 (lo6 L 1 K)) (.int .i64 (lo6 L 2 K))) (k := w.heap.size) 3 (by omega) (.int .i64 (hi6 L 0 K)) (.int .i64 (hi6 L 1 K)) (.int .i64 (hi6 L 2 K))
      exact bodyPost_ret (v := .agg #[.int .i64 (lo6 L 0 K), .int .i64 (lo6 L 1 K), .int .i64 (lo6 L 2 K), .int .i64 (hi6 L 0 K), .int .i64 (hi6 L 1 K), .int .i64 (hi6 L 2 K)]) (by simp [results, Try.results50, go_sem, z0, z1, z2, z3, z4, z5]) rfl ⟨rfl, hw⟩

end Go.Proofs.Ytoppcnkfgmbpfaa.Bx
