/- The contract of the document's own least and greatest numbers of points. -/
import Derived.Test.YtoppcnkfgmbpfaaE07
import Derived.Test.YtoppcnkfgmbpfaaE18
import Derived.Deep.DeepCutAuto
namespace Go.Proofs.Ytoppcnkfgmbpfaa.Ve
open Go.RowKit Go.Proofs.Ytoppcnkfgmbpfaa Go.Proofs.Ytoppcnkfgmbpfaa.Wa

/-- the least numbers of the first points of a row, and the greatest -/
def lo (L : Nat → Int) (i K : Nat) : Int := foldN min (L i) (fun j => L (j * 3 + i)) K

def hig (L : Nat → Int) (i K : Nat) : Int := foldN max (L i) (fun j => L (j * 3 + i)) K

theorem lo_step (L : Nat → Int) (i K : Nat) : lo L i (K + 1) = min (lo L i K) (L (K * 3 + i)) := rfl

theorem hig_step (L : Nat → Int) (i K : Nat) : hig L i (K + 1) = max (hig L i K) (L (K * 3 + i)) := rfl

theorem lo_one (L : Nat → Int) (i : Nat) : lo L i 1 = L i := by
  show min (L i) (L (0 * 3 + i)) = L i
  rw [show 0 * 3 + i = i by omega]; omega

theorem hig_one (L : Nat → Int) (i : Nat) : hig L i 1 = L i := by
  show max (L i) (L (0 * 3 + i)) = L i
  rw [show 0 * 3 + i = i by omega]; omega

/-- a row of numbers, three a point -/
def Nums (w : World) (g n : Nat) (L : Nat → Int) : Prop := g < w.heap.size ∧ ∀ j, j < n * 3 → w.cell? ⟨g, j, none⟩ = some (.int .i64 (L j))

theorem Nums.on {w w' : World} {g n : Nat} {L : Nat → Int} (h : Nums w g n L) (hb : Below w.heap.size w w') : Nums w' g n L :=
  ⟨Nat.lt_of_lt_of_le h.1 hb.size, fun j hj => (hb.cell (p := ⟨g, j, none⟩) h.1).trans (h.2 j hj)⟩

/-- two points of the call's own, the zero results, and nothing that was there written -/
def Two (w : World) (g h : Nat) (fg fh : Nat → Int) (wr : World) : Prop :=
  w.heap.size + 1 < g ∧ w.heap.size + 1 < h ∧ g ≠ h ∧ (∀ j, j < 3 → wr.cell? ⟨g, j, none⟩ = some (.int .i64 (fg j))) ∧ (∀ j, j < 3 → wr.cell? ⟨h, j, none⟩ = some (.int .i64 (fh j))) ∧
  (∀ j, wr.frozen? ⟨g, j, none⟩ = false) ∧ (∀ j, wr.frozen? ⟨h, j, none⟩ = false) ∧ (∀ j, j < 3 → wr.cell? ⟨w.heap.size, j, none⟩ = some (.int .i64 0)) ∧ (∀ j, j < 3 → wr.cell? ⟨w.heap.size + 1, j, none⟩ = some (.int .i64 0)) ∧
  (∀ j, wr.frozen? ⟨w.heap.size, j, none⟩ = false) ∧ (∀ j, wr.frozen? ⟨w.heap.size + 1, j, none⟩ = false) ∧ Below w.heap.size w wr

theorem Two.congr {w : World} {g h : Nat} {fg fh fg' fh' : Nat → Int} {wr : World} (m : Two w g h fg fh wr) (h1 : ∀ j, j < 3 → fg' j = fg j) (h2 : ∀ j, j < 3 → fh' j = fh j) : Two w g h fg' fh' wr :=
  ⟨m.1, m.2.1, m.2.2.1, fun j hj => by rw [h1 j hj]; exact m.2.2.2.1 j hj, fun j hj => by rw [h2 j hj]; exact m.2.2.2.2.1 j hj, m.2.2.2.2.2⟩

theorem Two.draws {w : World} {g h : Nat} {fg fh : Nat → Int} {wr : World} (m : Two w g h fg fh wr) (k : Nat) : Two w g h fg fh (wr.drewN k) :=
  ⟨m.1, m.2.1, m.2.2.1, m.2.2.2.1, m.2.2.2.2.1, m.2.2.2.2.2.1, m.2.2.2.2.2.2.1, m.2.2.2.2.2.2.2.1, m.2.2.2.2.2.2.2.2.1, m.2.2.2.2.2.2.2.2.2.1, m.2.2.2.2.2.2.2.2.2.2.1, below_draws m.2.2.2.2.2.2.2.2.2.2.2 k⟩

theorem set_at {wr : World} {b i j : Nat} {x v : Value} (hb : wr.cell? ⟨b, i, none⟩ = some v) : (wr.setCell ⟨b, i, none⟩ x).cell? ⟨b, j, none⟩ = if j = i then some x else wr.cell? ⟨b, j, none⟩ := by
  by_cases h : j = i
  · subst h; simp [World.cell?_setCell_same, hb]
  · rw [if_neg h]; exact World.cell?_setCell_other _ _ _ _ (by first | (simp; done) | (simp; omega))

theorem set_far {wr : World} {b c i j : Nat} {x : Value} (h : c ≠ b) : (wr.setCell ⟨b, i, none⟩ x).cell? ⟨c, j, none⟩ = wr.cell? ⟨c, j, none⟩ :=
  World.cell?_setCell_other _ _ _ _ (by first | (simp; done) | (simp; omega))

theorem Two.setg {w : World} {g h : Nat} {fg fh : Nat → Int} {wr : World} (m : Two w g h fg fh wr) {i : Nat} (hi : i < 3) (x : Int) : Two w g h (fun j => if j = i then x else fg j) fh (wr.setCell ⟨g, i, none⟩ (.int .i64 x)) := by
  obtain ⟨m1, m2, m3, m4, m5, m6, m7, m8, m9, m10, m11, m12⟩ := m
  refine ⟨m1, m2, m3, fun j hj => ?_, fun j hj => ?_, fun j => ?_, fun j => ?_, fun j hj => ?_, fun j hj => ?_, fun j => ?_, fun j => ?_, m12.setCell (by simp; omega) _⟩
  · rw [set_at (m4 i hi)]
    by_cases e : j = i
    · rw [if_pos e]; simp only [if_pos e]
    · rw [if_neg e]; simp only [if_neg e]; exact m4 j hj
  · rw [set_far (by omega)]; exact m5 j hj
  · rw [World.frozen?_setCell]; exact m6 j
  · rw [World.frozen?_setCell]; exact m7 j
  · rw [set_far (by omega)]; exact m8 j hj
  · rw [set_far (by omega)]; exact m9 j hj
  · rw [World.frozen?_setCell]; exact m10 j
  · rw [World.frozen?_setCell]; exact m11 j

theorem Two.swap {w : World} {g h : Nat} {fg fh : Nat → Int} {wr : World} (m : Two w g h fg fh wr) : Two w h g fh fg wr := by
  obtain ⟨m1, m2, m3, m4, m5, m6, m7, m8, m9, m10, m11, m12⟩ := m
  exact ⟨m2, m1, Ne.symm m3, m5, m4, m7, m6, m8, m9, m10, m11, m12⟩

theorem Two.seth {w : World} {g h : Nat} {fg fh : Nat → Int} {wr : World} (m : Two w g h fg fh wr) {i : Nat} (hi : i < 3) (x : Int) : Two w g h fg (fun j => if j = i then x else fh j) (wr.setCell ⟨h, i, none⟩ (.int .i64 x)) :=
  (m.swap.setg hi x).swap

theorem Two.stepg {w : World} {g h : Nat} {a b fh : Nat → Int} {wr : World} {i : Nat} {x : Int} (m : Two w g h (fun j => if j < i then a j else b j) fh wr) (hi : i < 3) (hx : a i = x) :
    Two w g h (fun j => if j < i + 1 then a j else b j) fh (wr.setCell ⟨g, i, none⟩ (.int .i64 x)) :=
  (m.setg hi x).congr (fun j _ => by
    by_cases e : j = i
    · subst e; rw [if_pos (by omega : j < j + 1)]; simp only [if_pos]; exact hx
    · by_cases e2 : j < i
      · rw [if_pos (by omega : j < i + 1)]; simp only [if_neg e, if_pos e2]
      · rw [if_neg (by omega : ¬ j < i + 1)]; simp only [if_neg e, if_neg e2]) (fun _ _ => rfl)

theorem Two.keepg {w : World} {g h : Nat} {a b fh : Nat → Int} {wr : World} {i : Nat} (m : Two w g h (fun j => if j < i then a j else b j) fh wr) (hx : a i = b i) :
    Two w g h (fun j => if j < i + 1 then a j else b j) fh wr :=
  m.congr (fun j _ => by
    by_cases e : j = i
    · subst e; rw [if_pos (by omega : j < j + 1)]; simp only [if_neg (Nat.lt_irrefl _)]; exact hx
    · by_cases e2 : j < i
      · rw [if_pos (by omega : j < i + 1)]; simp only [if_pos e2]
      · rw [if_neg (by omega : ¬ j < i + 1)]; simp only [if_neg e2]) (fun _ _ => rfl)

theorem Two.steph {w : World} {g h : Nat} {a b fg : Nat → Int} {wr : World} {i : Nat} {x : Int} (m : Two w g h fg (fun j => if j < i then a j else b j) wr) (hi : i < 3) (hx : a i = x) :
    Two w g h fg (fun j => if j < i + 1 then a j else b j) (wr.setCell ⟨h, i, none⟩ (.int .i64 x)) :=
  (m.swap.stepg hi hx).swap

theorem Two.keeph {w : World} {g h : Nat} {a b fg : Nat → Int} {wr : World} {i : Nat} (m : Two w g h fg (fun j => if j < i then a j else b j) wr) (hx : a i = b i) :
    Two w g h fg (fun j => if j < i + 1 then a j else b j) wr :=
  (m.swap.keepg hx).swap

set_option maxHeartbeats 2000000 in
set_option maxRecDepth 100000 in
theorem ends_any (gl n cap : Nat) (L : Nat → Int) (hn : 1 ≤ n) (hm : n ≤ 4611686018427387904) (w : World) (hp : Nums w gl n L) :
    Calls Try.prog 52 #[.slice (some ⟨gl, 0, none⟩) n cap] w fun e w' => e = .returned (.tuple #[V3 (lo L 0 n) (lo L 1 n) (lo L 2 n), V3 (hig L 0 n) (hig L 1 n) (hig L 2 n)]) ∧ Below w.heap.size w w' := by
  have HP := Lib.hid hp
  have c0 := hp.2 0 (by omega)
  have c1 := hp.2 1 (by omega)
  have c2 := hp.2 2 (by omega)
  have l0 := hp.1
  have l1 : gl < w.heap.size + 1 := by omega
  have l2 : gl < w.heap.size + 1 + 1 := by omega
  have l3 : gl < w.heap.size + 1 + 1 + 1 := by omega
  have hn0 : (0 : Int) < (n : Int) := by omega
  have hn1 : 0 < n := by omega
  clear hp
  go_enter Try.func52, Try.ntmps52
  go_upto_region 1 with fail
  go_cut [4, 5] (fun s4 s5 wx => ∃ g h : Nat, s4 = .pointer (some ⟨g, 0, none⟩) ∧ s5 = .pointer (some ⟨h, 0, none⟩) ∧ Two w g h L L wx)
  case first =>
    go_region_held3 (fun w' => w'.cell? ⟨gl, 0, none⟩ = some (.int .i64 (L 0)) ∧ w'.cell? ⟨gl, 1, none⟩ = some (.int .i64 (L 1)) ∧ w'.cell? ⟨gl, 2, none⟩ = some (.int .i64 (L 2))) (first | (go_keep; done) | ((try dsimp only); refine ⟨?_, ?_, ?_⟩ <;> (go_simp; done))) (fail)
    all_goals (go_wp2_with fail; go_meet; refine ⟨_, _, rfl, rfl, ?_, ?_, ?_, ?_, ?_, ?_, ?_, ?_, ?_, ?_, ?_, ?_⟩)
    all_goals first
      | omega
      | (intro j hj; match j, hj with | 0, _ => (go_simp; done) | 1, _ => (go_simp; done) | 2, _ => (go_simp; done))
      | (intro j; go_simp; done)
      | (repeat (first | exact Below.refl _ _ | apply Below.drew | (refine Below.alloc ?_ (by first | (simp; done) | (simp; omega)) _)))
  case rest =>
    obtain ⟨g, h, rfl, rfl, hm0⟩ := hcut
    have HM := Lib.hid hm0
    clear hm0 c0 c1 c2
    go_wp2
    go_loopw [6] (fun s6 wr => ∃ K : Nat, 1 ≤ K ∧ K ≤ n ∧ s6 = .int .i64 K ∧ Two w g h (fun j => lo L j K) (fun j => hig L j K) wr) (fun s6 _ => n - (intOf s6).toNat)
    case atStart => exact ⟨1, Nat.le_refl _, hn, rfl, HM.out.congr (fun j _ => lo_one L j) (fun j _ => hig_one L j)⟩
    case round =>
      obtain ⟨K, hK1, hKn, rfl, hm1⟩ := hrel
      have HM1 := Lib.hid hm1
      clear hm1
      by_cases hlt : K < n
      · go_wp2
        obtain ⟨wo, rfl⟩ : ∃ wo : World, wo = wr := ⟨_, rfl⟩
        go_loopw [7] (fun s7 wi => ∃ i : Nat, i ≤ 3 ∧ s7 = .int .i64 i ∧ Two w g h (fun j => if j < i then lo L j (K + 1) else lo L j K) (fun j => if j < i then hig L j (K + 1) else hig L j K) wi) (fun s7 _ => 3 - (intOf s7).toNat)
        case atStart => exact ⟨0, by omega, rfl, HM1.out.congr (fun j _ => by simp) (fun j _ => by simp)⟩
        case round =>
          obtain ⟨i, hi3, rfl, hm2⟩ := hrel
          by_cases hi : i < 3
          · have ec := (HP.out.on hm2.2.2.2.2.2.2.2.2.2.2.2).2 (K * 3 + i) (by omega)
            have gc := hm2.2.2.2.1 i hi
            have hc := hm2.2.2.2.2.1 i hi
            simp only [if_neg (show ¬ i < i by omega)] at gc hc
            have gf := hm2.2.2.2.2.2.1 i
            have hf := hm2.2.2.2.2.2.2.1 i
            have ng := hm2.2.2.1
            have ng' := Ne.symm ng
            have HM2 := Lib.hid hm2
            clear hm2
            by_cases t1 : L (K * 3 + i) < lo L i K
            · by_cases t2 : hig L i K < L (K * 3 + i)
              · have a1 : lo L i (K + 1) = L (K * 3 + i) := (lo_step L i K).trans (by omega)
                have a2 : hig L i (K + 1) = L (K * 3 + i) := (hig_step L i K).trans (by omega)
                go_wp2_with fail
                go_quiet (fail)
                go_wp2
                go_quiet (fail)
                go_wp2
                try go_roundw
                all_goals first
                  | (exact ⟨i + 1, by omega, rfl, (((HM2.out.draws _).stepg hi a1).draws _).steph hi a2⟩)
                  | (exact ⟨i + 1, by omega, rfl, ((HM2.out.draws _).stepg hi a1).steph hi a2⟩)
                  | (exact ⟨⟨i + 1, by omega, rfl, (((HM2.out.draws _).stepg hi a1).draws _).steph hi a2⟩, by simp [intOf]; omega⟩)
                  | (simp [intOf]; omega)
                  | trace_state
              · have a1 : lo L i (K + 1) = L (K * 3 + i) := (lo_step L i K).trans (by omega)
                have a2 : hig L i (K + 1) = hig L i K := (hig_step L i K).trans (by omega)
                go_wp2_with fail
                go_quiet (fail)
                go_wp2
                go_quiet (fail)
                go_wp2
                try go_roundw
                all_goals first
                  | (exact ⟨i + 1, by omega, rfl, (((HM2.out.draws _).stepg hi a1).draws _).keeph a2⟩)
                  | (exact ⟨i + 1, by omega, rfl, ((HM2.out.draws _).stepg hi a1).keeph a2⟩)
                  | (exact ⟨⟨i + 1, by omega, rfl, (((HM2.out.draws _).stepg hi a1).draws _).keeph a2⟩, by simp [intOf]; omega⟩)
                  | (simp [intOf]; omega)
                  | trace_state
            · by_cases t2 : hig L i K < L (K * 3 + i)
              · have a1 : lo L i (K + 1) = lo L i K := (lo_step L i K).trans (by omega)
                have a2 : hig L i (K + 1) = L (K * 3 + i) := (hig_step L i K).trans (by omega)
                go_wp2_with fail
                go_quiet (fail)
                go_wp2
                go_quiet (fail)
                go_wp2
                try go_roundw
                all_goals first
                  | (exact ⟨i + 1, by omega, rfl, (((HM2.out.draws _).keepg a1).draws _).steph hi a2⟩)
                  | (exact ⟨i + 1, by omega, rfl, ((HM2.out.draws _).keepg a1).steph hi a2⟩)
                  | (exact ⟨⟨i + 1, by omega, rfl, (((HM2.out.draws _).keepg a1).draws _).steph hi a2⟩, by simp [intOf]; omega⟩)
                  | (simp [intOf]; omega)
                  | trace_state
              · have a1 : lo L i (K + 1) = lo L i K := (lo_step L i K).trans (by omega)
                have a2 : hig L i (K + 1) = hig L i K := (hig_step L i K).trans (by omega)
                go_wp2_with fail
                go_quiet (fail)
                go_wp2
                go_quiet (fail)
                go_wp2
                try go_roundw
                all_goals first
                  | (exact ⟨i + 1, by omega, rfl, (((HM2.out.draws _).keepg a1).draws _).keeph a2⟩)
                  | (exact ⟨i + 1, by omega, rfl, ((HM2.out.draws _).keepg a1).keeph a2⟩)
                  | (exact ⟨⟨i + 1, by omega, rfl, (((HM2.out.draws _).keepg a1).draws _).keeph a2⟩, by simp [intOf]; omega⟩)
                  | (simp [intOf]; omega)
                  | trace_state
          · have e3 : i = 3 := by omega
            subst e3
            have n0 : ¬ (((3 : Nat) : Int) < 3) := by omega
            go_wp2_with fail
            go_roundw
            case rel => exact ⟨K + 1, by omega, by omega, rfl, hm2.congr (fun j hj => by simp only [if_pos hj]) (fun j hj => by simp only [if_pos hj])⟩
            case measure => simp [intOf]; omega
      · have eK : K = n := by omega
        subst eK
        have m := HM1.out
        have a0 := m.2.2.2.1 0 (by omega)
        have a1 := m.2.2.2.1 1 (by omega)
        have a2 := m.2.2.2.1 2 (by omega)
        have b0 := m.2.2.2.2.1 0 (by omega)
        have b1 := m.2.2.2.2.1 1 (by omega)
        have b2 := m.2.2.2.2.1 2 (by omega)
        have z0 := m.2.2.2.2.2.2.2.1 0 (by omega)
        have z1 := m.2.2.2.2.2.2.2.1 1 (by omega)
        have z2 := m.2.2.2.2.2.2.2.1 2 (by omega)
        have y0 := m.2.2.2.2.2.2.2.2.1 0 (by omega)
        have y1 := m.2.2.2.2.2.2.2.2.1 1 (by omega)
        have y2 := m.2.2.2.2.2.2.2.2.1 2 (by omega)
        have zf := m.2.2.2.2.2.2.2.2.2.1
        have yf := m.2.2.2.2.2.2.2.2.2.2.1
        have n1 : w.heap.size ≠ g := by have := m.1; omega
        have n2 : w.heap.size ≠ h := by have := m.2.1; omega
        have n3 : w.heap.size + 1 ≠ g := by have := m.1; omega
        have n4 : w.heap.size + 1 ≠ h := by have := m.2.1; omega
        have n1' := Ne.symm n1
        have n2' := Ne.symm n2
        have n3' := Ne.symm n3
        have n4' := Ne.symm n4
        have n5 : w.heap.size ≠ w.heap.size + 1 := by omega
        have n5' := Ne.symm n5
        have hbe := m.2.2.2.2.2.2.2.2.2.2.2
        clear m
        go_wp2_with fail
        go_region
        all_goals go_wp2_with fail
        all_goals
          have hw := below_put3 (below_put3 hbe (k := w.heap.size) (by omega) (.int .i64 (lo L 0 K)) (.int .i64 (lo L 1 K)) (.int .i64 (lo L 2 K))) (k := w.heap.size + 1) (by omega) (.int .i64 (hig L 0 K)) (.int .i64 (hig L 1 K)) (.int .i64 (hig L 2 K))
          exact bodyPost_ret (v := .tuple #[V3 (lo L 0 K) (lo L 1 K) (lo L 2 K), V3 (hig L 0 K) (hig L 1 K) (hig L 2 K)]) (by simp [results, Try.results52, go_sem, z0, z1, z2, y0, y1, y2]) rfl ⟨rfl, hw.drew⟩

end Go.Proofs.Ytoppcnkfgmbpfaa.Ve
