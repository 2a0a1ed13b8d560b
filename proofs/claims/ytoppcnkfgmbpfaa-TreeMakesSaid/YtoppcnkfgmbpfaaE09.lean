/- The least and the greatest of some points, whose row begins anywhere in a block. -/
import Derived.Test.YtoppcnkfgmbpfaaE08
namespace Go.Proofs.Ytoppcnkfgmbpfaa.Ve
open Go.RowKit Go.Proofs.Ytoppcnkfgmbpfaa Go.Proofs.Ytoppcnkfgmbpfaa.Wa

/-- a row of points, from a place in a block on -/
def PtsO (w : World) (g o n : Nat) (lx ly lz : Nat → Int) : Prop :=
  g < w.heap.size ∧ ∀ j, j < n → w.cell? ⟨g, o + j * 3, none⟩ = some (.int .i64 (lx j)) ∧ w.cell? ⟨g, o + j * 3 + 1, none⟩ = some (.int .i64 (ly j)) ∧ w.cell? ⟨g, o + j * 3 + 2, none⟩ = some (.int .i64 (lz j))

theorem PtsO.on {w w' : World} {g o n : Nat} {lx ly lz : Nat → Int} (h : PtsO w g o n lx ly lz) (hb : Below w.heap.size w w') : PtsO w' g o n lx ly lz :=
  ⟨Nat.lt_of_lt_of_le h.1 hb.size, fun j hj => ⟨(hb.cell (p := ⟨g, o + j * 3, none⟩) h.1).trans (h.2 j hj).1, (hb.cell (p := ⟨g, o + j * 3 + 1, none⟩) h.1).trans (h.2 j hj).2.1, (hb.cell (p := ⟨g, o + j * 3 + 2, none⟩) h.1).trans (h.2 j hj).2.2⟩⟩

/-- a slice of points: none, or a part of a row whose cells are known -/
def PtsU (w : World) (v : Value) (n : Nat) (lx ly lz : Nat → Int) : Prop :=
  (v = .slice none 0 0 ∧ n = 0) ∨ ∃ g o cap, v = .slice (some ⟨g, o, none⟩) n cap ∧ PtsO w g o n lx ly lz

theorem PtsU.on {w w' : World} {v : Value} {n : Nat} {lx ly lz : Nat → Int} (h : PtsU w v n lx ly lz) (hb : Below w.heap.size w w') : PtsU w' v n lx ly lz := by
  rcases h with h | ⟨g, o, cap, hv, hp⟩
  · exact .inl h
  · exact .inr ⟨g, o, cap, hv, hp.on hb⟩

set_option maxHeartbeats 2000000 in
set_option maxRecDepth 100000 in
theorem fold_least_o (ax ay az : Int) (g o n cap : Nat) (lx ly lz : Nat → Int) (hn : n ≤ 4611686018427387904) (w : World) (hp : PtsO w g o n lx ly lz) :
    Calls Try.prog 70 #[V3 ax ay az, .slice (some ⟨g, o, none⟩) n cap, .func (.func 71) #[] #[]] w fun e w' => e = .returned (V3 (foldN min ax lx n) (foldN min ay ly n) (foldN min az lz n)) ∧ Below w.heap.size w w' := by
  have HP := Lib.hid hp
  clear hp
  go_enter Try.func70, Try.ntmps70
  go_wp2
  go_loopw [11] (fun i wr => ∃ k : Nat, k ≤ n ∧ i = .int .i64 k ∧ wr.cell? ⟨w.heap.size, 0, none⟩ = some (.int .i64 (foldN min ax lx k)) ∧ wr.cell? ⟨w.heap.size, 1, none⟩ = some (.int .i64 (foldN min ay ly k)) ∧ wr.cell? ⟨w.heap.size, 2, none⟩ = some (.int .i64 (foldN min az lz k)) ∧ (∀ j, wr.frozen? ⟨w.heap.size, j, none⟩ = false) ∧ (∀ j, wr.frozen? ⟨w.heap.size + 1, j, none⟩ = false) ∧ wr.cell? ⟨w.heap.size + 1, 0, none⟩ = some (.int .i64 0) ∧ wr.cell? ⟨w.heap.size + 1, 1, none⟩ = some (.int .i64 0) ∧ wr.cell? ⟨w.heap.size + 1, 2, none⟩ = some (.int .i64 0) ∧ Below w.heap.size w wr) (fun i _ => n - (intOf i).toNat)
  case atStart => exact ⟨0, Nat.zero_le _, rfl, by go_simp; rfl, by go_simp; rfl, by go_simp; rfl, fun j => by go_simp, fun j => by go_simp, by go_simp, by go_simp, by go_simp, below_n2 _ _ _⟩
  case round =>
    obtain ⟨k, hk, rfl, a0, a1, a2, af, bf, b0, b1, b2, hnx⟩ := hrel
    by_cases hlt : k < n
    · obtain ⟨e0, e1, e2⟩ := (HP.out.on hnx).2 k hlt
      have s0 := World.block_lt_of_cell? _ _ a0
      have s1 := World.block_lt_of_cell? _ _ b0
      simp only at s0 s1
      have t0 : w.heap.size < wr.heap.size + 1 := by omega
      have t1 : w.heap.size + 1 < wr.heap.size + 1 := by omega
      go_wp2_with fail
      refine (each_least _ _ _ _ _ _ _).mono ?_
      rintro e w1 ⟨rfl, hb⟩
      obtain ⟨hc, hf⟩ := bcell hb
      have hz := hb.size
      simp at hz
      go_wp2
      go_roundw
      case rel =>
        refine ⟨k + 1, by omega, by go_num, ?_, ?_, ?_, fun j => ?_, fun j => ?_, ?_, ?_, ?_, below_put3 ((hnx.alloc hnx.size _).trans (hb.mono (by simp; omega))) (Nat.le_refl _) _ _ _⟩
        · go_simp; rfl
        · go_simp; rfl
        · go_simp; rfl
        · go_simp
        · go_simp
        · go_simp
        · go_simp
        · go_simp
      case measure => simp [intOf]; omega
    · obtain rfl : k = n := by omega
      go_wp2
      exact bodyPost_ret (v := V3 (foldN min ax lx k) (foldN min ay ly k) (foldN min az lz k)) (by simp [results, Try.results70, go_sem, b0, b1, b2]) rfl ⟨rfl, below_put3 hnx (by omega) _ _ _⟩

theorem fold_least_u (ax ay az : Int) (v : Value) (n : Nat) (lx ly lz : Nat → Int) (hn : n ≤ 4611686018427387904) (w : World) (hp : PtsU w v n lx ly lz) :
    Calls Try.prog 70 #[V3 ax ay az, v, .func (.func 71) #[] #[]] w fun e w' => e = .returned (V3 (foldN min ax lx n) (foldN min ay ly n) (foldN min az lz n)) ∧ Below w.heap.size w w' := by
  rcases hp with ⟨rfl, rfl⟩ | ⟨g, o, cap, rfl, hp⟩
  · exact fold_least_none ax ay az w
  · exact fold_least_o ax ay az g o n cap lx ly lz hn w hp


set_option maxHeartbeats 2000000 in
set_option maxRecDepth 100000 in
theorem fold_greatest_o (ax ay az : Int) (g o n cap : Nat) (lx ly lz : Nat → Int) (hn : n ≤ 4611686018427387904) (w : World) (hp : PtsO w g o n lx ly lz) :
    Calls Try.prog 70 #[V3 ax ay az, .slice (some ⟨g, o, none⟩) n cap, .func (.func 72) #[] #[]] w fun e w' => e = .returned (V3 (foldN max ax lx n) (foldN max ay ly n) (foldN max az lz n)) ∧ Below w.heap.size w w' := by
  have HP := Lib.hid hp
  clear hp
  go_enter Try.func70, Try.ntmps70
  go_wp2
  go_loopw [11] (fun i wr => ∃ k : Nat, k ≤ n ∧ i = .int .i64 k ∧ wr.cell? ⟨w.heap.size, 0, none⟩ = some (.int .i64 (foldN max ax lx k)) ∧ wr.cell? ⟨w.heap.size, 1, none⟩ = some (.int .i64 (foldN max ay ly k)) ∧ wr.cell? ⟨w.heap.size, 2, none⟩ = some (.int .i64 (foldN max az lz k)) ∧ (∀ j, wr.frozen? ⟨w.heap.size, j, none⟩ = false) ∧ (∀ j, wr.frozen? ⟨w.heap.size + 1, j, none⟩ = false) ∧ wr.cell? ⟨w.heap.size + 1, 0, none⟩ = some (.int .i64 0) ∧ wr.cell? ⟨w.heap.size + 1, 1, none⟩ = some (.int .i64 0) ∧ wr.cell? ⟨w.heap.size + 1, 2, none⟩ = some (.int .i64 0) ∧ Below w.heap.size w wr) (fun i _ => n - (intOf i).toNat)
  case atStart => exact ⟨0, Nat.zero_le _, rfl, by go_simp; rfl, by go_simp; rfl, by go_simp; rfl, fun j => by go_simp, fun j => by go_simp, by go_simp, by go_simp, by go_simp, below_n2 _ _ _⟩
  case round =>
    obtain ⟨k, hk, rfl, a0, a1, a2, af, bf, b0, b1, b2, hnx⟩ := hrel
    by_cases hlt : k < n
    · obtain ⟨e0, e1, e2⟩ := (HP.out.on hnx).2 k hlt
      have s0 := World.block_lt_of_cell? _ _ a0
      have s1 := World.block_lt_of_cell? _ _ b0
      simp only at s0 s1
      have t0 : w.heap.size < wr.heap.size + 1 := by omega
      have t1 : w.heap.size + 1 < wr.heap.size + 1 := by omega
      go_wp2_with fail
      refine (each_greatest _ _ _ _ _ _ _).mono ?_
      rintro e w1 ⟨rfl, hb⟩
      obtain ⟨hc, hf⟩ := bcell hb
      have hz := hb.size
      simp at hz
      go_wp2
      go_roundw
      case rel =>
        refine ⟨k + 1, by omega, by go_num, ?_, ?_, ?_, fun j => ?_, fun j => ?_, ?_, ?_, ?_, below_put3 ((hnx.alloc hnx.size _).trans (hb.mono (by simp; omega))) (Nat.le_refl _) _ _ _⟩
        · go_simp; rfl
        · go_simp; rfl
        · go_simp; rfl
        · go_simp
        · go_simp
        · go_simp
        · go_simp
        · go_simp
      case measure => simp [intOf]; omega
    · obtain rfl : k = n := by omega
      go_wp2
      exact bodyPost_ret (v := V3 (foldN max ax lx k) (foldN max ay ly k) (foldN max az lz k)) (by simp [results, Try.results70, go_sem, b0, b1, b2]) rfl ⟨rfl, below_put3 hnx (by omega) _ _ _⟩

theorem fold_greatest_u (ax ay az : Int) (v : Value) (n : Nat) (lx ly lz : Nat → Int) (hn : n ≤ 4611686018427387904) (w : World) (hp : PtsU w v n lx ly lz) :
    Calls Try.prog 70 #[V3 ax ay az, v, .func (.func 72) #[] #[]] w fun e w' => e = .returned (V3 (foldN max ax lx n) (foldN max ay ly n) (foldN max az lz n)) ∧ Below w.heap.size w w' := by
  rcases hp with ⟨rfl, rfl⟩ | ⟨g, o, cap, rfl, hp⟩
  · exact fold_greatest_none ax ay az w
  · exact fold_greatest_o ax ay az g o n cap lx ly lz hn w hp


theorem least3_u (ax ay az : Int) (v : Value) (n : Nat) (lx ly lz : Nat → Int) (hn : n ≤ 4611686018427387904) (w : World) (hp : PtsU w v n lx ly lz) :
    Calls Try.prog 59 #[V3 ax ay az, v] w fun e w' => e = .returned (V3 (foldN min ax lx n) (foldN min ay ly n) (foldN min az lz n)) ∧ Below w.heap.size w w' := by
  have HP := Lib.hid hp
  clear hp
  go_enter Try.func59, Try.ntmps59
  go_wp2_with fail
  refine (fold_least_u ax ay az v n lx ly lz hn _ (HP.out.on (below_n2 _ _ _))).mono ?_
  rintro e w1 ⟨rfl, hb⟩
  obtain ⟨hc, hf⟩ := bcell hb
  have hz := hb.size
  simp at hz
  go_wp2
  exact bodyPost_ret (v := V3 (foldN min ax lx n) (foldN min ay ly n) (foldN min az lz n)) (by simp [results, Try.results59, go_sem, hc]) rfl ⟨rfl, below_put3 (below_c2 hb) (by omega) _ _ _⟩

theorem greatest3_u (ax ay az : Int) (v : Value) (n : Nat) (lx ly lz : Nat → Int) (hn : n ≤ 4611686018427387904) (w : World) (hp : PtsU w v n lx ly lz) :
    Calls Try.prog 60 #[V3 ax ay az, v] w fun e w' => e = .returned (V3 (foldN max ax lx n) (foldN max ay ly n) (foldN max az lz n)) ∧ Below w.heap.size w w' := by
  have HP := Lib.hid hp
  clear hp
  go_enter Try.func60, Try.ntmps60
  go_wp2_with fail
  refine (fold_greatest_u ax ay az v n lx ly lz hn _ (HP.out.on (below_n2 _ _ _))).mono ?_
  rintro e w1 ⟨rfl, hb⟩
  obtain ⟨hc, hf⟩ := bcell hb
  have hz := hb.size
  simp at hz
  go_wp2
  exact bodyPost_ret (v := V3 (foldN max ax lx n) (foldN max ay ly n) (foldN max az lz n)) (by simp [results, Try.results60, go_sem, hc]) rfl ⟨rfl, below_put3 (below_c2 hb) (by omega) _ _ _⟩


end Go.Proofs.Ytoppcnkfgmbpfaa.Ve
