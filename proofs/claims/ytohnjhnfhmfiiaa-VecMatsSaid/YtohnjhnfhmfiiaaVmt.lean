/- The contract of one matrix behind another one. -/
import Derived.Test.YtohnjhnfhmfiiaaVmc
namespace Go.Proofs.Ytohnjhnfhmfiiaa.Ve
open Go.RowKit Go.Proofs.Ytohnjhnfhmfiiaa Go.Proofs.Ytohnjhnfhmfiiaa.Wa

theorem timesN_0 (m n : Nat → Int) : (dirN m (n 0) (n 1) (n 2) 0) = timesN m n 0 := by simp [timesN]

theorem timesN_1 (m n : Nat → Int) : (dirN m (n 0) (n 1) (n 2) 1) = timesN m n 1 := by simp [timesN]

theorem timesN_2 (m n : Nat → Int) : (dirN m (n 0) (n 1) (n 2) 2) = timesN m n 2 := by simp [timesN]

theorem timesN_3 (m n : Nat → Int) : (dirN m (n 3) (n 4) (n 5) 0) = timesN m n 3 := by simp [timesN]

theorem timesN_4 (m n : Nat → Int) : (dirN m (n 3) (n 4) (n 5) 1) = timesN m n 4 := by simp [timesN]

theorem timesN_5 (m n : Nat → Int) : (dirN m (n 3) (n 4) (n 5) 2) = timesN m n 5 := by simp [timesN]

theorem timesN_6 (m n : Nat → Int) : (dirN m (n 6) (n 7) (n 8) 0) = timesN m n 6 := by simp [timesN]

theorem timesN_7 (m n : Nat → Int) : (dirN m (n 6) (n 7) (n 8) 1) = timesN m n 7 := by simp [timesN]

theorem timesN_8 (m n : Nat → Int) : (dirN m (n 6) (n 7) (n 8) 2) = timesN m n 8 := by simp [timesN]

theorem timesN_9 (m n : Nat → Int) : (pointN m (n 9) (n 10) (n 11) 0) = timesN m n 9 := by simp [timesN]

theorem timesN_10 (m n : Nat → Int) : (pointN m (n 9) (n 10) (n 11) 1) = timesN m n 10 := by simp [timesN]

theorem timesN_11 (m n : Nat → Int) : (pointN m (n 9) (n 10) (n 11) 2) = timesN m n 11 := by simp [timesN]

set_option maxHeartbeats 4000000 in
set_option maxRecDepth 100000 in
theorem times_any (m n : Nat → Int) (w : World) :
    Calls Try.prog 23 #[MV m, MV n] w fun e w' => e = .returned (MV (timesN m n)) ∧ Below w.heap.size w w' := by
  have n_hm_ho : w.heap.size ≠ (w.heap.size + 2) := by omega
  have n_hn_ho : (w.heap.size + 1) ≠ (w.heap.size + 2) := by omega
  go_enter Try.func23, Try.ntmps23
  go_wp2_with fail
  obtain ⟨wq, hwq⟩ : ∃ wq, wq = (((w.alloc (.cells #[.int .i64 (m 0), .int .i64 (m 1), .int .i64 (m 2), .int .i64 (m 3), .int .i64 (m 4), .int .i64 (m 5), .int .i64 (m 6), .int .i64 (m 7), .int .i64 (m 8), .int .i64 (m 9), .int .i64 (m 10), .int .i64 (m 11)] 31)).alloc (.cells #[.int .i64 (n 0), .int .i64 (n 1), .int .i64 (n 2), .int .i64 (n 3), .int .i64 (n 4), .int .i64 (n 5), .int .i64 (n 6), .int .i64 (n 7), .int .i64 (n 8), .int .i64 (n 9), .int .i64 (n 10), .int .i64 (n 11)] 31)).alloc (.cells #[.int .i64 0, .int .i64 0, .int .i64 0, .int .i64 0, .int .i64 0, .int .i64 0, .int .i64 0, .int .i64 0, .int .i64 0, .int .i64 0, .int .i64 0, .int .i64 0] 31)) := ⟨_, rfl⟩
  rw [← hwq]
  have hm : Bk w.heap.size 12 m wq.drew := by subst hwq; exact (((new12 _ w.heap.size (by simp) m _).on (below_n2 _ _ _))).on (Below.refl _ _).drew
  have hn : Bk (w.heap.size + 1) 12 n wq.drew := by subst hwq; exact (((new12 _ (w.heap.size + 1) (by simp) n _).on (below_n1 _ _))).on (Below.refl _ _).drew
  have ho : Bk (w.heap.size + 2) 12 ((fun _ => 0)) wq.drew := by subst hwq; exact ((new12 _ (w.heap.size + 2) (by simp) ((fun _ => 0)) _)).on (Below.refl _ _).drew
  have hbk : Below w.heap.size w wq.drew := by subst hwq; exact (below_n3 w _ _ _).drew
  clear hwq
  go_region_held3 (fun w' => (w'.cell? ⟨w.heap.size, 0, none⟩ = some (.int .i64 (m 0)) ∧ w'.cell? ⟨w.heap.size, 1, none⟩ = some (.int .i64 (m 1)) ∧ w'.cell? ⟨w.heap.size, 2, none⟩ = some (.int .i64 (m 2)) ∧ w'.cell? ⟨w.heap.size, 3, none⟩ = some (.int .i64 (m 3)) ∧ w'.cell? ⟨w.heap.size, 4, none⟩ = some (.int .i64 (m 4)) ∧ w'.cell? ⟨w.heap.size, 5, none⟩ = some (.int .i64 (m 5)) ∧ w'.cell? ⟨w.heap.size, 6, none⟩ = some (.int .i64 (m 6)) ∧ w'.cell? ⟨w.heap.size, 7, none⟩ = some (.int .i64 (m 7)) ∧ w'.cell? ⟨w.heap.size, 8, none⟩ = some (.int .i64 (m 8)) ∧ w'.cell? ⟨w.heap.size, 9, none⟩ = some (.int .i64 (m 9)) ∧ w'.cell? ⟨w.heap.size, 10, none⟩ = some (.int .i64 (m 10)) ∧ w'.cell? ⟨w.heap.size, 11, none⟩ = some (.int .i64 (m 11))) ∧ (w'.cell? ⟨(w.heap.size + 1), 0, none⟩ = some (.int .i64 (n 0)) ∧ w'.cell? ⟨(w.heap.size + 1), 1, none⟩ = some (.int .i64 (n 1)) ∧ w'.cell? ⟨(w.heap.size + 1), 2, none⟩ = some (.int .i64 (n 2)) ∧ w'.cell? ⟨(w.heap.size + 1), 3, none⟩ = some (.int .i64 (n 3)) ∧ w'.cell? ⟨(w.heap.size + 1), 4, none⟩ = some (.int .i64 (n 4)) ∧ w'.cell? ⟨(w.heap.size + 1), 5, none⟩ = some (.int .i64 (n 5)) ∧ w'.cell? ⟨(w.heap.size + 1), 6, none⟩ = some (.int .i64 (n 6)) ∧ w'.cell? ⟨(w.heap.size + 1), 7, none⟩ = some (.int .i64 (n 7)) ∧ w'.cell? ⟨(w.heap.size + 1), 8, none⟩ = some (.int .i64 (n 8)) ∧ w'.cell? ⟨(w.heap.size + 1), 9, none⟩ = some (.int .i64 (n 9)) ∧ w'.cell? ⟨(w.heap.size + 1), 10, none⟩ = some (.int .i64 (n 10)) ∧ w'.cell? ⟨(w.heap.size + 1), 11, none⟩ = some (.int .i64 (n 11)))) (first | (with_reducible exact ⟨hm.c12, hn.c12⟩) | (with_reducible exact ⟨(hm.far12 n_hm_ho _ _ _ _ _ _ _ _ _ _ _ _).c12, (hn.far12 n_hn_ho _ _ _ _ _ _ _ _ _ _ _ _).c12⟩)) (first | (go_at_call 17; refine (dir_any m _ _ _ _).mono ?_; rintro e w9 ⟨rfl, hbn⟩; have hbm := hbn; replace hbk := hbk.trans (hbm.mono hbk.size); replace hm := hm.on hbm; replace hn := hn.on hbm; replace ho := ho.on hbm) | (go_at_call 20; refine (point_any m _ _ _ _).mono ?_; rintro e w9 ⟨rfl, hbn⟩; have hbm := hbn; replace hbk := hbk.trans (hbm.mono hbk.size); replace hm := hm.on hbm; replace hn := hn.on hbm; replace ho := ho.on hbm; obtain ⟨-, -, of⟩ := id ho; obtain ⟨o0, o1, o2, o3, o4, o5, o6, o7, o8, o9, o10, o11⟩ := ho.c12))
  have hz : Bk (w.heap.size + 2) 12 (timesN m n) ((((((((((((w9.setCell ⟨(w.heap.size + 2), 0, none⟩ (.int .i64 (dirN m (n 0) (n 1) (n 2) 0))).setCell ⟨(w.heap.size + 2), 1, none⟩ (.int .i64 (dirN m (n 0) (n 1) (n 2) 1))).setCell ⟨(w.heap.size + 2), 2, none⟩ (.int .i64 (dirN m (n 0) (n 1) (n 2) 2))).setCell ⟨(w.heap.size + 2), 3, none⟩ (.int .i64 (dirN m (n 3) (n 4) (n 5) 0))).setCell ⟨(w.heap.size + 2), 4, none⟩ (.int .i64 (dirN m (n 3) (n 4) (n 5) 1))).setCell ⟨(w.heap.size + 2), 5, none⟩ (.int .i64 (dirN m (n 3) (n 4) (n 5) 2))).setCell ⟨(w.heap.size + 2), 6, none⟩ (.int .i64 (dirN m (n 6) (n 7) (n 8) 0))).setCell ⟨(w.heap.size + 2), 7, none⟩ (.int .i64 (dirN m (n 6) (n 7) (n 8) 1))).setCell ⟨(w.heap.size + 2), 8, none⟩ (.int .i64 (dirN m (n 6) (n 7) (n 8) 2))).setCell ⟨(w.heap.size + 2), 9, none⟩ (.int .i64 (pointN m (n 9) (n 10) (n 11) 0))).setCell ⟨(w.heap.size + 2), 10, none⟩ (.int .i64 (pointN m (n 9) (n 10) (n 11) 1))).setCell ⟨(w.heap.size + 2), 11, none⟩ (.int .i64 (pointN m (n 9) (n 10) (n 11) 2))) := ho.put12v (timesN m n) (timesN_0 m n) (timesN_1 m n) (timesN_2 m n) (timesN_3 m n) (timesN_4 m n) (timesN_5 m n) (timesN_6 m n) (timesN_7 m n) (timesN_8 m n) (timesN_9 m n) (timesN_10 m n) (timesN_11 m n)
  have hbz : Below w.heap.size w ((((((((((((w9.setCell ⟨(w.heap.size + 2), 0, none⟩ (.int .i64 (dirN m (n 0) (n 1) (n 2) 0))).setCell ⟨(w.heap.size + 2), 1, none⟩ (.int .i64 (dirN m (n 0) (n 1) (n 2) 1))).setCell ⟨(w.heap.size + 2), 2, none⟩ (.int .i64 (dirN m (n 0) (n 1) (n 2) 2))).setCell ⟨(w.heap.size + 2), 3, none⟩ (.int .i64 (dirN m (n 3) (n 4) (n 5) 0))).setCell ⟨(w.heap.size + 2), 4, none⟩ (.int .i64 (dirN m (n 3) (n 4) (n 5) 1))).setCell ⟨(w.heap.size + 2), 5, none⟩ (.int .i64 (dirN m (n 3) (n 4) (n 5) 2))).setCell ⟨(w.heap.size + 2), 6, none⟩ (.int .i64 (dirN m (n 6) (n 7) (n 8) 0))).setCell ⟨(w.heap.size + 2), 7, none⟩ (.int .i64 (dirN m (n 6) (n 7) (n 8) 1))).setCell ⟨(w.heap.size + 2), 8, none⟩ (.int .i64 (dirN m (n 6) (n 7) (n 8) 2))).setCell ⟨(w.heap.size + 2), 9, none⟩ (.int .i64 (pointN m (n 9) (n 10) (n 11) 0))).setCell ⟨(w.heap.size + 2), 10, none⟩ (.int .i64 (pointN m (n 9) (n 10) (n 11) 1))).setCell ⟨(w.heap.size + 2), 11, none⟩ (.int .i64 (pointN m (n 9) (n 10) (n 11) 2))) := below_set12 hbk (by omega) _ _ _ _ _ _ _ _ _ _ _ _
  obtain ⟨wz, hwz⟩ : ∃ wz, wz = ((((((((((((w9.setCell ⟨(w.heap.size + 2), 0, none⟩ (.int .i64 (dirN m (n 0) (n 1) (n 2) 0))).setCell ⟨(w.heap.size + 2), 1, none⟩ (.int .i64 (dirN m (n 0) (n 1) (n 2) 1))).setCell ⟨(w.heap.size + 2), 2, none⟩ (.int .i64 (dirN m (n 0) (n 1) (n 2) 2))).setCell ⟨(w.heap.size + 2), 3, none⟩ (.int .i64 (dirN m (n 3) (n 4) (n 5) 0))).setCell ⟨(w.heap.size + 2), 4, none⟩ (.int .i64 (dirN m (n 3) (n 4) (n 5) 1))).setCell ⟨(w.heap.size + 2), 5, none⟩ (.int .i64 (dirN m (n 3) (n 4) (n 5) 2))).setCell ⟨(w.heap.size + 2), 6, none⟩ (.int .i64 (dirN m (n 6) (n 7) (n 8) 0))).setCell ⟨(w.heap.size + 2), 7, none⟩ (.int .i64 (dirN m (n 6) (n 7) (n 8) 1))).setCell ⟨(w.heap.size + 2), 8, none⟩ (.int .i64 (dirN m (n 6) (n 7) (n 8) 2))).setCell ⟨(w.heap.size + 2), 9, none⟩ (.int .i64 (pointN m (n 9) (n 10) (n 11) 0))).setCell ⟨(w.heap.size + 2), 10, none⟩ (.int .i64 (pointN m (n 9) (n 10) (n 11) 1))).setCell ⟨(w.heap.size + 2), 11, none⟩ (.int .i64 (pointN m (n 9) (n 10) (n 11) 2))) := ⟨_, rfl⟩
  rw [← hwz] at hz hbz ⊢
  obtain ⟨z0, z1, z2, z3, z4, z5, z6, z7, z8, z9, z10, z11⟩ := hz.c12
  clear hwz
  go_wp2
  exact bodyPost_ret (v := MV (timesN m n)) (by simp [results, Try.results23, go_sem, z0, z1, z2, z3, z4, z5, z6, z7, z8, z9, z10, z11]) rfl ⟨rfl, hbz⟩


end Go.Proofs.Ytohnjhnfhmfiiaa.Ve
