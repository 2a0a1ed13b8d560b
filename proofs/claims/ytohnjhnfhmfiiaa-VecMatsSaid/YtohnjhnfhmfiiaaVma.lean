/- The contracts of the laws' own ways between the document's matrices and the program's. -/
import Derived.Test.YtohnjhnfhmfiiaaVm
namespace Go.Proofs.Ytohnjhnfhmfiiaa.Ve
open Go.RowKit Go.Proofs.Ytohnjhnfhmfiiaa Go.Proofs.Ytohnjhnfhmfiiaa.Wa

set_option maxHeartbeats 1000000 in
set_option maxRecDepth 100000 in
theorem tomat_any (m : Nat → Int) (w : World) :
    Calls Try.prog 14 #[MV m] w fun e w' => e = .returned (MV m) ∧ Below w.heap.size w w' := by
  have hne : w.heap.size ≠ w.heap.size + 1 := by omega
  go_enter Try.func14, Try.ntmps14
  go_wp2_with fail
  obtain ⟨wq, hwq⟩ : ∃ wq, wq = ((w.alloc (.cells #[.int .i64 (m 0), .int .i64 (m 1), .int .i64 (m 2), .int .i64 (m 3), .int .i64 (m 4), .int .i64 (m 5), .int .i64 (m 6), .int .i64 (m 7), .int .i64 (m 8), .int .i64 (m 9), .int .i64 (m 10), .int .i64 (m 11)] 26)).alloc (.cells #[.int .i64 0, .int .i64 0, .int .i64 0, .int .i64 0, .int .i64 0, .int .i64 0, .int .i64 0, .int .i64 0, .int .i64 0, .int .i64 0, .int .i64 0, .int .i64 0] 31)) := ⟨_, rfl⟩
  rw [← hwq]
  have hm : Bk w.heap.size 12 m wq.drew := by subst hwq; exact ((new12 w w.heap.size rfl m _).on (below_n1 _ _)).on (Below.refl _ _).drew
  have ho : Bk (w.heap.size + 1) 12 (fun _ => 0) wq.drew := by subst hwq; exact (new12 _ (w.heap.size + 1) (by simp) (fun _ => 0) _).on (Below.refl _ _).drew
  have hbk : Below w.heap.size w wq.drew := by subst hwq; exact (below_n2 w _ _).drew
  clear hwq
  go_region_held3 (fun w' => w'.cell? ⟨w.heap.size, 0, none⟩ = some (.int .i64 (m 0)) ∧ w'.cell? ⟨w.heap.size, 1, none⟩ = some (.int .i64 (m 1)) ∧ w'.cell? ⟨w.heap.size, 2, none⟩ = some (.int .i64 (m 2)) ∧ w'.cell? ⟨w.heap.size, 3, none⟩ = some (.int .i64 (m 3)) ∧ w'.cell? ⟨w.heap.size, 4, none⟩ = some (.int .i64 (m 4)) ∧ w'.cell? ⟨w.heap.size, 5, none⟩ = some (.int .i64 (m 5)) ∧ w'.cell? ⟨w.heap.size, 6, none⟩ = some (.int .i64 (m 6)) ∧ w'.cell? ⟨w.heap.size, 7, none⟩ = some (.int .i64 (m 7)) ∧ w'.cell? ⟨w.heap.size, 8, none⟩ = some (.int .i64 (m 8)) ∧ w'.cell? ⟨w.heap.size, 9, none⟩ = some (.int .i64 (m 9)) ∧ w'.cell? ⟨w.heap.size, 10, none⟩ = some (.int .i64 (m 10)) ∧ w'.cell? ⟨w.heap.size, 11, none⟩ = some (.int .i64 (m 11))) (first | (with_reducible exact hm.c12) | (with_reducible exact (hm.far12 hne _ _ _ _ _ _ _ _ _ _ _ _).c12) | trace_state) (first | (go_at_call 18; refine (to_any _ _ _ _).mono ?_; rintro e w9 ⟨rfl, hbn⟩; have hbm := hbn; replace hbk := hbk.trans (hbm.mono hbk.size); replace hm := hm.on hbm; replace ho := ho.on hbm; obtain ⟨-, -, of⟩ := id ho; obtain ⟨o0, o1, o2, o3, o4, o5, o6, o7, o8, o9, o10, o11⟩ := ho.c12))
  have hz := ho.put12 (m)
  have hbz : Below w.heap.size w ((((((((((((w9.setCell ⟨(w.heap.size + 1), 0, none⟩ (.int .i64 (m 0))).setCell ⟨(w.heap.size + 1), 1, none⟩ (.int .i64 (m 1))).setCell ⟨(w.heap.size + 1), 2, none⟩ (.int .i64 (m 2))).setCell ⟨(w.heap.size + 1), 3, none⟩ (.int .i64 (m 3))).setCell ⟨(w.heap.size + 1), 4, none⟩ (.int .i64 (m 4))).setCell ⟨(w.heap.size + 1), 5, none⟩ (.int .i64 (m 5))).setCell ⟨(w.heap.size + 1), 6, none⟩ (.int .i64 (m 6))).setCell ⟨(w.heap.size + 1), 7, none⟩ (.int .i64 (m 7))).setCell ⟨(w.heap.size + 1), 8, none⟩ (.int .i64 (m 8))).setCell ⟨(w.heap.size + 1), 9, none⟩ (.int .i64 (m 9))).setCell ⟨(w.heap.size + 1), 10, none⟩ (.int .i64 (m 10))).setCell ⟨(w.heap.size + 1), 11, none⟩ (.int .i64 (m 11))) := below_set12 hbk (by omega) _ _ _ _ _ _ _ _ _ _ _ _
  obtain ⟨wz, hwz⟩ : ∃ wz, wz = ((((((((((((w9.setCell ⟨(w.heap.size + 1), 0, none⟩ (.int .i64 (m 0))).setCell ⟨(w.heap.size + 1), 1, none⟩ (.int .i64 (m 1))).setCell ⟨(w.heap.size + 1), 2, none⟩ (.int .i64 (m 2))).setCell ⟨(w.heap.size + 1), 3, none⟩ (.int .i64 (m 3))).setCell ⟨(w.heap.size + 1), 4, none⟩ (.int .i64 (m 4))).setCell ⟨(w.heap.size + 1), 5, none⟩ (.int .i64 (m 5))).setCell ⟨(w.heap.size + 1), 6, none⟩ (.int .i64 (m 6))).setCell ⟨(w.heap.size + 1), 7, none⟩ (.int .i64 (m 7))).setCell ⟨(w.heap.size + 1), 8, none⟩ (.int .i64 (m 8))).setCell ⟨(w.heap.size + 1), 9, none⟩ (.int .i64 (m 9))).setCell ⟨(w.heap.size + 1), 10, none⟩ (.int .i64 (m 10))).setCell ⟨(w.heap.size + 1), 11, none⟩ (.int .i64 (m 11))) := ⟨_, rfl⟩
  rw [← hwz] at hz hbz ⊢
  obtain ⟨z0, z1, z2, z3, z4, z5, z6, z7, z8, z9, z10, z11⟩ := hz.c12
  clear hwz hm ho
  go_wp2
  exact bodyPost_ret (v := MV (m)) (by simp [results, Try.results14, go_sem, z0, z1, z2, z3, z4, z5, z6, z7, z8, z9, z10, z11]) rfl ⟨rfl, hbz⟩

set_option maxHeartbeats 1000000 in
set_option maxRecDepth 100000 in
theorem frommat_any (m : Nat → Int) (w : World) :
    Calls Try.prog 22 #[MV m] w fun e w' => e = .returned (MV m) ∧ Below w.heap.size w w' := by
  have hne : w.heap.size ≠ w.heap.size + 1 := by omega
  go_enter Try.func22, Try.ntmps22
  go_wp2_with fail
  obtain ⟨wq, hwq⟩ : ∃ wq, wq = ((w.alloc (.cells #[.int .i64 (m 0), .int .i64 (m 1), .int .i64 (m 2), .int .i64 (m 3), .int .i64 (m 4), .int .i64 (m 5), .int .i64 (m 6), .int .i64 (m 7), .int .i64 (m 8), .int .i64 (m 9), .int .i64 (m 10), .int .i64 (m 11)] 31)).alloc (.cells #[.int .i64 0, .int .i64 0, .int .i64 0, .int .i64 0, .int .i64 0, .int .i64 0, .int .i64 0, .int .i64 0, .int .i64 0, .int .i64 0, .int .i64 0, .int .i64 0] 26)) := ⟨_, rfl⟩
  rw [← hwq]
  have hm : Bk w.heap.size 12 m wq.drew := by subst hwq; exact ((new12 w w.heap.size rfl m _).on (below_n1 _ _)).on (Below.refl _ _).drew
  have ho : Bk (w.heap.size + 1) 12 (fun _ => 0) wq.drew := by subst hwq; exact (new12 _ (w.heap.size + 1) (by simp) (fun _ => 0) _).on (Below.refl _ _).drew
  have hbk : Below w.heap.size w wq.drew := by subst hwq; exact (below_n2 w _ _).drew
  clear hwq
  go_region_held3 (fun w' => w'.cell? ⟨w.heap.size, 0, none⟩ = some (.int .i64 (m 0)) ∧ w'.cell? ⟨w.heap.size, 1, none⟩ = some (.int .i64 (m 1)) ∧ w'.cell? ⟨w.heap.size, 2, none⟩ = some (.int .i64 (m 2)) ∧ w'.cell? ⟨w.heap.size, 3, none⟩ = some (.int .i64 (m 3)) ∧ w'.cell? ⟨w.heap.size, 4, none⟩ = some (.int .i64 (m 4)) ∧ w'.cell? ⟨w.heap.size, 5, none⟩ = some (.int .i64 (m 5)) ∧ w'.cell? ⟨w.heap.size, 6, none⟩ = some (.int .i64 (m 6)) ∧ w'.cell? ⟨w.heap.size, 7, none⟩ = some (.int .i64 (m 7)) ∧ w'.cell? ⟨w.heap.size, 8, none⟩ = some (.int .i64 (m 8)) ∧ w'.cell? ⟨w.heap.size, 9, none⟩ = some (.int .i64 (m 9)) ∧ w'.cell? ⟨w.heap.size, 10, none⟩ = some (.int .i64 (m 10)) ∧ w'.cell? ⟨w.heap.size, 11, none⟩ = some (.int .i64 (m 11))) (first | (with_reducible exact hm.c12) | (with_reducible exact (hm.far12 hne _ _ _ _ _ _ _ _ _ _ _ _).c12) | trace_state) (first | (go_at_call 16; refine (from_any _ _ _ _).mono ?_; rintro e w9 ⟨rfl, hbn⟩; have hbm := hbn; replace hbk := hbk.trans (hbm.mono hbk.size); replace hm := hm.on hbm; replace ho := ho.on hbm; obtain ⟨-, -, of⟩ := id ho; obtain ⟨o0, o1, o2, o3, o4, o5, o6, o7, o8, o9, o10, o11⟩ := ho.c12))
  have hz := ho.put12 (m)
  have hbz : Below w.heap.size w ((((((((((((w9.setCell ⟨(w.heap.size + 1), 0, none⟩ (.int .i64 (m 0))).setCell ⟨(w.heap.size + 1), 1, none⟩ (.int .i64 (m 1))).setCell ⟨(w.heap.size + 1), 2, none⟩ (.int .i64 (m 2))).setCell ⟨(w.heap.size + 1), 3, none⟩ (.int .i64 (m 3))).setCell ⟨(w.heap.size + 1), 4, none⟩ (.int .i64 (m 4))).setCell ⟨(w.heap.size + 1), 5, none⟩ (.int .i64 (m 5))).setCell ⟨(w.heap.size + 1), 6, none⟩ (.int .i64 (m 6))).setCell ⟨(w.heap.size + 1), 7, none⟩ (.int .i64 (m 7))).setCell ⟨(w.heap.size + 1), 8, none⟩ (.int .i64 (m 8))).setCell ⟨(w.heap.size + 1), 9, none⟩ (.int .i64 (m 9))).setCell ⟨(w.heap.size + 1), 10, none⟩ (.int .i64 (m 10))).setCell ⟨(w.heap.size + 1), 11, none⟩ (.int .i64 (m 11))) := below_set12 hbk (by omega) _ _ _ _ _ _ _ _ _ _ _ _
  obtain ⟨wz, hwz⟩ : ∃ wz, wz = ((((((((((((w9.setCell ⟨(w.heap.size + 1), 0, none⟩ (.int .i64 (m 0))).setCell ⟨(w.heap.size + 1), 1, none⟩ (.int .i64 (m 1))).setCell ⟨(w.heap.size + 1), 2, none⟩ (.int .i64 (m 2))).setCell ⟨(w.heap.size + 1), 3, none⟩ (.int .i64 (m 3))).setCell ⟨(w.heap.size + 1), 4, none⟩ (.int .i64 (m 4))).setCell ⟨(w.heap.size + 1), 5, none⟩ (.int .i64 (m 5))).setCell ⟨(w.heap.size + 1), 6, none⟩ (.int .i64 (m 6))).setCell ⟨(w.heap.size + 1), 7, none⟩ (.int .i64 (m 7))).setCell ⟨(w.heap.size + 1), 8, none⟩ (.int .i64 (m 8))).setCell ⟨(w.heap.size + 1), 9, none⟩ (.int .i64 (m 9))).setCell ⟨(w.heap.size + 1), 10, none⟩ (.int .i64 (m 10))).setCell ⟨(w.heap.size + 1), 11, none⟩ (.int .i64 (m 11))) := ⟨_, rfl⟩
  rw [← hwz] at hz hbz ⊢
  obtain ⟨z0, z1, z2, z3, z4, z5, z6, z7, z8, z9, z10, z11⟩ := hz.c12
  clear hwz hm ho
  go_wp2
  exact bodyPost_ret (v := MV (m)) (by simp [results, Try.results22, go_sem, z0, z1, z2, z3, z4, z5, z6, z7, z8, z9, z10, z11]) rfl ⟨rfl, hbz⟩

end Go.Proofs.Ytohnjhnfhmfiiaa.Ve
