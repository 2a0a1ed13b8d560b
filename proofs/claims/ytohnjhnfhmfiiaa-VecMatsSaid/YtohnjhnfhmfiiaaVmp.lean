/- The contract of the document's point behind a matrix. -/
import Derived.Test.YtohnjhnfhmfiiaaVmd
import Derived.Test.YtohnjhnfhmfiiaaVr
namespace Go.Proofs.Ytohnjhnfhmfiiaa.Ve
open Go.RowKit Go.Proofs.Ytohnjhnfhmfiiaa Go.Proofs.Ytohnjhnfhmfiiaa.Wa

set_option maxHeartbeats 2000000 in
set_option maxRecDepth 100000 in
theorem rpoint_any (m : Nat → Int) (x y z : Int) (w : World) :
    Calls Try.prog 21 #[MV m, V3 x y z] w fun e w' => e = .returned (V3 (pointN m x y z 0) (pointN m x y z 1) (pointN m x y z 2)) ∧ Below w.heap.size w w' := by
  have n_hm_ho : w.heap.size ≠ (w.heap.size + 2) := by omega
  have n_ha_ho : (w.heap.size + 1) ≠ (w.heap.size + 2) := by omega
  go_enter Try.func21, Try.ntmps21
  go_wp2_with fail
  obtain ⟨wq, hwq⟩ : ∃ wq, wq = (((w.alloc (.cells #[.int .i64 (m 0), .int .i64 (m 1), .int .i64 (m 2), .int .i64 (m 3), .int .i64 (m 4), .int .i64 (m 5), .int .i64 (m 6), .int .i64 (m 7), .int .i64 (m 8), .int .i64 (m 9), .int .i64 (m 10), .int .i64 (m 11)] 26)).alloc (.cells #[.int .i64 x, .int .i64 y, .int .i64 z] 23)).alloc (.cells #[.int .i64 0, .int .i64 0, .int .i64 0] 23)) := ⟨_, rfl⟩
  rw [← hwq]
  have hm : Bk w.heap.size 12 m wq.drew := by subst hwq; exact (((new12 _ w.heap.size (by simp) m _).on (below_n2 _ _ _))).on (Below.refl _ _).drew
  have ha : Bk (w.heap.size + 1) 3 (f3 x y z) wq.drew := by subst hwq; exact (((new3 _ (w.heap.size + 1) (by simp) x y z _).on (below_n1 _ _))).on (Below.refl _ _).drew
  have ho : Bk (w.heap.size + 2) 3 (f3 0 0 0) wq.drew := by subst hwq; exact ((new3 _ (w.heap.size + 2) (by simp) 0 0 0 _)).on (Below.refl _ _).drew
  have hbk : Below w.heap.size w wq.drew := by subst hwq; exact (below_n3 w _ _ _).drew
  clear hwq
  go_region_held3 (fun w' => (w'.cell? ⟨w.heap.size, 0, none⟩ = some (.int .i64 (m 0)) ∧ w'.cell? ⟨w.heap.size, 1, none⟩ = some (.int .i64 (m 1)) ∧ w'.cell? ⟨w.heap.size, 2, none⟩ = some (.int .i64 (m 2)) ∧ w'.cell? ⟨w.heap.size, 3, none⟩ = some (.int .i64 (m 3)) ∧ w'.cell? ⟨w.heap.size, 4, none⟩ = some (.int .i64 (m 4)) ∧ w'.cell? ⟨w.heap.size, 5, none⟩ = some (.int .i64 (m 5)) ∧ w'.cell? ⟨w.heap.size, 6, none⟩ = some (.int .i64 (m 6)) ∧ w'.cell? ⟨w.heap.size, 7, none⟩ = some (.int .i64 (m 7)) ∧ w'.cell? ⟨w.heap.size, 8, none⟩ = some (.int .i64 (m 8)) ∧ w'.cell? ⟨w.heap.size, 9, none⟩ = some (.int .i64 (m 9)) ∧ w'.cell? ⟨w.heap.size, 10, none⟩ = some (.int .i64 (m 10)) ∧ w'.cell? ⟨w.heap.size, 11, none⟩ = some (.int .i64 (m 11))) ∧ (w'.cell? ⟨(w.heap.size + 1), 0, none⟩ = some (.int .i64 x) ∧ w'.cell? ⟨(w.heap.size + 1), 1, none⟩ = some (.int .i64 y) ∧ w'.cell? ⟨(w.heap.size + 1), 2, none⟩ = some (.int .i64 z))) (first | (with_reducible exact ⟨hm.c12, ha.v3⟩) | (with_reducible exact ⟨(hm.far3 n_hm_ho _ _ _).c12, (ha.far3 n_ha_ho _ _ _).v3⟩)) (first | (go_at_call 19; refine (rdir_any m x y z _).mono ?_; rintro e w9 ⟨rfl, hbn⟩; have hbm := hbn; replace hbk := hbk.trans (hbm.mono hbk.size); replace hm := hm.on hbm; replace ha := ha.on hbm; replace ho := ho.on hbm) | (go_at_call 74; refine (radd_any _ _ _ _ _ _ _).mono ?_; rintro e w9 ⟨rfl, hbn⟩; have hbm := hbn; replace hbk := hbk.trans (hbm.mono hbk.size); replace hm := hm.on hbm; replace ha := ha.on hbm; replace ho := ho.on hbm; obtain ⟨-, -, of⟩ := id ho; obtain ⟨o0, o1, o2⟩ := ho.v3))
  have hz : Bk (w.heap.size + 2) 3 (f3 (pointN m x y z 0) (pointN m x y z 1) (pointN m x y z 2)) (((w9.setCell ⟨(w.heap.size + 2), 0, none⟩ (.int .i64 (Pl.add (dirN m x y z 0) (m 9)))).setCell ⟨(w.heap.size + 2), 1, none⟩ (.int .i64 (Pl.add (dirN m x y z 1) (m 10)))).setCell ⟨(w.heap.size + 2), 2, none⟩ (.int .i64 (Pl.add (dirN m x y z 2) (m 11)))) := ho.putf3 (pointN m x y z 0) (pointN m x y z 1) (pointN m x y z 2)
  have hbz : Below w.heap.size w (((w9.setCell ⟨(w.heap.size + 2), 0, none⟩ (.int .i64 (Pl.add (dirN m x y z 0) (m 9)))).setCell ⟨(w.heap.size + 2), 1, none⟩ (.int .i64 (Pl.add (dirN m x y z 1) (m 10)))).setCell ⟨(w.heap.size + 2), 2, none⟩ (.int .i64 (Pl.add (dirN m x y z 2) (m 11)))) := below_set3 hbk (by omega) _ _ _
  obtain ⟨wz, hwz⟩ : ∃ wz, wz = (((w9.setCell ⟨(w.heap.size + 2), 0, none⟩ (.int .i64 (Pl.add (dirN m x y z 0) (m 9)))).setCell ⟨(w.heap.size + 2), 1, none⟩ (.int .i64 (Pl.add (dirN m x y z 1) (m 10)))).setCell ⟨(w.heap.size + 2), 2, none⟩ (.int .i64 (Pl.add (dirN m x y z 2) (m 11)))) := ⟨_, rfl⟩
  rw [← hwz] at hz hbz ⊢
  obtain ⟨z0, z1, z2⟩ := hz.v3
  clear hwz
  go_wp2
  exact bodyPost_ret (v := V3 (pointN m x y z 0) (pointN m x y z 1) (pointN m x y z 2)) (by simp [results, Try.results21, go_sem, z0, z1, z2]) rfl ⟨rfl, hbz⟩


end Go.Proofs.Ytohnjhnfhmfiiaa.Ve
