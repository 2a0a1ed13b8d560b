/- The contract of the document's direction behind a matrix. -/
import Derived.Test.YtohnjhnfhmfiiaaVm
import Derived.Test.YtohnjhnfhmfiiaaVr
namespace Go.Proofs.Ytohnjhnfhmfiiaa.Ve
open Go.RowKit Go.Proofs.Ytohnjhnfhmfiiaa Go.Proofs.Ytohnjhnfhmfiiaa.Wa

set_option maxHeartbeats 4000000 in
set_option maxRecDepth 100000 in
theorem rdir_any (m : Nat → Int) (x y z : Int) (w : World) :
    Calls Try.prog 19 #[MV m, V3 x y z] w fun e w' => e = .returned (V3 (dirN m x y z 0) (dirN m x y z 1) (dirN m x y z 2)) ∧ Below w.heap.size w w' := by
  have n_hm_hs : w.heap.size ≠ (w.heap.size + 1 + 1 + 1) := by omega
  have n_ha_hs : (w.heap.size + 1) ≠ (w.heap.size + 1 + 1 + 1) := by omega
  have n_ho_hs : (w.heap.size + 2) ≠ (w.heap.size + 1 + 1 + 1) := by omega
  go_enter Try.func19, Try.ntmps19
  go_wp2
  obtain ⟨wq, hwq⟩ : ∃ wq, wq = ((((w.alloc (.cells #[.int .i64 (m 0), .int .i64 (m 1), .int .i64 (m 2), .int .i64 (m 3), .int .i64 (m 4), .int .i64 (m 5), .int .i64 (m 6), .int .i64 (m 7), .int .i64 (m 8), .int .i64 (m 9), .int .i64 (m 10), .int .i64 (m 11)] 26)).alloc (.cells #[.int .i64 x, .int .i64 y, .int .i64 z] 23)).alloc (.cells #[.int .i64 0, .int .i64 0, .int .i64 0] 23)).alloc (.cells #[.int .i64 0, .int .i64 0, .int .i64 0] 23)) := ⟨_, rfl⟩
  rw [← hwq]
  have hm : Bk w.heap.size 12 m wq := by subst hwq; exact ((new12 _ w.heap.size (by simp) m _).on (below_n3 _ _ _ _))
  have ha : Bk (w.heap.size + 1) 3 (f3 x y z) wq := by subst hwq; exact ((new3 _ (w.heap.size + 1) (by simp) x y z _).on (below_n2 _ _ _))
  have ho : Bk (w.heap.size + 2) 3 (f3 0 0 0) wq := by subst hwq; exact ((new3 _ (w.heap.size + 2) (by simp) 0 0 0 _).on (below_n1 _ _))
  have hs : Bk (w.heap.size + 1 + 1 + 1) 3 (f3 0 0 0) wq := by subst hwq; exact (new3 _ (w.heap.size + 1 + 1 + 1) (by simp) 0 0 0 _)
  have hbk : Below w.heap.size w wq := by subst hwq; exact (below_n4 w _ _ _ _)
  clear hwq
  refine wp_loop_rounds 4 ?_
  rw [rounds_succ]
  go_wp2_with fail
  replace hm := hm.on (Below.refl _ _).drew
  replace ha := ha.on (Below.refl _ _).drew
  replace ho := ho.on (Below.refl _ _).drew
  replace hs := hs.on (Below.refl _ _).drew
  replace hbk := hbk.drew
  obtain ⟨s0, s1, s2⟩ := hs.v3
  obtain ⟨p0, p1, p2⟩ := ha.v3
  obtain ⟨m0, m1, m2, m3, m4, m5, m6, m7, m8, m9, m10, m11⟩ := hm.c12
  apply wp_meet (R := fun w' => Bk w.heap.size 12 m w' ∧ Bk (w.heap.size + 1) 3 (f3 x y z) w' ∧ Bk (w.heap.size + 2) 3 (f3 0 0 0) w' ∧ Bk (w.heap.size + 1 + 1 + 1) 3 (f3 (Pl.add 0 (Pl.mul (m 0) x)) (Pl.add 0 (Pl.mul (m 1) x)) (Pl.add 0 (Pl.mul (m 2) x))) w' ∧ Below w.heap.size w w')
  case h =>
    go_region_with (first | (go_at_call 75; refine (rscale_any _ _ _ _ _).mono ?_; rintro e w9 ⟨rfl, hbn⟩; have hbm := hbn; replace hbk := hbk.trans (hbm.mono hbk.size); replace hm := hm.on hbm; replace ha := ha.on hbm; replace ho := ho.on hbm; replace hs := hs.on hbm; obtain ⟨s0, s1, s2⟩ := hs.v3; obtain ⟨-, -, sf⟩ := id hs) | (go_at_call 74; refine (radd_any _ _ _ _ _ _ _).mono ?_; rintro e w9 ⟨rfl, hbn⟩; have hbm := hbn; replace hbk := hbk.trans (hbm.mono hbk.size); replace hm := hm.on hbm; replace ha := ha.on hbm; replace ho := ho.on hbm; replace hs := hs.on hbm; obtain ⟨s0, s1, s2⟩ := hs.v3; obtain ⟨-, -, sf⟩ := id hs))
    all_goals exact ⟨rfl, hm.far3 n_hm_hs _ _ _, ha.far3 n_ha_hs _ _ _, ho.far3 n_ho_hs _ _ _, hs.putf3 _ _ _, below_set3 hbk (by omega) _ _ _⟩
  clear hm ha ho hs hbk s0 s1 s2 p0 p1 p2 m0 m1 m2 m3 m4 m5 m6 m7 m8 m9 m10 m11
  intro w20 ⟨hm, ha, ho, hs, hbk⟩
  go_wp2
  rw [rounds_succ]
  go_wp2_with fail
  replace hm := hm.on (Below.refl _ _).drew
  replace ha := ha.on (Below.refl _ _).drew
  replace ho := ho.on (Below.refl _ _).drew
  replace hs := hs.on (Below.refl _ _).drew
  replace hbk := hbk.drew
  obtain ⟨s0, s1, s2⟩ := hs.v3
  obtain ⟨p0, p1, p2⟩ := ha.v3
  obtain ⟨m0, m1, m2, m3, m4, m5, m6, m7, m8, m9, m10, m11⟩ := hm.c12
  apply wp_meet (R := fun w' => Bk w.heap.size 12 m w' ∧ Bk (w.heap.size + 1) 3 (f3 x y z) w' ∧ Bk (w.heap.size + 2) 3 (f3 0 0 0) w' ∧ Bk (w.heap.size + 1 + 1 + 1) 3 (f3 (Pl.add (Pl.add 0 (Pl.mul (m 0) x)) (Pl.mul (m 3) y)) (Pl.add (Pl.add 0 (Pl.mul (m 1) x)) (Pl.mul (m 4) y)) (Pl.add (Pl.add 0 (Pl.mul (m 2) x)) (Pl.mul (m 5) y))) w' ∧ Below w.heap.size w w')
  case h =>
    go_region_with (first | (go_at_call 75; refine (rscale_any _ _ _ _ _).mono ?_; rintro e w9 ⟨rfl, hbn⟩; have hbm := hbn; replace hbk := hbk.trans (hbm.mono hbk.size); replace hm := hm.on hbm; replace ha := ha.on hbm; replace ho := ho.on hbm; replace hs := hs.on hbm; obtain ⟨s0, s1, s2⟩ := hs.v3; obtain ⟨-, -, sf⟩ := id hs) | (go_at_call 74; refine (radd_any _ _ _ _ _ _ _).mono ?_; rintro e w9 ⟨rfl, hbn⟩; have hbm := hbn; replace hbk := hbk.trans (hbm.mono hbk.size); replace hm := hm.on hbm; replace ha := ha.on hbm; replace ho := ho.on hbm; replace hs := hs.on hbm; obtain ⟨s0, s1, s2⟩ := hs.v3; obtain ⟨-, -, sf⟩ := id hs))
    all_goals exact ⟨rfl, hm.far3 n_hm_hs _ _ _, ha.far3 n_ha_hs _ _ _, ho.far3 n_ho_hs _ _ _, hs.putf3 _ _ _, below_set3 hbk (by omega) _ _ _⟩
  clear hm ha ho hs hbk s0 s1 s2 p0 p1 p2 m0 m1 m2 m3 m4 m5 m6 m7 m8 m9 m10 m11
  intro w21 ⟨hm, ha, ho, hs, hbk⟩
  go_wp2
  rw [rounds_succ]
  go_wp2_with fail
  replace hm := hm.on (Below.refl _ _).drew
  replace ha := ha.on (Below.refl _ _).drew
  replace ho := ho.on (Below.refl _ _).drew
  replace hs := hs.on (Below.refl _ _).drew
  replace hbk := hbk.drew
  obtain ⟨s0, s1, s2⟩ := hs.v3
  obtain ⟨p0, p1, p2⟩ := ha.v3
  obtain ⟨m0, m1, m2, m3, m4, m5, m6, m7, m8, m9, m10, m11⟩ := hm.c12
  apply wp_meet (R := fun w' => Bk w.heap.size 12 m w' ∧ Bk (w.heap.size + 1) 3 (f3 x y z) w' ∧ Bk (w.heap.size + 2) 3 (f3 0 0 0) w' ∧ Bk (w.heap.size + 1 + 1 + 1) 3 (f3 (Pl.add (Pl.add (Pl.add 0 (Pl.mul (m 0) x)) (Pl.mul (m 3) y)) (Pl.mul (m 6) z)) (Pl.add (Pl.add (Pl.add 0 (Pl.mul (m 1) x)) (Pl.mul (m 4) y)) (Pl.mul (m 7) z)) (Pl.add (Pl.add (Pl.add 0 (Pl.mul (m 2) x)) (Pl.mul (m 5) y)) (Pl.mul (m 8) z))) w' ∧ Below w.heap.size w w')
  case h =>
    go_region_with (first | (go_at_call 75; refine (rscale_any _ _ _ _ _).mono ?_; rintro e w9 ⟨rfl, hbn⟩; have hbm := hbn; replace hbk := hbk.trans (hbm.mono hbk.size); replace hm := hm.on hbm; replace ha := ha.on hbm; replace ho := ho.on hbm; replace hs := hs.on hbm; obtain ⟨s0, s1, s2⟩ := hs.v3; obtain ⟨-, -, sf⟩ := id hs) | (go_at_call 74; refine (radd_any _ _ _ _ _ _ _).mono ?_; rintro e w9 ⟨rfl, hbn⟩; have hbm := hbn; replace hbk := hbk.trans (hbm.mono hbk.size); replace hm := hm.on hbm; replace ha := ha.on hbm; replace ho := ho.on hbm; replace hs := hs.on hbm; obtain ⟨s0, s1, s2⟩ := hs.v3; obtain ⟨-, -, sf⟩ := id hs))
    all_goals exact ⟨rfl, hm.far3 n_hm_hs _ _ _, ha.far3 n_ha_hs _ _ _, ho.far3 n_ho_hs _ _ _, hs.putf3 _ _ _, below_set3 hbk (by omega) _ _ _⟩
  clear hm ha ho hs hbk s0 s1 s2 p0 p1 p2 m0 m1 m2 m3 m4 m5 m6 m7 m8 m9 m10 m11
  intro w22 ⟨hm, ha, ho, hs, hbk⟩
  go_wp2
  rw [rounds_succ]
  obtain ⟨s0, s1, s2⟩ := hs.v3
  obtain ⟨-, -, of⟩ := id ho
  obtain ⟨o0, o1, o2⟩ := ho.v3
  go_wp2
  have hz : Bk (w.heap.size + 2) 3 (f3 (dirN m x y z 0) (dirN m x y z 1) (dirN m x y z 2)) (((w22.setCell ⟨(w.heap.size + 2), 0, none⟩ (.int .i64 (Pl.add (Pl.add (Pl.add 0 (Pl.mul (m 0) x)) (Pl.mul (m 3) y)) (Pl.mul (m 6) z)))).setCell ⟨(w.heap.size + 2), 1, none⟩ (.int .i64 (Pl.add (Pl.add (Pl.add 0 (Pl.mul (m 1) x)) (Pl.mul (m 4) y)) (Pl.mul (m 7) z)))).setCell ⟨(w.heap.size + 2), 2, none⟩ (.int .i64 (Pl.add (Pl.add (Pl.add 0 (Pl.mul (m 2) x)) (Pl.mul (m 5) y)) (Pl.mul (m 8) z)))) := ho.putf3 (dirN m x y z 0) (dirN m x y z 1) (dirN m x y z 2)
  have hbz : Below w.heap.size w (((w22.setCell ⟨(w.heap.size + 2), 0, none⟩ (.int .i64 (Pl.add (Pl.add (Pl.add 0 (Pl.mul (m 0) x)) (Pl.mul (m 3) y)) (Pl.mul (m 6) z)))).setCell ⟨(w.heap.size + 2), 1, none⟩ (.int .i64 (Pl.add (Pl.add (Pl.add 0 (Pl.mul (m 1) x)) (Pl.mul (m 4) y)) (Pl.mul (m 7) z)))).setCell ⟨(w.heap.size + 2), 2, none⟩ (.int .i64 (Pl.add (Pl.add (Pl.add 0 (Pl.mul (m 2) x)) (Pl.mul (m 5) y)) (Pl.mul (m 8) z)))) := below_set3 hbk (by omega) _ _ _
  obtain ⟨wz, hwz⟩ : ∃ wz, wz = (((w22.setCell ⟨(w.heap.size + 2), 0, none⟩ (.int .i64 (Pl.add (Pl.add (Pl.add 0 (Pl.mul (m 0) x)) (Pl.mul (m 3) y)) (Pl.mul (m 6) z)))).setCell ⟨(w.heap.size + 2), 1, none⟩ (.int .i64 (Pl.add (Pl.add (Pl.add 0 (Pl.mul (m 1) x)) (Pl.mul (m 4) y)) (Pl.mul (m 7) z)))).setCell ⟨(w.heap.size + 2), 2, none⟩ (.int .i64 (Pl.add (Pl.add (Pl.add 0 (Pl.mul (m 2) x)) (Pl.mul (m 5) y)) (Pl.mul (m 8) z)))) := ⟨_, rfl⟩
  rw [← hwz] at hz hbz ⊢
  obtain ⟨z0, z1, z2⟩ := hz.v3
  clear hwz
  go_wp2
  exact bodyPost_ret (v := V3 (dirN m x y z 0) (dirN m x y z 1) (dirN m x y z 2)) (by simp [results, Try.results19, go_sem, z0, z1, z2]) rfl ⟨rfl, hbz⟩


end Go.Proofs.Ytohnjhnfhmfiiaa.Ve
