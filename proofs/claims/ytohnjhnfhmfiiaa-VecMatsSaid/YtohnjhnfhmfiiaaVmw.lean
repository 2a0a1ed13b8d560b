/- The contract of the document's matrix that moves. -/
import Derived.Test.YtohnjhnfhmfiiaaVms
namespace Go.Proofs.Ytohnjhnfhmfiiaa.Ve
open Go.RowKit Go.Proofs.Ytohnjhnfhmfiiaa Go.Proofs.Ytohnjhnfhmfiiaa.Wa

set_option maxHeartbeats 2000000 in
set_option maxRecDepth 100000 in
theorem rmove_any (x y z : Int) (w : World) :
    Calls Try.prog 26 #[V3 x y z] w fun e w' => e = .returned (MV (moveN x y z)) ∧ Below w.heap.size w w' := by
  go_enter Try.func26, Try.ntmps26
  go_wp2_with fail
  obtain ⟨wq, hwq⟩ : ∃ wq, wq = ((w.alloc (.cells #[.int .i64 x, .int .i64 y, .int .i64 z] 23)).alloc (.cells #[.int .i64 0, .int .i64 0, .int .i64 0, .int .i64 0, .int .i64 0, .int .i64 0, .int .i64 0, .int .i64 0, .int .i64 0, .int .i64 0, .int .i64 0, .int .i64 0] 26)) := ⟨_, rfl⟩
  rw [← hwq]
  have ha : Bk w.heap.size 3 (f3 x y z) wq := by subst hwq; exact ((new3 _ w.heap.size (by simp) x y z _).on (below_n1 _ _))
  have ho : Bk (w.heap.size + 1) 12 ((fun _ => 0)) wq := by subst hwq; exact (new12 _ (w.heap.size + 1) (by simp) ((fun _ => 0)) _)
  have hbk : Below w.heap.size w wq := by subst hwq; exact (below_n2 w _ _)
  clear hwq
  go_upto_region 2 with (first | (go_at_call 28; refine (rsize_any _ _).mono ?_; rintro e w9 ⟨rfl, hbn⟩; have hbm := hbn; replace hbk := hbk.trans (hbm.mono hbk.size); replace ha := ha.on hbm; replace ho := ho.on hbm))
  have n_ho_hl : (w.heap.size + 1) ≠ w9.heap.size := by have := ho.1; omega
  have hwl : w.heap.size ≤ w9.heap.size := hbk.size
  obtain ⟨wp, hwp⟩ : ∃ wp, wp = w9.alloc (.cells #[.int .i64 (sizeN 65536 0), .int .i64 (sizeN 65536 1), .int .i64 (sizeN 65536 2), .int .i64 (sizeN 65536 3), .int .i64 (sizeN 65536 4), .int .i64 (sizeN 65536 5), .int .i64 (sizeN 65536 6), .int .i64 (sizeN 65536 7), .int .i64 (sizeN 65536 8), .int .i64 (sizeN 65536 9), .int .i64 (sizeN 65536 10), .int .i64 (sizeN 65536 11)] 26) := ⟨_, rfl⟩
  rw [← hwp]
  have hl : Bk w9.heap.size 12 (sizeN 65536) wp := by subst hwp; exact new12 _ _ rfl (sizeN 65536) _
  replace ha := ha.on (show Below w9.heap.size w9 wp by subst hwp; exact below_n1 _ _)
  replace ho := ho.on (show Below w9.heap.size w9 wp by subst hwp; exact below_n1 _ _)
  replace hbk : Below w.heap.size w wp := hbk.trans ((show Below w9.heap.size w9 wp by subst hwp; exact below_n1 _ _).mono hwl)
  clear hwp
  obtain ⟨p0, p1, p2⟩ := ha.v3
  obtain ⟨-, -, lf⟩ := id hl
  obtain ⟨l0, l1, l2, l3, l4, l5, l6, l7, l8, l9, l10, l11⟩ := hl.c12
  go_upto_region 3 with fail
  have hl2 : Bk w9.heap.size 12 (moveN x y z) (((wp.setCell ⟨w9.heap.size, 9, none⟩ (.int .i64 x)).setCell ⟨w9.heap.size, 10, none⟩ (.int .i64 y)).setCell ⟨w9.heap.size, 11, none⟩ (.int .i64 z)) := (hl.put3 (i := 9) (by omega) x y z).eq (fun j hj => by
    match j, hj with
    | 0, _ => rfl
    | 1, _ => rfl
    | 2, _ => rfl
    | 3, _ => rfl
    | 4, _ => rfl
    | 5, _ => rfl
    | 6, _ => rfl
    | 7, _ => rfl
    | 8, _ => rfl
    | 9, _ => rfl
    | 10, _ => rfl
    | 11, _ => rfl)
  replace ho : Bk (w.heap.size + 1) 12 (fun _ => 0) (((wp.setCell ⟨w9.heap.size, 9, none⟩ (.int .i64 x)).setCell ⟨w9.heap.size, 10, none⟩ (.int .i64 y)).setCell ⟨w9.heap.size, 11, none⟩ (.int .i64 z)) := ho.far3 n_ho_hl _ _ _
  replace hbk : Below w.heap.size w (((wp.setCell ⟨w9.heap.size, 9, none⟩ (.int .i64 x)).setCell ⟨w9.heap.size, 10, none⟩ (.int .i64 y)).setCell ⟨w9.heap.size, 11, none⟩ (.int .i64 z)) := below_set3 hbk hwl _ _ _
  obtain ⟨wr, hwr⟩ : ∃ wr, wr = (((wp.setCell ⟨w9.heap.size, 9, none⟩ (.int .i64 x)).setCell ⟨w9.heap.size, 10, none⟩ (.int .i64 y)).setCell ⟨w9.heap.size, 11, none⟩ (.int .i64 z)) := ⟨_, rfl⟩
  rw [← hwr] at hl2 ho hbk ⊢
  clear hwr hl lf ha p0 p1 p2 l0 l1 l2 l3 l4 l5 l6 l7 l8 l9 l10 l11
  obtain ⟨-, -, of⟩ := id ho
  obtain ⟨o0, o1, o2, o3, o4, o5, o6, o7, o8, o9, o10, o11⟩ := ho.c12
  obtain ⟨l0, l1, l2, l3, l4, l5, l6, l7, l8, l9, l10, l11⟩ := hl2.c12
  go_wp2
  have hz : Bk (w.heap.size + 1) 12 (moveN x y z) ((((((((((((wr.setCell ⟨(w.heap.size + 1), 0, none⟩ (.int .i64 (moveN x y z 0))).setCell ⟨(w.heap.size + 1), 1, none⟩ (.int .i64 (moveN x y z 1))).setCell ⟨(w.heap.size + 1), 2, none⟩ (.int .i64 (moveN x y z 2))).setCell ⟨(w.heap.size + 1), 3, none⟩ (.int .i64 (moveN x y z 3))).setCell ⟨(w.heap.size + 1), 4, none⟩ (.int .i64 (moveN x y z 4))).setCell ⟨(w.heap.size + 1), 5, none⟩ (.int .i64 (moveN x y z 5))).setCell ⟨(w.heap.size + 1), 6, none⟩ (.int .i64 (moveN x y z 6))).setCell ⟨(w.heap.size + 1), 7, none⟩ (.int .i64 (moveN x y z 7))).setCell ⟨(w.heap.size + 1), 8, none⟩ (.int .i64 (moveN x y z 8))).setCell ⟨(w.heap.size + 1), 9, none⟩ (.int .i64 (moveN x y z 9))).setCell ⟨(w.heap.size + 1), 10, none⟩ (.int .i64 (moveN x y z 10))).setCell ⟨(w.heap.size + 1), 11, none⟩ (.int .i64 (moveN x y z 11))) := ho.put12 (moveN x y z)
  have hbz : Below w.heap.size w ((((((((((((wr.setCell ⟨(w.heap.size + 1), 0, none⟩ (.int .i64 (moveN x y z 0))).setCell ⟨(w.heap.size + 1), 1, none⟩ (.int .i64 (moveN x y z 1))).setCell ⟨(w.heap.size + 1), 2, none⟩ (.int .i64 (moveN x y z 2))).setCell ⟨(w.heap.size + 1), 3, none⟩ (.int .i64 (moveN x y z 3))).setCell ⟨(w.heap.size + 1), 4, none⟩ (.int .i64 (moveN x y z 4))).setCell ⟨(w.heap.size + 1), 5, none⟩ (.int .i64 (moveN x y z 5))).setCell ⟨(w.heap.size + 1), 6, none⟩ (.int .i64 (moveN x y z 6))).setCell ⟨(w.heap.size + 1), 7, none⟩ (.int .i64 (moveN x y z 7))).setCell ⟨(w.heap.size + 1), 8, none⟩ (.int .i64 (moveN x y z 8))).setCell ⟨(w.heap.size + 1), 9, none⟩ (.int .i64 (moveN x y z 9))).setCell ⟨(w.heap.size + 1), 10, none⟩ (.int .i64 (moveN x y z 10))).setCell ⟨(w.heap.size + 1), 11, none⟩ (.int .i64 (moveN x y z 11))) := below_set12 hbk (by omega) _ _ _ _ _ _ _ _ _ _ _ _
  obtain ⟨wz, hwz⟩ : ∃ wz, wz = ((((((((((((wr.setCell ⟨(w.heap.size + 1), 0, none⟩ (.int .i64 (moveN x y z 0))).setCell ⟨(w.heap.size + 1), 1, none⟩ (.int .i64 (moveN x y z 1))).setCell ⟨(w.heap.size + 1), 2, none⟩ (.int .i64 (moveN x y z 2))).setCell ⟨(w.heap.size + 1), 3, none⟩ (.int .i64 (moveN x y z 3))).setCell ⟨(w.heap.size + 1), 4, none⟩ (.int .i64 (moveN x y z 4))).setCell ⟨(w.heap.size + 1), 5, none⟩ (.int .i64 (moveN x y z 5))).setCell ⟨(w.heap.size + 1), 6, none⟩ (.int .i64 (moveN x y z 6))).setCell ⟨(w.heap.size + 1), 7, none⟩ (.int .i64 (moveN x y z 7))).setCell ⟨(w.heap.size + 1), 8, none⟩ (.int .i64 (moveN x y z 8))).setCell ⟨(w.heap.size + 1), 9, none⟩ (.int .i64 (moveN x y z 9))).setCell ⟨(w.heap.size + 1), 10, none⟩ (.int .i64 (moveN x y z 10))).setCell ⟨(w.heap.size + 1), 11, none⟩ (.int .i64 (moveN x y z 11))) := ⟨_, rfl⟩
  rw [← hwz] at hz hbz ⊢
  obtain ⟨z0, z1, z2, z3, z4, z5, z6, z7, z8, z9, z10, z11⟩ := hz.c12
  clear hwz
  go_wp2
  exact bodyPost_ret (v := MV (moveN x y z)) (by simp [results, Try.results26, go_sem, z0, z1, z2, z3, z4, z5, z6, z7, z8, z9, z10, z11]) rfl ⟨rfl, hbz⟩


end Go.Proofs.Ytohnjhnfhmfiiaa.Ve
