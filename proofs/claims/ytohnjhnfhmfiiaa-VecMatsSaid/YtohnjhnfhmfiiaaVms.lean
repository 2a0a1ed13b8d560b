/- The contract of the document's matrix that stretches. -/
import Derived.Test.YtohnjhnfhmfiiaaVm
namespace Go.Proofs.Ytohnjhnfhmfiiaa.Ve
open Go.RowKit Go.Proofs.Ytohnjhnfhmfiiaa Go.Proofs.Ytohnjhnfhmfiiaa.Wa

set_option maxHeartbeats 2000000 in
set_option maxRecDepth 100000 in
theorem rsize_any (s : Int) (w : World) :
    Calls Try.prog 28 #[.int .i64 s] w fun e w' => e = .returned (MV (sizeN s)) ∧ Below w.heap.size w w' := by
  go_enter Try.func28, Try.ntmps28
  go_wp2
  obtain ⟨wq, hwq⟩ : ∃ wq, wq = ((w.alloc (.cells #[.int .i64 0, .int .i64 0, .int .i64 0, .int .i64 0, .int .i64 0, .int .i64 0, .int .i64 0, .int .i64 0, .int .i64 0, .int .i64 0, .int .i64 0, .int .i64 0] 26)).alloc (.cells #[.int .i64 0, .int .i64 0, .int .i64 0, .int .i64 0, .int .i64 0, .int .i64 0, .int .i64 0, .int .i64 0, .int .i64 0, .int .i64 0, .int .i64 0, .int .i64 0] 26)) := ⟨_, rfl⟩
  rw [← hwq]
  have ho : Bk w.heap.size 12 ((fun _ => 0)) wq := by subst hwq; exact ((new12 _ w.heap.size (by simp) ((fun _ => 0)) _).on (below_n1 _ _))
  have hl : Bk (w.heap.size + 1) 12 ((fun _ => 0)) wq := by subst hwq; exact (new12 _ (w.heap.size + 1) (by simp) ((fun _ => 0)) _)
  have hbk : Below w.heap.size w wq := by subst hwq; exact (below_n2 w _ _)
  clear hwq
  have n_o_l : w.heap.size ≠ (w.heap.size + 1) := by omega
  have n_l_o : (w.heap.size + 1) ≠ w.heap.size := by omega
  obtain ⟨-, -, lf⟩ := id hl
  obtain ⟨l0, l1, l2, l3, l4, l5, l6, l7, l8, l9, l10, l11⟩ := hl.c12
  obtain ⟨-, -, of⟩ := id ho
  obtain ⟨o0, o1, o2, o3, o4, o5, o6, o7, o8, o9, o10, o11⟩ := ho.c12
  refine wp_loop_rounds 4 ?_
  rw [rounds_succ]
  go_wp2
  rw [rounds_succ]
  go_wp2
  rw [rounds_succ]
  go_wp2
  rw [rounds_succ]
  go_upto_region 6 with fail
  have hl2 : Bk (w.heap.size + 1) 12 (sizeN s) (((wq.setCell ⟨(w.heap.size + 1), 0, none⟩ (.int .i64 s)).setCell ⟨(w.heap.size + 1), 4, none⟩ (.int .i64 s)).setCell ⟨(w.heap.size + 1), 8, none⟩ (.int .i64 s)) := (((hl.put (i := 0) (by omega) s).put (i := 4) (by omega) s).put (i := 8) (by omega) s).eq (fun j hj => by
    match j, hj with
    | 0, _ => rfl
    | 1, _ => rfl
    | 2, _ => rfl
    | 3, _ => rfl
    | 4, _ => rfl
    | 5, _ => rfl
    | 6, _ => rfl
    | 7, _ => rfl
    | 8, _ => rfl
    | 9, _ => rfl
    | 10, _ => rfl
    | 11, _ => rfl)
  replace ho := ho.far3 (i := 0) (j := 4) (l := 8) n_o_l (.int .i64 s) (.int .i64 s) (.int .i64 s)
  replace hbk := below_set3 (i := 0) (j := 4) (l := 8) hbk (show w.heap.size ≤ w.heap.size + 1 by omega) (.int .i64 s) (.int .i64 s) (.int .i64 s)
  obtain ⟨wp, hwp⟩ : ∃ wp, wp = (((wq.setCell ⟨(w.heap.size + 1), 0, none⟩ (.int .i64 s)).setCell ⟨(w.heap.size + 1), 4, none⟩ (.int .i64 s)).setCell ⟨(w.heap.size + 1), 8, none⟩ (.int .i64 s)) := ⟨_, rfl⟩
  rw [← hwp] at hl2 ho hbk ⊢
  clear hwp hl lf of l0 l1 l2 l3 l4 l5 l6 l7 l8 l9 l10 l11 o0 o1 o2 o3 o4 o5 o6 o7 o8 o9 o10 o11
  obtain ⟨-, -, of⟩ := id ho
  obtain ⟨o0, o1, o2, o3, o4, o5, o6, o7, o8, o9, o10, o11⟩ := ho.c12
  obtain ⟨l0, l1, l2, l3, l4, l5, l6, l7, l8, l9, l10, l11⟩ := hl2.c12
  go_wp2
  have hz : Bk w.heap.size 12 (sizeN s) ((((((((((((wp.setCell ⟨w.heap.size, 0, none⟩ (.int .i64 (sizeN s 0))).setCell ⟨w.heap.size, 1, none⟩ (.int .i64 (sizeN s 1))).setCell ⟨w.heap.size, 2, none⟩ (.int .i64 (sizeN s 2))).setCell ⟨w.heap.size, 3, none⟩ (.int .i64 (sizeN s 3))).setCell ⟨w.heap.size, 4, none⟩ (.int .i64 (sizeN s 4))).setCell ⟨w.heap.size, 5, none⟩ (.int .i64 (sizeN s 5))).setCell ⟨w.heap.size, 6, none⟩ (.int .i64 (sizeN s 6))).setCell ⟨w.heap.size, 7, none⟩ (.int .i64 (sizeN s 7))).setCell ⟨w.heap.size, 8, none⟩ (.int .i64 (sizeN s 8))).setCell ⟨w.heap.size, 9, none⟩ (.int .i64 (sizeN s 9))).setCell ⟨w.heap.size, 10, none⟩ (.int .i64 (sizeN s 10))).setCell ⟨w.heap.size, 11, none⟩ (.int .i64 (sizeN s 11))) := ho.put12 (sizeN s)
  have hbz : Below w.heap.size w ((((((((((((wp.setCell ⟨w.heap.size, 0, none⟩ (.int .i64 (sizeN s 0))).setCell ⟨w.heap.size, 1, none⟩ (.int .i64 (sizeN s 1))).setCell ⟨w.heap.size, 2, none⟩ (.int .i64 (sizeN s 2))).setCell ⟨w.heap.size, 3, none⟩ (.int .i64 (sizeN s 3))).setCell ⟨w.heap.size, 4, none⟩ (.int .i64 (sizeN s 4))).setCell ⟨w.heap.size, 5, none⟩ (.int .i64 (sizeN s 5))).setCell ⟨w.heap.size, 6, none⟩ (.int .i64 (sizeN s 6))).setCell ⟨w.heap.size, 7, none⟩ (.int .i64 (sizeN s 7))).setCell ⟨w.heap.size, 8, none⟩ (.int .i64 (sizeN s 8))).setCell ⟨w.heap.size, 9, none⟩ (.int .i64 (sizeN s 9))).setCell ⟨w.heap.size, 10, none⟩ (.int .i64 (sizeN s 10))).setCell ⟨w.heap.size, 11, none⟩ (.int .i64 (sizeN s 11))) := below_set12 hbk (by omega) _ _ _ _ _ _ _ _ _ _ _ _
  obtain ⟨wz, hwz⟩ : ∃ wz, wz = ((((((((((((wp.setCell ⟨w.heap.size, 0, none⟩ (.int .i64 (sizeN s 0))).setCell ⟨w.heap.size, 1, none⟩ (.int .i64 (sizeN s 1))).setCell ⟨w.heap.size, 2, none⟩ (.int .i64 (sizeN s 2))).setCell ⟨w.heap.size, 3, none⟩ (.int .i64 (sizeN s 3))).setCell ⟨w.heap.size, 4, none⟩ (.int .i64 (sizeN s 4))).setCell ⟨w.heap.size, 5, none⟩ (.int .i64 (sizeN s 5))).setCell ⟨w.heap.size, 6, none⟩ (.int .i64 (sizeN s 6))).setCell ⟨w.heap.size, 7, none⟩ (.int .i64 (sizeN s 7))).setCell ⟨w.heap.size, 8, none⟩ (.int .i64 (sizeN s 8))).setCell ⟨w.heap.size, 9, none⟩ (.int .i64 (sizeN s 9))).setCell ⟨w.heap.size, 10, none⟩ (.int .i64 (sizeN s 10))).setCell ⟨w.heap.size, 11, none⟩ (.int .i64 (sizeN s 11))) := ⟨_, rfl⟩
  rw [← hwz] at hz hbz ⊢
  obtain ⟨z0, z1, z2, z3, z4, z5, z6, z7, z8, z9, z10, z11⟩ := hz.c12
  clear hwz
  go_wp2
  exact bodyPost_ret (v := MV (sizeN s)) (by simp [results, Try.results28, go_sem, z0, z1, z2, z3, z4, z5, z6, z7, z8, z9, z10, z11]) rfl ⟨rfl, hbz⟩


end Go.Proofs.Ytohnjhnfhmfiiaa.Ve
