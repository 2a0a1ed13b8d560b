/- The contracts of layer 2's matrices that stretch, and of the document's. -/
import Derived.Test.YtohnjhnfhmfiiaaVm
namespace Go.Proofs.Ytohnjhnfhmfiiaa.Ve
open Go.RowKit Go.Proofs.Ytohnjhnfhmfiiaa Go.Proofs.Ytohnjhnfhmfiiaa.Wa

set_option maxHeartbeats 2000000 in
set_option maxRecDepth 100000 in
theorem size_any (s : Int) (w : World) :
    Calls Try.prog 27 #[.int .i64 s] w fun e w' => e = .returned (MV (sizeN s)) ∧ Below w.heap.size w w' := by
  go_enter Try.func27, Try.ntmps27
  have hbk : Below w.heap.size w (w.alloc (.cells #[.int .i64 0, .int .i64 0, .int .i64 0, .int .i64 0, .int .i64 0, .int .i64 0, .int .i64 0, .int .i64 0, .int .i64 0, .int .i64 0, .int .i64 0, .int .i64 0] 31)) := below_n1 _ _
  have ho : Bk w.heap.size 12 (fun _ => 0) (w.alloc (.cells #[.int .i64 0, .int .i64 0, .int .i64 0, .int .i64 0, .int .i64 0, .int .i64 0, .int .i64 0, .int .i64 0, .int .i64 0, .int .i64 0, .int .i64 0, .int .i64 0] 31)) := new12 _ _ (by simp) (fun _ => 0) _
  go_wp2_with (first | (go_at_call 77; refine (new_any _ _ _ _).mono ?_; rintro e w9 ⟨rfl, hbn⟩; have hbm := hbn; replace hbk := hbk.trans (hbm.mono hbk.size); replace ho := ho.on hbm; obtain ⟨-, -, of⟩ := id ho; obtain ⟨o0, o1, o2, o3, o4, o5, o6, o7, o8, o9, o10, o11⟩ := ho.c12))
  have hz : Bk w.heap.size 12 (sizeN s) ((((((((((((w9.setCell ⟨w.heap.size, 0, none⟩ (.int .i64 s)).setCell ⟨w.heap.size, 1, none⟩ (.int .i64 0)).setCell ⟨w.heap.size, 2, none⟩ (.int .i64 0)).setCell ⟨w.heap.size, 3, none⟩ (.int .i64 0)).setCell ⟨w.heap.size, 4, none⟩ (.int .i64 s)).setCell ⟨w.heap.size, 5, none⟩ (.int .i64 0)).setCell ⟨w.heap.size, 6, none⟩ (.int .i64 0)).setCell ⟨w.heap.size, 7, none⟩ (.int .i64 0)).setCell ⟨w.heap.size, 8, none⟩ (.int .i64 s)).setCell ⟨w.heap.size, 9, none⟩ (.int .i64 0)).setCell ⟨w.heap.size, 10, none⟩ (.int .i64 0)).setCell ⟨w.heap.size, 11, none⟩ (.int .i64 0)) := ho.put12 (sizeN s)
  have hbz : Below w.heap.size w ((((((((((((w9.setCell ⟨w.heap.size, 0, none⟩ (.int .i64 s)).setCell ⟨w.heap.size, 1, none⟩ (.int .i64 0)).setCell ⟨w.heap.size, 2, none⟩ (.int .i64 0)).setCell ⟨w.heap.size, 3, none⟩ (.int .i64 0)).setCell ⟨w.heap.size, 4, none⟩ (.int .i64 s)).setCell ⟨w.heap.size, 5, none⟩ (.int .i64 0)).setCell ⟨w.heap.size, 6, none⟩ (.int .i64 0)).setCell ⟨w.heap.size, 7, none⟩ (.int .i64 0)).setCell ⟨w.heap.size, 8, none⟩ (.int .i64 s)).setCell ⟨w.heap.size, 9, none⟩ (.int .i64 0)).setCell ⟨w.heap.size, 10, none⟩ (.int .i64 0)).setCell ⟨w.heap.size, 11, none⟩ (.int .i64 0)) := below_set12 hbk (by omega) _ _ _ _ _ _ _ _ _ _ _ _
  obtain ⟨wz, hwz⟩ : ∃ wz, wz = ((((((((((((w9.setCell ⟨w.heap.size, 0, none⟩ (.int .i64 s)).setCell ⟨w.heap.size, 1, none⟩ (.int .i64 0)).setCell ⟨w.heap.size, 2, none⟩ (.int .i64 0)).setCell ⟨w.heap.size, 3, none⟩ (.int .i64 0)).setCell ⟨w.heap.size, 4, none⟩ (.int .i64 s)).setCell ⟨w.heap.size, 5, none⟩ (.int .i64 0)).setCell ⟨w.heap.size, 6, none⟩ (.int .i64 0)).setCell ⟨w.heap.size, 7, none⟩ (.int .i64 0)).setCell ⟨w.heap.size, 8, none⟩ (.int .i64 s)).setCell ⟨w.heap.size, 9, none⟩ (.int .i64 0)).setCell ⟨w.heap.size, 10, none⟩ (.int .i64 0)).setCell ⟨w.heap.size, 11, none⟩ (.int .i64 0)) := ⟨_, rfl⟩
  rw [← hwz] at hz hbz ⊢
  obtain ⟨z0, z1, z2, z3, z4, z5, z6, z7, z8, z9, z10, z11⟩ := hz.c12
  clear hwz
  go_wp2
  exact bodyPost_ret (v := MV (sizeN s)) (by simp [results, Try.results27, go_sem, z0, z1, z2, z3, z4, z5, z6, z7, z8, z9, z10, z11]) rfl ⟨rfl, hbz⟩


set_option maxHeartbeats 2000000 in
set_option maxRecDepth 100000 in
theorem same_any  (w : World) :
    Calls Try.prog 29 #[] w fun e w' => e = .returned (MV (sizeN 65536)) ∧ Below w.heap.size w w' := by
  go_enter Try.func29, Try.ntmps29
  have hbk : Below w.heap.size w (w.alloc (.cells #[.int .i64 0, .int .i64 0, .int .i64 0, .int .i64 0, .int .i64 0, .int .i64 0, .int .i64 0, .int .i64 0, .int .i64 0, .int .i64 0, .int .i64 0, .int .i64 0] 31)) := below_n1 _ _
  have ho : Bk w.heap.size 12 (fun _ => 0) (w.alloc (.cells #[.int .i64 0, .int .i64 0, .int .i64 0, .int .i64 0, .int .i64 0, .int .i64 0, .int .i64 0, .int .i64 0, .int .i64 0, .int .i64 0, .int .i64 0, .int .i64 0] 31)) := new12 _ _ (by simp) (fun _ => 0) _
  go_wp2_with (first | (go_at_call 27; refine (size_any _ _).mono ?_; rintro e w9 ⟨rfl, hbn⟩; have hbm := hbn; replace hbk := hbk.trans (hbm.mono hbk.size); replace ho := ho.on hbm; obtain ⟨-, -, of⟩ := id ho; obtain ⟨o0, o1, o2, o3, o4, o5, o6, o7, o8, o9, o10, o11⟩ := ho.c12))
  have hz : Bk w.heap.size 12 (sizeN 65536) ((((((((((((w9.setCell ⟨w.heap.size, 0, none⟩ (.int .i64 (sizeN 65536 0))).setCell ⟨w.heap.size, 1, none⟩ (.int .i64 (sizeN 65536 1))).setCell ⟨w.heap.size, 2, none⟩ (.int .i64 (sizeN 65536 2))).setCell ⟨w.heap.size, 3, none⟩ (.int .i64 (sizeN 65536 3))).setCell ⟨w.heap.size, 4, none⟩ (.int .i64 (sizeN 65536 4))).setCell ⟨w.heap.size, 5, none⟩ (.int .i64 (sizeN 65536 5))).setCell ⟨w.heap.size, 6, none⟩ (.int .i64 (sizeN 65536 6))).setCell ⟨w.heap.size, 7, none⟩ (.int .i64 (sizeN 65536 7))).setCell ⟨w.heap.size, 8, none⟩ (.int .i64 (sizeN 65536 8))).setCell ⟨w.heap.size, 9, none⟩ (.int .i64 (sizeN 65536 9))).setCell ⟨w.heap.size, 10, none⟩ (.int .i64 (sizeN 65536 10))).setCell ⟨w.heap.size, 11, none⟩ (.int .i64 (sizeN 65536 11))) := ho.put12 (sizeN 65536)
  have hbz : Below w.heap.size w ((((((((((((w9.setCell ⟨w.heap.size, 0, none⟩ (.int .i64 (sizeN 65536 0))).setCell ⟨w.heap.size, 1, none⟩ (.int .i64 (sizeN 65536 1))).setCell ⟨w.heap.size, 2, none⟩ (.int .i64 (sizeN 65536 2))).setCell ⟨w.heap.size, 3, none⟩ (.int .i64 (sizeN 65536 3))).setCell ⟨w.heap.size, 4, none⟩ (.int .i64 (sizeN 65536 4))).setCell ⟨w.heap.size, 5, none⟩ (.int .i64 (sizeN 65536 5))).setCell ⟨w.heap.size, 6, none⟩ (.int .i64 (sizeN 65536 6))).setCell ⟨w.heap.size, 7, none⟩ (.int .i64 (sizeN 65536 7))).setCell ⟨w.heap.size, 8, none⟩ (.int .i64 (sizeN 65536 8))).setCell ⟨w.heap.size, 9, none⟩ (.int .i64 (sizeN 65536 9))).setCell ⟨w.heap.size, 10, none⟩ (.int .i64 (sizeN 65536 10))).setCell ⟨w.heap.size, 11, none⟩ (.int .i64 (sizeN 65536 11))) := below_set12 hbk (by omega) _ _ _ _ _ _ _ _ _ _ _ _
  obtain ⟨wz, hwz⟩ : ∃ wz, wz = ((((((((((((w9.setCell ⟨w.heap.size, 0, none⟩ (.int .i64 (sizeN 65536 0))).setCell ⟨w.heap.size, 1, none⟩ (.int .i64 (sizeN 65536 1))).setCell ⟨w.heap.size, 2, none⟩ (.int .i64 (sizeN 65536 2))).setCell ⟨w.heap.size, 3, none⟩ (.int .i64 (sizeN 65536 3))).setCell ⟨w.heap.size, 4, none⟩ (.int .i64 (sizeN 65536 4))).setCell ⟨w.heap.size, 5, none⟩ (.int .i64 (sizeN 65536 5))).setCell ⟨w.heap.size, 6, none⟩ (.int .i64 (sizeN 65536 6))).setCell ⟨w.heap.size, 7, none⟩ (.int .i64 (sizeN 65536 7))).setCell ⟨w.heap.size, 8, none⟩ (.int .i64 (sizeN 65536 8))).setCell ⟨w.heap.size, 9, none⟩ (.int .i64 (sizeN 65536 9))).setCell ⟨w.heap.size, 10, none⟩ (.int .i64 (sizeN 65536 10))).setCell ⟨w.heap.size, 11, none⟩ (.int .i64 (sizeN 65536 11))) := ⟨_, rfl⟩
  rw [← hwz] at hz hbz ⊢
  obtain ⟨z0, z1, z2, z3, z4, z5, z6, z7, z8, z9, z10, z11⟩ := hz.c12
  clear hwz
  go_wp2
  exact bodyPost_ret (v := MV (sizeN 65536)) (by simp [results, Try.results29, go_sem, z0, z1, z2, z3, z4, z5, z6, z7, z8, z9, z10, z11]) rfl ⟨rfl, hbz⟩


end Go.Proofs.Ytohnjhnfhmfiiaa.Ve
