/- The contract of layer 3's matrices that turn about an axis. -/
import Derived.Test.YtohnjhnfhmfiiaaWta
namespace Go.Proofs.Ytohnjhnfhmfiiaa.Ve
open Go.RowKit Go.Proofs.Ytohnjhnfhmfiiaa Go.Proofs.Ytohnjhnfhmfiiaa.Wa Go.Proofs.Ytohnjhnfhmfiiaa.Wv

set_option maxHeartbeats 2000000 in
set_option maxRecDepth 100000 in
theorem turn_0 (t : Int) (w : World) :
    Calls Try.prog 44 #[.int .i64 0, .int .i64 t] w fun e w' => e = .returned (MV (turn0 (Pl.sin t) (Pl.cos t))) ∧ Below w.heap.size w w' := by
  have ⟨s0, s1⟩ := Pl.sin_bd t
  go_enter Try.func44, Try.ntmps44
  have hbk : Below w.heap.size w (w.alloc (.cells #[.int .i64 0, .int .i64 0, .int .i64 0, .int .i64 0, .int .i64 0, .int .i64 0, .int .i64 0, .int .i64 0, .int .i64 0, .int .i64 0, .int .i64 0, .int .i64 0] 31)) := below_n1 _ _
  have ho : Bk w.heap.size 12 (fun _ => 0) (w.alloc (.cells #[.int .i64 0, .int .i64 0, .int .i64 0, .int .i64 0, .int .i64 0, .int .i64 0, .int .i64 0, .int .i64 0, .int .i64 0, .int .i64 0, .int .i64 0, .int .i64 0] 31)) := new12 _ _ (by simp) (fun _ => 0) _
  go_upto_region 3 with (first | (go_at_call 38; refine (sin_any _ _).mono ?_; rintro e w8 ⟨rfl, rfl⟩) | (go_at_call 40; refine (cos_any _ _).mono ?_; rintro e w8 ⟨rfl, rfl⟩) | (go_at_call 29; refine (same_any _).mono ?_; rintro e w9 ⟨rfl, hbn⟩; have hbm := hbn; replace hbk := hbk.trans (hbm.mono hbk.size); replace ho := ho.on hbm))
  have HO := Lib.hid ho.lt
  have hl : Bk w9.heap.size 12 (sizeN 65536) (w9.alloc (.cells #[.int .i64 (sizeN 65536 0), .int .i64 (sizeN 65536 1), .int .i64 (sizeN 65536 2), .int .i64 (sizeN 65536 3), .int .i64 (sizeN 65536 4), .int .i64 (sizeN 65536 5), .int .i64 (sizeN 65536 6), .int .i64 (sizeN 65536 7), .int .i64 (sizeN 65536 8), .int .i64 (sizeN 65536 9), .int .i64 (sizeN 65536 10), .int .i64 (sizeN 65536 11)] 31)) := new12 _ _ rfl (sizeN 65536) _
  replace ho : Bk w.heap.size 12 (fun _ => 0) (w9.alloc (.cells #[.int .i64 (sizeN 65536 0), .int .i64 (sizeN 65536 1), .int .i64 (sizeN 65536 2), .int .i64 (sizeN 65536 3), .int .i64 (sizeN 65536 4), .int .i64 (sizeN 65536 5), .int .i64 (sizeN 65536 6), .int .i64 (sizeN 65536 7), .int .i64 (sizeN 65536 8), .int .i64 (sizeN 65536 9), .int .i64 (sizeN 65536 10), .int .i64 (sizeN 65536 11)] 31)) := ho.on (below_n1 _ _)
  replace hbk : Below w.heap.size w (w9.alloc (.cells #[.int .i64 (sizeN 65536 0), .int .i64 (sizeN 65536 1), .int .i64 (sizeN 65536 2), .int .i64 (sizeN 65536 3), .int .i64 (sizeN 65536 4), .int .i64 (sizeN 65536 5), .int .i64 (sizeN 65536 6), .int .i64 (sizeN 65536 7), .int .i64 (sizeN 65536 8), .int .i64 (sizeN 65536 9), .int .i64 (sizeN 65536 10), .int .i64 (sizeN 65536 11)] 31)) := hbk.alloc hbk.size _
  have n_ho_hl : w.heap.size ≠ w9.heap.size := Nat.ne_of_lt (show w.heap.size < w9.heap.size from HO.out)
  have hg0 : w.heap.size ≤ w9.heap.size := Nat.le_of_lt HO.out
  obtain ⟨gm, hgm⟩ : ∃ g, g = w9.heap.size := ⟨_, rfl⟩
  obtain ⟨wp, hwp⟩ : ∃ wp, wp = (w9.alloc (.cells #[.int .i64 (sizeN 65536 0), .int .i64 (sizeN 65536 1), .int .i64 (sizeN 65536 2), .int .i64 (sizeN 65536 3), .int .i64 (sizeN 65536 4), .int .i64 (sizeN 65536 5), .int .i64 (sizeN 65536 6), .int .i64 (sizeN 65536 7), .int .i64 (sizeN 65536 8), .int .i64 (sizeN 65536 9), .int .i64 (sizeN 65536 10), .int .i64 (sizeN 65536 11)] 31)) := ⟨_, rfl⟩
  rw [← hwp] at hl ho hbk ⊢
  rw [← hgm] at hl n_ho_hl hg0 ⊢
  clear hwp hgm HO
  obtain ⟨-, -, lf⟩ := id hl
  obtain ⟨l0, l1, l2, l3, l4, l5, l6, l7, l8, l9, l10, l11⟩ := hl.c12
  go_upto_region 9 with (first | (go_at_call 77; refine (new_any _ _ _ _).mono ?_; rintro e w9 ⟨rfl, hbn⟩; have hbm := hbn; replace hbk := hbk.trans (hbm.mono hbk.size); replace hl := hl.on hbm; replace ho := ho.on hbm; obtain ⟨-, -, lf⟩ := id hl; obtain ⟨l0, l1, l2, l3, l4, l5, l6, l7, l8, l9, l10, l11⟩ := hl.c12))
  have hl2 : Bk gm 12 (turn0 (Pl.sin t) (Pl.cos t)) ((((((w9.setCell ⟨gm, 3, none⟩ (.int .i64 0)).setCell ⟨gm, 4, none⟩ (.int .i64 (Pl.cos t))).setCell ⟨gm, 5, none⟩ (.int .i64 (Pl.sin t))).setCell ⟨gm, 6, none⟩ (.int .i64 0)).setCell ⟨gm, 7, none⟩ (.int .i64 (-Pl.sin t))).setCell ⟨gm, 8, none⟩ (.int .i64 (Pl.cos t))) := ((hl.put3 (i := 3) (by omega) 0 (Pl.cos t) (Pl.sin t)).put3 (i := 6) (by omega) 0 (-Pl.sin t) (Pl.cos t)).eq (fun j hj => by
    match j, hj with
    | 0, _ => rfl
    | 1, _ => rfl
    | 2, _ => rfl
    | 3, _ => rfl
    | 4, _ => rfl
    | 5, _ => rfl
    | 6, _ => rfl
    | 7, _ => rfl
    | 8, _ => rfl
    | 9, _ => rfl
    | 10, _ => rfl
    | 11, _ => rfl)
  replace ho : Bk w.heap.size 12 (fun _ => 0) ((((((w9.setCell ⟨gm, 3, none⟩ (.int .i64 0)).setCell ⟨gm, 4, none⟩ (.int .i64 (Pl.cos t))).setCell ⟨gm, 5, none⟩ (.int .i64 (Pl.sin t))).setCell ⟨gm, 6, none⟩ (.int .i64 0)).setCell ⟨gm, 7, none⟩ (.int .i64 (-Pl.sin t))).setCell ⟨gm, 8, none⟩ (.int .i64 (Pl.cos t))) := (ho.far3 n_ho_hl _ _ _).far3 n_ho_hl _ _ _
  replace hbk : Below w.heap.size w ((((((w9.setCell ⟨gm, 3, none⟩ (.int .i64 0)).setCell ⟨gm, 4, none⟩ (.int .i64 (Pl.cos t))).setCell ⟨gm, 5, none⟩ (.int .i64 (Pl.sin t))).setCell ⟨gm, 6, none⟩ (.int .i64 0)).setCell ⟨gm, 7, none⟩ (.int .i64 (-Pl.sin t))).setCell ⟨gm, 8, none⟩ (.int .i64 (Pl.cos t))) := below_set3 (below_set3 hbk hg0 _ _ _) hg0 _ _ _
  obtain ⟨wr, hwr⟩ : ∃ wr, wr = ((((((w9.setCell ⟨gm, 3, none⟩ (.int .i64 0)).setCell ⟨gm, 4, none⟩ (.int .i64 (Pl.cos t))).setCell ⟨gm, 5, none⟩ (.int .i64 (Pl.sin t))).setCell ⟨gm, 6, none⟩ (.int .i64 0)).setCell ⟨gm, 7, none⟩ (.int .i64 (-Pl.sin t))).setCell ⟨gm, 8, none⟩ (.int .i64 (Pl.cos t))) := ⟨_, rfl⟩
  rw [← hwr] at hl2 ho hbk ⊢
  clear hwr hl lf l0 l1 l2 l3 l4 l5 l6 l7 l8 l9 l10 l11
  obtain ⟨-, -, of⟩ := id ho
  obtain ⟨o0, o1, o2, o3, o4, o5, o6, o7, o8, o9, o10, o11⟩ := ho.c12
  obtain ⟨l0, l1, l2, l3, l4, l5, l6, l7, l8, l9, l10, l11⟩ := hl2.c12
  go_wp2
  have hz : Bk w.heap.size 12 (turn0 (Pl.sin t) (Pl.cos t)) ((((((((((((wr.setCell ⟨w.heap.size, 0, none⟩ (.int .i64 (turn0 (Pl.sin t) (Pl.cos t) 0))).setCell ⟨w.heap.size, 1, none⟩ (.int .i64 (turn0 (Pl.sin t) (Pl.cos t) 1))).setCell ⟨w.heap.size, 2, none⟩ (.int .i64 (turn0 (Pl.sin t) (Pl.cos t) 2))).setCell ⟨w.heap.size, 3, none⟩ (.int .i64 (turn0 (Pl.sin t) (Pl.cos t) 3))).setCell ⟨w.heap.size, 4, none⟩ (.int .i64 (turn0 (Pl.sin t) (Pl.cos t) 4))).setCell ⟨w.heap.size, 5, none⟩ (.int .i64 (turn0 (Pl.sin t) (Pl.cos t) 5))).setCell ⟨w.heap.size, 6, none⟩ (.int .i64 (turn0 (Pl.sin t) (Pl.cos t) 6))).setCell ⟨w.heap.size, 7, none⟩ (.int .i64 (turn0 (Pl.sin t) (Pl.cos t) 7))).setCell ⟨w.heap.size, 8, none⟩ (.int .i64 (turn0 (Pl.sin t) (Pl.cos t) 8))).setCell ⟨w.heap.size, 9, none⟩ (.int .i64 (turn0 (Pl.sin t) (Pl.cos t) 9))).setCell ⟨w.heap.size, 10, none⟩ (.int .i64 (turn0 (Pl.sin t) (Pl.cos t) 10))).setCell ⟨w.heap.size, 11, none⟩ (.int .i64 (turn0 (Pl.sin t) (Pl.cos t) 11))) := ho.put12 (turn0 (Pl.sin t) (Pl.cos t))
  have hbz : Below w.heap.size w ((((((((((((wr.setCell ⟨w.heap.size, 0, none⟩ (.int .i64 (turn0 (Pl.sin t) (Pl.cos t) 0))).setCell ⟨w.heap.size, 1, none⟩ (.int .i64 (turn0 (Pl.sin t) (Pl.cos t) 1))).setCell ⟨w.heap.size, 2, none⟩ (.int .i64 (turn0 (Pl.sin t) (Pl.cos t) 2))).setCell ⟨w.heap.size, 3, none⟩ (.int .i64 (turn0 (Pl.sin t) (Pl.cos t) 3))).setCell ⟨w.heap.size, 4, none⟩ (.int .i64 (turn0 (Pl.sin t) (Pl.cos t) 4))).setCell ⟨w.heap.size, 5, none⟩ (.int .i64 (turn0 (Pl.sin t) (Pl.cos t) 5))).setCell ⟨w.heap.size, 6, none⟩ (.int .i64 (turn0 (Pl.sin t) (Pl.cos t) 6))).setCell ⟨w.heap.size, 7, none⟩ (.int .i64 (turn0 (Pl.sin t) (Pl.cos t) 7))).setCell ⟨w.heap.size, 8, none⟩ (.int .i64 (turn0 (Pl.sin t) (Pl.cos t) 8))).setCell ⟨w.heap.size, 9, none⟩ (.int .i64 (turn0 (Pl.sin t) (Pl.cos t) 9))).setCell ⟨w.heap.size, 10, none⟩ (.int .i64 (turn0 (Pl.sin t) (Pl.cos t) 10))).setCell ⟨w.heap.size, 11, none⟩ (.int .i64 (turn0 (Pl.sin t) (Pl.cos t) 11))) := below_set12 hbk (by omega) _ _ _ _ _ _ _ _ _ _ _ _
  obtain ⟨wz, hwz⟩ : ∃ wz, wz = ((((((((((((wr.setCell ⟨w.heap.size, 0, none⟩ (.int .i64 (turn0 (Pl.sin t) (Pl.cos t) 0))).setCell ⟨w.heap.size, 1, none⟩ (.int .i64 (turn0 (Pl.sin t) (Pl.cos t) 1))).setCell ⟨w.heap.size, 2, none⟩ (.int .i64 (turn0 (Pl.sin t) (Pl.cos t) 2))).setCell ⟨w.heap.size, 3, none⟩ (.int .i64 (turn0 (Pl.sin t) (Pl.cos t) 3))).setCell ⟨w.heap.size, 4, none⟩ (.int .i64 (turn0 (Pl.sin t) (Pl.cos t) 4))).setCell ⟨w.heap.size, 5, none⟩ (.int .i64 (turn0 (Pl.sin t) (Pl.cos t) 5))).setCell ⟨w.heap.size, 6, none⟩ (.int .i64 (turn0 (Pl.sin t) (Pl.cos t) 6))).setCell ⟨w.heap.size, 7, none⟩ (.int .i64 (turn0 (Pl.sin t) (Pl.cos t) 7))).setCell ⟨w.heap.size, 8, none⟩ (.int .i64 (turn0 (Pl.sin t) (Pl.cos t) 8))).setCell ⟨w.heap.size, 9, none⟩ (.int .i64 (turn0 (Pl.sin t) (Pl.cos t) 9))).setCell ⟨w.heap.size, 10, none⟩ (.int .i64 (turn0 (Pl.sin t) (Pl.cos t) 10))).setCell ⟨w.heap.size, 11, none⟩ (.int .i64 (turn0 (Pl.sin t) (Pl.cos t) 11))) := ⟨_, rfl⟩
  rw [← hwz] at hz hbz ⊢
  obtain ⟨z0, z1, z2, z3, z4, z5, z6, z7, z8, z9, z10, z11⟩ := hz.c12
  clear hwz
  go_wp2
  exact bodyPost_ret (v := MV (turn0 (Pl.sin t) (Pl.cos t))) (by simp [results, Try.results44, go_sem, z0, z1, z2, z3, z4, z5, z6, z7, z8, z9, z10, z11]) rfl ⟨rfl, hbz⟩


set_option maxHeartbeats 2000000 in
set_option maxRecDepth 100000 in
theorem turn_1 (t : Int) (w : World) :
    Calls Try.prog 44 #[.int .i64 1, .int .i64 t] w fun e w' => e = .returned (MV (turn1 (Pl.sin t) (Pl.cos t))) ∧ Below w.heap.size w w' := by
  have ⟨s0, s1⟩ := Pl.sin_bd t
  go_enter Try.func44, Try.ntmps44
  have hbk : Below w.heap.size w (w.alloc (.cells #[.int .i64 0, .int .i64 0, .int .i64 0, .int .i64 0, .int .i64 0, .int .i64 0, .int .i64 0, .int .i64 0, .int .i64 0, .int .i64 0, .int .i64 0, .int .i64 0] 31)) := below_n1 _ _
  have ho : Bk w.heap.size 12 (fun _ => 0) (w.alloc (.cells #[.int .i64 0, .int .i64 0, .int .i64 0, .int .i64 0, .int .i64 0, .int .i64 0, .int .i64 0, .int .i64 0, .int .i64 0, .int .i64 0, .int .i64 0, .int .i64 0] 31)) := new12 _ _ (by simp) (fun _ => 0) _
  go_upto_region 3 with (first | (go_at_call 38; refine (sin_any _ _).mono ?_; rintro e w8 ⟨rfl, rfl⟩) | (go_at_call 40; refine (cos_any _ _).mono ?_; rintro e w8 ⟨rfl, rfl⟩) | (go_at_call 29; refine (same_any _).mono ?_; rintro e w9 ⟨rfl, hbn⟩; have hbm := hbn; replace hbk := hbk.trans (hbm.mono hbk.size); replace ho := ho.on hbm))
  have HO := Lib.hid ho.lt
  have hl : Bk w9.heap.size 12 (sizeN 65536) (w9.alloc (.cells #[.int .i64 (sizeN 65536 0), .int .i64 (sizeN 65536 1), .int .i64 (sizeN 65536 2), .int .i64 (sizeN 65536 3), .int .i64 (sizeN 65536 4), .int .i64 (sizeN 65536 5), .int .i64 (sizeN 65536 6), .int .i64 (sizeN 65536 7), .int .i64 (sizeN 65536 8), .int .i64 (sizeN 65536 9), .int .i64 (sizeN 65536 10), .int .i64 (sizeN 65536 11)] 31)) := new12 _ _ rfl (sizeN 65536) _
  replace ho : Bk w.heap.size 12 (fun _ => 0) (w9.alloc (.cells #[.int .i64 (sizeN 65536 0), .int .i64 (sizeN 65536 1), .int .i64 (sizeN 65536 2), .int .i64 (sizeN 65536 3), .int .i64 (sizeN 65536 4), .int .i64 (sizeN 65536 5), .int .i64 (sizeN 65536 6), .int .i64 (sizeN 65536 7), .int .i64 (sizeN 65536 8), .int .i64 (sizeN 65536 9), .int .i64 (sizeN 65536 10), .int .i64 (sizeN 65536 11)] 31)) := ho.on (below_n1 _ _)
  replace hbk : Below w.heap.size w (w9.alloc (.cells #[.int .i64 (sizeN 65536 0), .int .i64 (sizeN 65536 1), .int .i64 (sizeN 65536 2), .int .i64 (sizeN 65536 3), .int .i64 (sizeN 65536 4), .int .i64 (sizeN 65536 5), .int .i64 (sizeN 65536 6), .int .i64 (sizeN 65536 7), .int .i64 (sizeN 65536 8), .int .i64 (sizeN 65536 9), .int .i64 (sizeN 65536 10), .int .i64 (sizeN 65536 11)] 31)) := hbk.alloc hbk.size _
  have n_ho_hl : w.heap.size ≠ w9.heap.size := Nat.ne_of_lt (show w.heap.size < w9.heap.size from HO.out)
  have hg0 : w.heap.size ≤ w9.heap.size := Nat.le_of_lt HO.out
  obtain ⟨gm, hgm⟩ : ∃ g, g = w9.heap.size := ⟨_, rfl⟩
  obtain ⟨wp, hwp⟩ : ∃ wp, wp = (w9.alloc (.cells #[.int .i64 (sizeN 65536 0), .int .i64 (sizeN 65536 1), .int .i64 (sizeN 65536 2), .int .i64 (sizeN 65536 3), .int .i64 (sizeN 65536 4), .int .i64 (sizeN 65536 5), .int .i64 (sizeN 65536 6), .int .i64 (sizeN 65536 7), .int .i64 (sizeN 65536 8), .int .i64 (sizeN 65536 9), .int .i64 (sizeN 65536 10), .int .i64 (sizeN 65536 11)] 31)) := ⟨_, rfl⟩
  rw [← hwp] at hl ho hbk ⊢
  rw [← hgm] at hl n_ho_hl hg0 ⊢
  clear hwp hgm HO
  obtain ⟨-, -, lf⟩ := id hl
  obtain ⟨l0, l1, l2, l3, l4, l5, l6, l7, l8, l9, l10, l11⟩ := hl.c12
  go_upto_region 9 with (first | (go_at_call 77; refine (new_any _ _ _ _).mono ?_; rintro e w9 ⟨rfl, hbn⟩; have hbm := hbn; replace hbk := hbk.trans (hbm.mono hbk.size); replace hl := hl.on hbm; replace ho := ho.on hbm; obtain ⟨-, -, lf⟩ := id hl; obtain ⟨l0, l1, l2, l3, l4, l5, l6, l7, l8, l9, l10, l11⟩ := hl.c12))
  have hl2 : Bk gm 12 (turn1 (Pl.sin t) (Pl.cos t)) ((((((w9.setCell ⟨gm, 0, none⟩ (.int .i64 (Pl.cos t))).setCell ⟨gm, 1, none⟩ (.int .i64 0)).setCell ⟨gm, 2, none⟩ (.int .i64 (-Pl.sin t))).setCell ⟨gm, 6, none⟩ (.int .i64 (Pl.sin t))).setCell ⟨gm, 7, none⟩ (.int .i64 0)).setCell ⟨gm, 8, none⟩ (.int .i64 (Pl.cos t))) := ((hl.put3 (i := 0) (by omega) (Pl.cos t) 0 (-Pl.sin t)).put3 (i := 6) (by omega) (Pl.sin t) 0 (Pl.cos t)).eq (fun j hj => by
    match j, hj with
    | 0, _ => rfl
    | 1, _ => rfl
    | 2, _ => rfl
    | 3, _ => rfl
    | 4, _ => rfl
    | 5, _ => rfl
    | 6, _ => rfl
    | 7, _ => rfl
    | 8, _ => rfl
    | 9, _ => rfl
    | 10, _ => rfl
    | 11, _ => rfl)
  replace ho : Bk w.heap.size 12 (fun _ => 0) ((((((w9.setCell ⟨gm, 0, none⟩ (.int .i64 (Pl.cos t))).setCell ⟨gm, 1, none⟩ (.int .i64 0)).setCell ⟨gm, 2, none⟩ (.int .i64 (-Pl.sin t))).setCell ⟨gm, 6, none⟩ (.int .i64 (Pl.sin t))).setCell ⟨gm, 7, none⟩ (.int .i64 0)).setCell ⟨gm, 8, none⟩ (.int .i64 (Pl.cos t))) := (ho.far3 n_ho_hl _ _ _).far3 n_ho_hl _ _ _
  replace hbk : Below w.heap.size w ((((((w9.setCell ⟨gm, 0, none⟩ (.int .i64 (Pl.cos t))).setCell ⟨gm, 1, none⟩ (.int .i64 0)).setCell ⟨gm, 2, none⟩ (.int .i64 (-Pl.sin t))).setCell ⟨gm, 6, none⟩ (.int .i64 (Pl.sin t))).setCell ⟨gm, 7, none⟩ (.int .i64 0)).setCell ⟨gm, 8, none⟩ (.int .i64 (Pl.cos t))) := below_set3 (below_set3 hbk hg0 _ _ _) hg0 _ _ _
  obtain ⟨wr, hwr⟩ : ∃ wr, wr = ((((((w9.setCell ⟨gm, 0, none⟩ (.int .i64 (Pl.cos t))).setCell ⟨gm, 1, none⟩ (.int .i64 0)).setCell ⟨gm, 2, none⟩ (.int .i64 (-Pl.sin t))).setCell ⟨gm, 6, none⟩ (.int .i64 (Pl.sin t))).setCell ⟨gm, 7, none⟩ (.int .i64 0)).setCell ⟨gm, 8, none⟩ (.int .i64 (Pl.cos t))) := ⟨_, rfl⟩
  rw [← hwr] at hl2 ho hbk ⊢
  clear hwr hl lf l0 l1 l2 l3 l4 l5 l6 l7 l8 l9 l10 l11
  obtain ⟨-, -, of⟩ := id ho
  obtain ⟨o0, o1, o2, o3, o4, o5, o6, o7, o8, o9, o10, o11⟩ := ho.c12
  obtain ⟨l0, l1, l2, l3, l4, l5, l6, l7, l8, l9, l10, l11⟩ := hl2.c12
  go_wp2
  have hz : Bk w.heap.size 12 (turn1 (Pl.sin t) (Pl.cos t)) ((((((((((((wr.setCell ⟨w.heap.size, 0, none⟩ (.int .i64 (turn1 (Pl.sin t) (Pl.cos t) 0))).setCell ⟨w.heap.size, 1, none⟩ (.int .i64 (turn1 (Pl.sin t) (Pl.cos t) 1))).setCell ⟨w.heap.size, 2, none⟩ (.int .i64 (turn1 (Pl.sin t) (Pl.cos t) 2))).setCell ⟨w.heap.size, 3, none⟩ (.int .i64 (turn1 (Pl.sin t) (Pl.cos t) 3))).setCell ⟨w.heap.size, 4, none⟩ (.int .i64 (turn1 (Pl.sin t) (Pl.cos t) 4))).setCell ⟨w.heap.size, 5, none⟩ (.int .i64 (turn1 (Pl.sin t) (Pl.cos t) 5))).setCell ⟨w.heap.size, 6, none⟩ (.int .i64 (turn1 (Pl.sin t) (Pl.cos t) 6))).setCell ⟨w.heap.size, 7, none⟩ (.int .i64 (turn1 (Pl.sin t) (Pl.cos t) 7))).setCell ⟨w.heap.size, 8, none⟩ (.int .i64 (turn1 (Pl.sin t) (Pl.cos t) 8))).setCell ⟨w.heap.size, 9, none⟩ (.int .i64 (turn1 (Pl.sin t) (Pl.cos t) 9))).setCell ⟨w.heap.size, 10, none⟩ (.int .i64 (turn1 (Pl.sin t) (Pl.cos t) 10))).setCell ⟨w.heap.size, 11, none⟩ (.int .i64 (turn1 (Pl.sin t) (Pl.cos t) 11))) := ho.put12 (turn1 (Pl.sin t) (Pl.cos t))
  have hbz : Below w.heap.size w ((((((((((((wr.setCell ⟨w.heap.size, 0, none⟩ (.int .i64 (turn1 (Pl.sin t) (Pl.cos t) 0))).setCell ⟨w.heap.size, 1, none⟩ (.int .i64 (turn1 (Pl.sin t) (Pl.cos t) 1))).setCell ⟨w.heap.size, 2, none⟩ (.int .i64 (turn1 (Pl.sin t) (Pl.cos t) 2))).setCell ⟨w.heap.size, 3, none⟩ (.int .i64 (turn1 (Pl.sin t) (Pl.cos t) 3))).setCell ⟨w.heap.size, 4, none⟩ (.int .i64 (turn1 (Pl.sin t) (Pl.cos t) 4))).setCell ⟨w.heap.size, 5, none⟩ (.int .i64 (turn1 (Pl.sin t) (Pl.cos t) 5))).setCell ⟨w.heap.size, 6, none⟩ (.int .i64 (turn1 (Pl.sin t) (Pl.cos t) 6))).setCell ⟨w.heap.size, 7, none⟩ (.int .i64 (turn1 (Pl.sin t) (Pl.cos t) 7))).setCell ⟨w.heap.size, 8, none⟩ (.int .i64 (turn1 (Pl.sin t) (Pl.cos t) 8))).setCell ⟨w.heap.size, 9, none⟩ (.int .i64 (turn1 (Pl.sin t) (Pl.cos t) 9))).setCell ⟨w.heap.size, 10, none⟩ (.int .i64 (turn1 (Pl.sin t) (Pl.cos t) 10))).setCell ⟨w.heap.size, 11, none⟩ (.int .i64 (turn1 (Pl.sin t) (Pl.cos t) 11))) := below_set12 hbk (by omega) _ _ _ _ _ _ _ _ _ _ _ _
  obtain ⟨wz, hwz⟩ : ∃ wz, wz = ((((((((((((wr.setCell ⟨w.heap.size, 0, none⟩ (.int .i64 (turn1 (Pl.sin t) (Pl.cos t) 0))).setCell ⟨w.heap.size, 1, none⟩ (.int .i64 (turn1 (Pl.sin t) (Pl.cos t) 1))).setCell ⟨w.heap.size, 2, none⟩ (.int .i64 (turn1 (Pl.sin t) (Pl.cos t) 2))).setCell ⟨w.heap.size, 3, none⟩ (.int .i64 (turn1 (Pl.sin t) (Pl.cos t) 3))).setCell ⟨w.heap.size, 4, none⟩ (.int .i64 (turn1 (Pl.sin t) (Pl.cos t) 4))).setCell ⟨w.heap.size, 5, none⟩ (.int .i64 (turn1 (Pl.sin t) (Pl.cos t) 5))).setCell ⟨w.heap.size, 6, none⟩ (.int .i64 (turn1 (Pl.sin t) (Pl.cos t) 6))).setCell ⟨w.heap.size, 7, none⟩ (.int .i64 (turn1 (Pl.sin t) (Pl.cos t) 7))).setCell ⟨w.heap.size, 8, none⟩ (.int .i64 (turn1 (Pl.sin t) (Pl.cos t) 8))).setCell ⟨w.heap.size, 9, none⟩ (.int .i64 (turn1 (Pl.sin t) (Pl.cos t) 9))).setCell ⟨w.heap.size, 10, none⟩ (.int .i64 (turn1 (Pl.sin t) (Pl.cos t) 10))).setCell ⟨w.heap.size, 11, none⟩ (.int .i64 (turn1 (Pl.sin t) (Pl.cos t) 11))) := ⟨_, rfl⟩
  rw [← hwz] at hz hbz ⊢
  obtain ⟨z0, z1, z2, z3, z4, z5, z6, z7, z8, z9, z10, z11⟩ := hz.c12
  clear hwz
  go_wp2
  exact bodyPost_ret (v := MV (turn1 (Pl.sin t) (Pl.cos t))) (by simp [results, Try.results44, go_sem, z0, z1, z2, z3, z4, z5, z6, z7, z8, z9, z10, z11]) rfl ⟨rfl, hbz⟩


set_option maxHeartbeats 2000000 in
set_option maxRecDepth 100000 in
theorem turn_2 (a t : Int) (h0 : ¬ a = 0) (h1 : ¬ a = 1) (w : World) :
    Calls Try.prog 44 #[.int .i64 a, .int .i64 t] w fun e w' => e = .returned (MV (turn2 (Pl.sin t) (Pl.cos t))) ∧ Below w.heap.size w w' := by
  have ⟨s0, s1⟩ := Pl.sin_bd t
  go_enter Try.func44, Try.ntmps44
  have hbk : Below w.heap.size w (w.alloc (.cells #[.int .i64 0, .int .i64 0, .int .i64 0, .int .i64 0, .int .i64 0, .int .i64 0, .int .i64 0, .int .i64 0, .int .i64 0, .int .i64 0, .int .i64 0, .int .i64 0] 31)) := below_n1 _ _
  have ho : Bk w.heap.size 12 (fun _ => 0) (w.alloc (.cells #[.int .i64 0, .int .i64 0, .int .i64 0, .int .i64 0, .int .i64 0, .int .i64 0, .int .i64 0, .int .i64 0, .int .i64 0, .int .i64 0, .int .i64 0, .int .i64 0] 31)) := new12 _ _ (by simp) (fun _ => 0) _
  go_upto_region 3 with (first | (go_at_call 38; refine (sin_any _ _).mono ?_; rintro e w8 ⟨rfl, rfl⟩) | (go_at_call 40; refine (cos_any _ _).mono ?_; rintro e w8 ⟨rfl, rfl⟩) | (go_at_call 29; refine (same_any _).mono ?_; rintro e w9 ⟨rfl, hbn⟩; have hbm := hbn; replace hbk := hbk.trans (hbm.mono hbk.size); replace ho := ho.on hbm))
  have HO := Lib.hid ho.lt
  have hl : Bk w9.heap.size 12 (sizeN 65536) (w9.alloc (.cells #[.int .i64 (sizeN 65536 0), .int .i64 (sizeN 65536 1), .int .i64 (sizeN 65536 2), .int .i64 (sizeN 65536 3), .int .i64 (sizeN 65536 4), .int .i64 (sizeN 65536 5), .int .i64 (sizeN 65536 6), .int .i64 (sizeN 65536 7), .int .i64 (sizeN 65536 8), .int .i64 (sizeN 65536 9), .int .i64 (sizeN 65536 10), .int .i64 (sizeN 65536 11)] 31)) := new12 _ _ rfl (sizeN 65536) _
  replace ho : Bk w.heap.size 12 (fun _ => 0) (w9.alloc (.cells #[.int .i64 (sizeN 65536 0), .int .i64 (sizeN 65536 1), .int .i64 (sizeN 65536 2), .int .i64 (sizeN 65536 3), .int .i64 (sizeN 65536 4), .int .i64 (sizeN 65536 5), .int .i64 (sizeN 65536 6), .int .i64 (sizeN 65536 7), .int .i64 (sizeN 65536 8), .int .i64 (sizeN 65536 9), .int .i64 (sizeN 65536 10), .int .i64 (sizeN 65536 11)] 31)) := ho.on (below_n1 _ _)
  replace hbk : Below w.heap.size w (w9.alloc (.cells #[.int .i64 (sizeN 65536 0), .int .i64 (sizeN 65536 1), .int .i64 (sizeN 65536 2), .int .i64 (sizeN 65536 3), .int .i64 (sizeN 65536 4), .int .i64 (sizeN 65536 5), .int .i64 (sizeN 65536 6), .int .i64 (sizeN 65536 7), .int .i64 (sizeN 65536 8), .int .i64 (sizeN 65536 9), .int .i64 (sizeN 65536 10), .int .i64 (sizeN 65536 11)] 31)) := hbk.alloc hbk.size _
  have n_ho_hl : w.heap.size ≠ w9.heap.size := Nat.ne_of_lt (show w.heap.size < w9.heap.size from HO.out)
  have hg0 : w.heap.size ≤ w9.heap.size := Nat.le_of_lt HO.out
  obtain ⟨gm, hgm⟩ : ∃ g, g = w9.heap.size := ⟨_, rfl⟩
  obtain ⟨wp, hwp⟩ : ∃ wp, wp = (w9.alloc (.cells #[.int .i64 (sizeN 65536 0), .int .i64 (sizeN 65536 1), .int .i64 (sizeN 65536 2), .int .i64 (sizeN 65536 3), .int .i64 (sizeN 65536 4), .int .i64 (sizeN 65536 5), .int .i64 (sizeN 65536 6), .int .i64 (sizeN 65536 7), .int .i64 (sizeN 65536 8), .int .i64 (sizeN 65536 9), .int .i64 (sizeN 65536 10), .int .i64 (sizeN 65536 11)] 31)) := ⟨_, rfl⟩
  rw [← hwp] at hl ho hbk ⊢
  rw [← hgm] at hl n_ho_hl hg0 ⊢
  clear hwp hgm HO
  obtain ⟨-, -, lf⟩ := id hl
  obtain ⟨l0, l1, l2, l3, l4, l5, l6, l7, l8, l9, l10, l11⟩ := hl.c12
  go_upto_region 9 with (first | (go_at_call 77; refine (new_any _ _ _ _).mono ?_; rintro e w9 ⟨rfl, hbn⟩; have hbm := hbn; replace hbk := hbk.trans (hbm.mono hbk.size); replace hl := hl.on hbm; replace ho := ho.on hbm; obtain ⟨-, -, lf⟩ := id hl; obtain ⟨l0, l1, l2, l3, l4, l5, l6, l7, l8, l9, l10, l11⟩ := hl.c12))
  have hl2 : Bk gm 12 (turn2 (Pl.sin t) (Pl.cos t)) ((((((w9.setCell ⟨gm, 0, none⟩ (.int .i64 (Pl.cos t))).setCell ⟨gm, 1, none⟩ (.int .i64 (Pl.sin t))).setCell ⟨gm, 2, none⟩ (.int .i64 0)).setCell ⟨gm, 3, none⟩ (.int .i64 (-Pl.sin t))).setCell ⟨gm, 4, none⟩ (.int .i64 (Pl.cos t))).setCell ⟨gm, 5, none⟩ (.int .i64 0)) := ((hl.put3 (i := 0) (by omega) (Pl.cos t) (Pl.sin t) 0).put3 (i := 3) (by omega) (-Pl.sin t) (Pl.cos t) 0).eq (fun j hj => by
    match j, hj with
    | 0, _ => rfl
    | 1, _ => rfl
    | 2, _ => rfl
    | 3, _ => rfl
    | 4, _ => rfl
    | 5, _ => rfl
    | 6, _ => rfl
    | 7, _ => rfl
    | 8, _ => rfl
    | 9, _ => rfl
    | 10, _ => rfl
    | 11, _ => rfl)
  replace ho : Bk w.heap.size 12 (fun _ => 0) ((((((w9.setCell ⟨gm, 0, none⟩ (.int .i64 (Pl.cos t))).setCell ⟨gm, 1, none⟩ (.int .i64 (Pl.sin t))).setCell ⟨gm, 2, none⟩ (.int .i64 0)).setCell ⟨gm, 3, none⟩ (.int .i64 (-Pl.sin t))).setCell ⟨gm, 4, none⟩ (.int .i64 (Pl.cos t))).setCell ⟨gm, 5, none⟩ (.int .i64 0)) := (ho.far3 n_ho_hl _ _ _).far3 n_ho_hl _ _ _
  replace hbk : Below w.heap.size w ((((((w9.setCell ⟨gm, 0, none⟩ (.int .i64 (Pl.cos t))).setCell ⟨gm, 1, none⟩ (.int .i64 (Pl.sin t))).setCell ⟨gm, 2, none⟩ (.int .i64 0)).setCell ⟨gm, 3, none⟩ (.int .i64 (-Pl.sin t))).setCell ⟨gm, 4, none⟩ (.int .i64 (Pl.cos t))).setCell ⟨gm, 5, none⟩ (.int .i64 0)) := below_set3 (below_set3 hbk hg0 _ _ _) hg0 _ _ _
  obtain ⟨wr, hwr⟩ : ∃ wr, wr = ((((((w9.setCell ⟨gm, 0, none⟩ (.int .i64 (Pl.cos t))).setCell ⟨gm, 1, none⟩ (.int .i64 (Pl.sin t))).setCell ⟨gm, 2, none⟩ (.int .i64 0)).setCell ⟨gm, 3, none⟩ (.int .i64 (-Pl.sin t))).setCell ⟨gm, 4, none⟩ (.int .i64 (Pl.cos t))).setCell ⟨gm, 5, none⟩ (.int .i64 0)) := ⟨_, rfl⟩
  rw [← hwr] at hl2 ho hbk ⊢
  clear hwr hl lf l0 l1 l2 l3 l4 l5 l6 l7 l8 l9 l10 l11
  obtain ⟨-, -, of⟩ := id ho
  obtain ⟨o0, o1, o2, o3, o4, o5, o6, o7, o8, o9, o10, o11⟩ := ho.c12
  obtain ⟨l0, l1, l2, l3, l4, l5, l6, l7, l8, l9, l10, l11⟩ := hl2.c12
  go_wp2
  have hz : Bk w.heap.size 12 (turn2 (Pl.sin t) (Pl.cos t)) ((((((((((((wr.setCell ⟨w.heap.size, 0, none⟩ (.int .i64 (turn2 (Pl.sin t) (Pl.cos t) 0))).setCell ⟨w.heap.size, 1, none⟩ (.int .i64 (turn2 (Pl.sin t) (Pl.cos t) 1))).setCell ⟨w.heap.size, 2, none⟩ (.int .i64 (turn2 (Pl.sin t) (Pl.cos t) 2))).setCell ⟨w.heap.size, 3, none⟩ (.int .i64 (turn2 (Pl.sin t) (Pl.cos t) 3))).setCell ⟨w.heap.size, 4, none⟩ (.int .i64 (turn2 (Pl.sin t) (Pl.cos t) 4))).setCell ⟨w.heap.size, 5, none⟩ (.int .i64 (turn2 (Pl.sin t) (Pl.cos t) 5))).setCell ⟨w.heap.size, 6, none⟩ (.int .i64 (turn2 (Pl.sin t) (Pl.cos t) 6))).setCell ⟨w.heap.size, 7, none⟩ (.int .i64 (turn2 (Pl.sin t) (Pl.cos t) 7))).setCell ⟨w.heap.size, 8, none⟩ (.int .i64 (turn2 (Pl.sin t) (Pl.cos t) 8))).setCell ⟨w.heap.size, 9, none⟩ (.int .i64 (turn2 (Pl.sin t) (Pl.cos t) 9))).setCell ⟨w.heap.size, 10, none⟩ (.int .i64 (turn2 (Pl.sin t) (Pl.cos t) 10))).setCell ⟨w.heap.size, 11, none⟩ (.int .i64 (turn2 (Pl.sin t) (Pl.cos t) 11))) := ho.put12 (turn2 (Pl.sin t) (Pl.cos t))
  have hbz : Below w.heap.size w ((((((((((((wr.setCell ⟨w.heap.size, 0, none⟩ (.int .i64 (turn2 (Pl.sin t) (Pl.cos t) 0))).setCell ⟨w.heap.size, 1, none⟩ (.int .i64 (turn2 (Pl.sin t) (Pl.cos t) 1))).setCell ⟨w.heap.size, 2, none⟩ (.int .i64 (turn2 (Pl.sin t) (Pl.cos t) 2))).setCell ⟨w.heap.size, 3, none⟩ (.int .i64 (turn2 (Pl.sin t) (Pl.cos t) 3))).setCell ⟨w.heap.size, 4, none⟩ (.int .i64 (turn2 (Pl.sin t) (Pl.cos t) 4))).setCell ⟨w.heap.size, 5, none⟩ (.int .i64 (turn2 (Pl.sin t) (Pl.cos t) 5))).setCell ⟨w.heap.size, 6, none⟩ (.int .i64 (turn2 (Pl.sin t) (Pl.cos t) 6))).setCell ⟨w.heap.size, 7, none⟩ (.int .i64 (turn2 (Pl.sin t) (Pl.cos t) 7))).setCell ⟨w.heap.size, 8, none⟩ (.int .i64 (turn2 (Pl.sin t) (Pl.cos t) 8))).setCell ⟨w.heap.size, 9, none⟩ (.int .i64 (turn2 (Pl.sin t) (Pl.cos t) 9))).setCell ⟨w.heap.size, 10, none⟩ (.int .i64 (turn2 (Pl.sin t) (Pl.cos t) 10))).setCell ⟨w.heap.size, 11, none⟩ (.int .i64 (turn2 (Pl.sin t) (Pl.cos t) 11))) := below_set12 hbk (by omega) _ _ _ _ _ _ _ _ _ _ _ _
  obtain ⟨wz, hwz⟩ : ∃ wz, wz = ((((((((((((wr.setCell ⟨w.heap.size, 0, none⟩ (.int .i64 (turn2 (Pl.sin t) (Pl.cos t) 0))).setCell ⟨w.heap.size, 1, none⟩ (.int .i64 (turn2 (Pl.sin t) (Pl.cos t) 1))).setCell ⟨w.heap.size, 2, none⟩ (.int .i64 (turn2 (Pl.sin t) (Pl.cos t) 2))).setCell ⟨w.heap.size, 3, none⟩ (.int .i64 (turn2 (Pl.sin t) (Pl.cos t) 3))).setCell ⟨w.heap.size, 4, none⟩ (.int .i64 (turn2 (Pl.sin t) (Pl.cos t) 4))).setCell ⟨w.heap.size, 5, none⟩ (.int .i64 (turn2 (Pl.sin t) (Pl.cos t) 5))).setCell ⟨w.heap.size, 6, none⟩ (.int .i64 (turn2 (Pl.sin t) (Pl.cos t) 6))).setCell ⟨w.heap.size, 7, none⟩ (.int .i64 (turn2 (Pl.sin t) (Pl.cos t) 7))).setCell ⟨w.heap.size, 8, none⟩ (.int .i64 (turn2 (Pl.sin t) (Pl.cos t) 8))).setCell ⟨w.heap.size, 9, none⟩ (.int .i64 (turn2 (Pl.sin t) (Pl.cos t) 9))).setCell ⟨w.heap.size, 10, none⟩ (.int .i64 (turn2 (Pl.sin t) (Pl.cos t) 10))).setCell ⟨w.heap.size, 11, none⟩ (.int .i64 (turn2 (Pl.sin t) (Pl.cos t) 11))) := ⟨_, rfl⟩
  rw [← hwz] at hz hbz ⊢
  obtain ⟨z0, z1, z2, z3, z4, z5, z6, z7, z8, z9, z10, z11⟩ := hz.c12
  clear hwz
  go_wp2
  exact bodyPost_ret (v := MV (turn2 (Pl.sin t) (Pl.cos t))) (by simp [results, Try.results44, go_sem, z0, z1, z2, z3, z4, z5, z6, z7, z8, z9, z10, z11]) rfl ⟨rfl, hbz⟩


theorem turn_any (a t : Int) (w : World) : Calls Try.prog 44 #[.int .i64 a, .int .i64 t] w fun e w' => e = .returned (MV (turnN a t)) ∧ Below w.heap.size w w' := by
  unfold turnN
  by_cases h0 : a = 0
  · subst h0; rw [if_pos rfl]; exact turn_0 t w
  · by_cases h1 : a = 1
    · subst h1; rw [if_neg h0, if_pos rfl]; exact turn_1 t w
    · rw [if_neg h0, if_neg h1]; exact turn_2 a t h0 h1 w

end Go.Proofs.Ytohnjhnfhmfiiaa.Ve
