/- The contract of the document's matrix behind another one. -/
import Derived.Test.YtohnjhnfhmfiiaaVmp
namespace Go.Proofs.Ytohnjhnfhmfiiaa.Ve
open Go.RowKit Go.Proofs.Ytohnjhnfhmfiiaa Go.Proofs.Ytohnjhnfhmfiiaa.Wa

/-- the columns that are made so far -/
def outN (k : Nat) (m n : Nat → Int) (j : Nat) : Int := if j < 3 * k then timesN m n j else 0

theorem Bk.out0 {g : Nat} {m n : Nat → Int} {w : World} (h : Bk g 12 (outN 0 m n) w) : Bk g 12 (outN 1 m n) (((w.setCell ⟨g, 0, none⟩ (.int .i64 (dirN m (n 0) (n 1) (n 2) 0))).setCell ⟨g, 1, none⟩ (.int .i64 (dirN m (n 0) (n 1) (n 2) 1))).setCell ⟨g, 2, none⟩ (.int .i64 (dirN m (n 0) (n 1) (n 2) 2))) :=
  (h.put3 (i := 0) (by omega) (dirN m (n 0) (n 1) (n 2) 0) (dirN m (n 0) (n 1) (n 2) 1) (dirN m (n 0) (n 1) (n 2) 2)).eq fun j hj => by
    match j, hj with
    | 0, _ => simp [outN, timesN]
    | 1, _ => simp [outN, timesN]
    | 2, _ => simp [outN, timesN]
    | 3, _ => simp [outN]
    | 4, _ => simp [outN]
    | 5, _ => simp [outN]
    | 6, _ => simp [outN]
    | 7, _ => simp [outN]
    | 8, _ => simp [outN]
    | 9, _ => simp [outN]
    | 10, _ => simp [outN]
    | 11, _ => simp [outN]

theorem Bk.out1 {g : Nat} {m n : Nat → Int} {w : World} (h : Bk g 12 (outN 1 m n) w) : Bk g 12 (outN 2 m n) (((w.setCell ⟨g, 3, none⟩ (.int .i64 (dirN m (n 3) (n 4) (n 5) 0))).setCell ⟨g, 4, none⟩ (.int .i64 (dirN m (n 3) (n 4) (n 5) 1))).setCell ⟨g, 5, none⟩ (.int .i64 (dirN m (n 3) (n 4) (n 5) 2))) :=
  (h.put3 (i := 3) (by omega) (dirN m (n 3) (n 4) (n 5) 0) (dirN m (n 3) (n 4) (n 5) 1) (dirN m (n 3) (n 4) (n 5) 2)).eq fun j hj => by
    match j, hj with
    | 0, _ => simp [outN]
    | 1, _ => simp [outN]
    | 2, _ => simp [outN]
    | 3, _ => simp [outN, timesN]
    | 4, _ => simp [outN, timesN]
    | 5, _ => simp [outN, timesN]
    | 6, _ => simp [outN]
    | 7, _ => simp [outN]
    | 8, _ => simp [outN]
    | 9, _ => simp [outN]
    | 10, _ => simp [outN]
    | 11, _ => simp [outN]

theorem Bk.out2 {g : Nat} {m n : Nat → Int} {w : World} (h : Bk g 12 (outN 2 m n) w) : Bk g 12 (outN 3 m n) (((w.setCell ⟨g, 6, none⟩ (.int .i64 (dirN m (n 6) (n 7) (n 8) 0))).setCell ⟨g, 7, none⟩ (.int .i64 (dirN m (n 6) (n 7) (n 8) 1))).setCell ⟨g, 8, none⟩ (.int .i64 (dirN m (n 6) (n 7) (n 8) 2))) :=
  (h.put3 (i := 6) (by omega) (dirN m (n 6) (n 7) (n 8) 0) (dirN m (n 6) (n 7) (n 8) 1) (dirN m (n 6) (n 7) (n 8) 2)).eq fun j hj => by
    match j, hj with
    | 0, _ => simp [outN]
    | 1, _ => simp [outN]
    | 2, _ => simp [outN]
    | 3, _ => simp [outN]
    | 4, _ => simp [outN]
    | 5, _ => simp [outN]
    | 6, _ => simp [outN, timesN]
    | 7, _ => simp [outN, timesN]
    | 8, _ => simp [outN, timesN]
    | 9, _ => simp [outN]
    | 10, _ => simp [outN]
    | 11, _ => simp [outN]

theorem Bk.out3 {g : Nat} {m n : Nat → Int} {w : World} (h : Bk g 12 (outN 3 m n) w) : Bk g 12 (timesN m n) (((w.setCell ⟨g, 9, none⟩ (.int .i64 (pointN m (n 9) (n 10) (n 11) 0))).setCell ⟨g, 10, none⟩ (.int .i64 (pointN m (n 9) (n 10) (n 11) 1))).setCell ⟨g, 11, none⟩ (.int .i64 (pointN m (n 9) (n 10) (n 11) 2))) :=
  (h.put3 (i := 9) (by omega) (pointN m (n 9) (n 10) (n 11) 0) (pointN m (n 9) (n 10) (n 11) 1) (pointN m (n 9) (n 10) (n 11) 2)).eq fun j hj => by
    match j, hj with
    | 0, _ => simp [outN]
    | 1, _ => simp [outN]
    | 2, _ => simp [outN]
    | 3, _ => simp [outN]
    | 4, _ => simp [outN]
    | 5, _ => simp [outN]
    | 6, _ => simp [outN]
    | 7, _ => simp [outN]
    | 8, _ => simp [outN]
    | 9, _ => simp [timesN]
    | 10, _ => simp [timesN]
    | 11, _ => simp [timesN]

set_option maxHeartbeats 4000000 in
set_option maxRecDepth 100000 in
theorem rtimes_any (m n : Nat → Int) (w : World) :
    Calls Try.prog 24 #[MV m, MV n] w fun e w' => e = .returned (MV (timesN m n)) ∧ Below w.heap.size w w' := by
  have n_hm_hs : w.heap.size ≠ (w.heap.size + 1 + 1 + 1) := by omega
  have n_hn_hs : (w.heap.size + 1) ≠ (w.heap.size + 1 + 1 + 1) := by omega
  have n_ho_hs : (w.heap.size + 2) ≠ (w.heap.size + 1 + 1 + 1) := by omega
  go_enter Try.func24, Try.ntmps24
  go_wp2
  obtain ⟨wq, hwq⟩ : ∃ wq, wq = ((((w.alloc (.cells #[.int .i64 (m 0), .int .i64 (m 1), .int .i64 (m 2), .int .i64 (m 3), .int .i64 (m 4), .int .i64 (m 5), .int .i64 (m 6), .int .i64 (m 7), .int .i64 (m 8), .int .i64 (m 9), .int .i64 (m 10), .int .i64 (m 11)] 26)).alloc (.cells #[.int .i64 (n 0), .int .i64 (n 1), .int .i64 (n 2), .int .i64 (n 3), .int .i64 (n 4), .int .i64 (n 5), .int .i64 (n 6), .int .i64 (n 7), .int .i64 (n 8), .int .i64 (n 9), .int .i64 (n 10), .int .i64 (n 11)] 26)).alloc (.cells #[.int .i64 0, .int .i64 0, .int .i64 0, .int .i64 0, .int .i64 0, .int .i64 0, .int .i64 0, .int .i64 0, .int .i64 0, .int .i64 0, .int .i64 0, .int .i64 0] 26)).alloc (.cells #[.int .i64 0, .int .i64 0, .int .i64 0, .int .i64 0, .int .i64 0, .int .i64 0, .int .i64 0, .int .i64 0, .int .i64 0, .int .i64 0, .int .i64 0, .int .i64 0] 26)) := ⟨_, rfl⟩
  rw [← hwq]
  have hm : Bk w.heap.size 12 m wq := by subst hwq; exact ((new12 _ w.heap.size (by simp) m _).on (below_n3 _ _ _ _))
  have hn : Bk (w.heap.size + 1) 12 n wq := by subst hwq; exact ((new12 _ (w.heap.size + 1) (by simp) n _).on (below_n2 _ _ _))
  have ho : Bk (w.heap.size + 2) 12 ((fun _ => 0)) wq := by subst hwq; exact ((new12 _ (w.heap.size + 2) (by simp) ((fun _ => 0)) _).on (below_n1 _ _))
  have hs : Bk (w.heap.size + 1 + 1 + 1) 12 ((fun _ => 0)) wq := by subst hwq; exact (new12 _ (w.heap.size + 1 + 1 + 1) (by simp) ((fun _ => 0)) _)
  have hbk : Below w.heap.size w wq := by subst hwq; exact (below_n4 w _ _ _ _)
  clear hwq
  replace hs : Bk (w.heap.size + 1 + 1 + 1) 12 (outN 0 m n) wq := hs.eq (fun j _ => by simp [outN])
  refine wp_loop_rounds 4 ?_
  rw [rounds_succ]
  go_wp2_with fail
  replace hm := hm.on (Below.refl _ _).drew
  replace hn := hn.on (Below.refl _ _).drew
  replace ho := ho.on (Below.refl _ _).drew
  replace hs := hs.on (Below.refl _ _).drew
  replace hbk := hbk.drew
  go_region_held3 (fun w' => (w'.cell? ⟨w.heap.size, 0, none⟩ = some (.int .i64 (m 0)) ∧ w'.cell? ⟨w.heap.size, 1, none⟩ = some (.int .i64 (m 1)) ∧ w'.cell? ⟨w.heap.size, 2, none⟩ = some (.int .i64 (m 2)) ∧ w'.cell? ⟨w.heap.size, 3, none⟩ = some (.int .i64 (m 3)) ∧ w'.cell? ⟨w.heap.size, 4, none⟩ = some (.int .i64 (m 4)) ∧ w'.cell? ⟨w.heap.size, 5, none⟩ = some (.int .i64 (m 5)) ∧ w'.cell? ⟨w.heap.size, 6, none⟩ = some (.int .i64 (m 6)) ∧ w'.cell? ⟨w.heap.size, 7, none⟩ = some (.int .i64 (m 7)) ∧ w'.cell? ⟨w.heap.size, 8, none⟩ = some (.int .i64 (m 8)) ∧ w'.cell? ⟨w.heap.size, 9, none⟩ = some (.int .i64 (m 9)) ∧ w'.cell? ⟨w.heap.size, 10, none⟩ = some (.int .i64 (m 10)) ∧ w'.cell? ⟨w.heap.size, 11, none⟩ = some (.int .i64 (m 11))) ∧ (w'.cell? ⟨(w.heap.size + 1), 0, none⟩ = some (.int .i64 (n 0)) ∧ w'.cell? ⟨(w.heap.size + 1), 1, none⟩ = some (.int .i64 (n 1)) ∧ w'.cell? ⟨(w.heap.size + 1), 2, none⟩ = some (.int .i64 (n 2)) ∧ w'.cell? ⟨(w.heap.size + 1), 3, none⟩ = some (.int .i64 (n 3)) ∧ w'.cell? ⟨(w.heap.size + 1), 4, none⟩ = some (.int .i64 (n 4)) ∧ w'.cell? ⟨(w.heap.size + 1), 5, none⟩ = some (.int .i64 (n 5)) ∧ w'.cell? ⟨(w.heap.size + 1), 6, none⟩ = some (.int .i64 (n 6)) ∧ w'.cell? ⟨(w.heap.size + 1), 7, none⟩ = some (.int .i64 (n 7)) ∧ w'.cell? ⟨(w.heap.size + 1), 8, none⟩ = some (.int .i64 (n 8)) ∧ w'.cell? ⟨(w.heap.size + 1), 9, none⟩ = some (.int .i64 (n 9)) ∧ w'.cell? ⟨(w.heap.size + 1), 10, none⟩ = some (.int .i64 (n 10)) ∧ w'.cell? ⟨(w.heap.size + 1), 11, none⟩ = some (.int .i64 (n 11)))) (first | (with_reducible exact ⟨hm.c12, hn.c12⟩) | (with_reducible exact ⟨(hm.far3 n_hm_hs _ _ _).c12, (hn.far3 n_hn_hs _ _ _).c12⟩)) (first | (go_at_call 19; refine (rdir_any m _ _ _ _).mono ?_; rintro e w9 ⟨rfl, hbn⟩; have hbm := hbn; replace hbk := hbk.trans (hbm.mono hbk.size); replace hm := hm.on hbm; replace hn := hn.on hbm; replace ho := ho.on hbm; replace hs := hs.on hbm; obtain ⟨-, -, sf⟩ := id hs; obtain ⟨s0, s1, s2, s3, s4, s5, s6, s7, s8, s9, s10, s11⟩ := hs.c12))
  replace hm : Bk w.heap.size 12 m (((w9.setCell ⟨(w.heap.size + 1 + 1 + 1), 0, none⟩ (.int .i64 (dirN m (n 0) (n 1) (n 2) 0))).setCell ⟨(w.heap.size + 1 + 1 + 1), 1, none⟩ (.int .i64 (dirN m (n 0) (n 1) (n 2) 1))).setCell ⟨(w.heap.size + 1 + 1 + 1), 2, none⟩ (.int .i64 (dirN m (n 0) (n 1) (n 2) 2))) := hm.far3 n_hm_hs _ _ _
  replace hn : Bk (w.heap.size + 1) 12 n (((w9.setCell ⟨(w.heap.size + 1 + 1 + 1), 0, none⟩ (.int .i64 (dirN m (n 0) (n 1) (n 2) 0))).setCell ⟨(w.heap.size + 1 + 1 + 1), 1, none⟩ (.int .i64 (dirN m (n 0) (n 1) (n 2) 1))).setCell ⟨(w.heap.size + 1 + 1 + 1), 2, none⟩ (.int .i64 (dirN m (n 0) (n 1) (n 2) 2))) := hn.far3 n_hn_hs _ _ _
  replace ho : Bk (w.heap.size + 2) 12 (fun _ => 0) (((w9.setCell ⟨(w.heap.size + 1 + 1 + 1), 0, none⟩ (.int .i64 (dirN m (n 0) (n 1) (n 2) 0))).setCell ⟨(w.heap.size + 1 + 1 + 1), 1, none⟩ (.int .i64 (dirN m (n 0) (n 1) (n 2) 1))).setCell ⟨(w.heap.size + 1 + 1 + 1), 2, none⟩ (.int .i64 (dirN m (n 0) (n 1) (n 2) 2))) := ho.far3 n_ho_hs _ _ _
  replace hs : Bk (w.heap.size + 1 + 1 + 1) 12 (outN 1 m n) (((w9.setCell ⟨(w.heap.size + 1 + 1 + 1), 0, none⟩ (.int .i64 (dirN m (n 0) (n 1) (n 2) 0))).setCell ⟨(w.heap.size + 1 + 1 + 1), 1, none⟩ (.int .i64 (dirN m (n 0) (n 1) (n 2) 1))).setCell ⟨(w.heap.size + 1 + 1 + 1), 2, none⟩ (.int .i64 (dirN m (n 0) (n 1) (n 2) 2))) := hs.out0
  replace hbk : Below w.heap.size w (((w9.setCell ⟨(w.heap.size + 1 + 1 + 1), 0, none⟩ (.int .i64 (dirN m (n 0) (n 1) (n 2) 0))).setCell ⟨(w.heap.size + 1 + 1 + 1), 1, none⟩ (.int .i64 (dirN m (n 0) (n 1) (n 2) 1))).setCell ⟨(w.heap.size + 1 + 1 + 1), 2, none⟩ (.int .i64 (dirN m (n 0) (n 1) (n 2) 2))) := below_set3 hbk (by omega) _ _ _
  obtain ⟨w20, hwz⟩ : ∃ wz, wz = (((w9.setCell ⟨(w.heap.size + 1 + 1 + 1), 0, none⟩ (.int .i64 (dirN m (n 0) (n 1) (n 2) 0))).setCell ⟨(w.heap.size + 1 + 1 + 1), 1, none⟩ (.int .i64 (dirN m (n 0) (n 1) (n 2) 1))).setCell ⟨(w.heap.size + 1 + 1 + 1), 2, none⟩ (.int .i64 (dirN m (n 0) (n 1) (n 2) 2))) := ⟨_, rfl⟩
  rw [← hwz] at hm hn ho hs hbk ⊢
  clear hwz sf s0 s1 s2 s3 s4 s5 s6 s7 s8 s9 s10 s11
  go_wp2
  rw [rounds_succ]
  go_wp2_with fail
  replace hm := hm.on (Below.refl _ _).drew
  replace hn := hn.on (Below.refl _ _).drew
  replace ho := ho.on (Below.refl _ _).drew
  replace hs := hs.on (Below.refl _ _).drew
  replace hbk := hbk.drew
  go_region_held3 (fun w' => (w'.cell? ⟨w.heap.size, 0, none⟩ = some (.int .i64 (m 0)) ∧ w'.cell? ⟨w.heap.size, 1, none⟩ = some (.int .i64 (m 1)) ∧ w'.cell? ⟨w.heap.size, 2, none⟩ = some (.int .i64 (m 2)) ∧ w'.cell? ⟨w.heap.size, 3, none⟩ = some (.int .i64 (m 3)) ∧ w'.cell? ⟨w.heap.size, 4, none⟩ = some (.int .i64 (m 4)) ∧ w'.cell? ⟨w.heap.size, 5, none⟩ = some (.int .i64 (m 5)) ∧ w'.cell? ⟨w.heap.size, 6, none⟩ = some (.int .i64 (m 6)) ∧ w'.cell? ⟨w.heap.size, 7, none⟩ = some (.int .i64 (m 7)) ∧ w'.cell? ⟨w.heap.size, 8, none⟩ = some (.int .i64 (m 8)) ∧ w'.cell? ⟨w.heap.size, 9, none⟩ = some (.int .i64 (m 9)) ∧ w'.cell? ⟨w.heap.size, 10, none⟩ = some (.int .i64 (m 10)) ∧ w'.cell? ⟨w.heap.size, 11, none⟩ = some (.int .i64 (m 11))) ∧ (w'.cell? ⟨(w.heap.size + 1), 0, none⟩ = some (.int .i64 (n 0)) ∧ w'.cell? ⟨(w.heap.size + 1), 1, none⟩ = some (.int .i64 (n 1)) ∧ w'.cell? ⟨(w.heap.size + 1), 2, none⟩ = some (.int .i64 (n 2)) ∧ w'.cell? ⟨(w.heap.size + 1), 3, none⟩ = some (.int .i64 (n 3)) ∧ w'.cell? ⟨(w.heap.size + 1), 4, none⟩ = some (.int .i64 (n 4)) ∧ w'.cell? ⟨(w.heap.size + 1), 5, none⟩ = some (.int .i64 (n 5)) ∧ w'.cell? ⟨(w.heap.size + 1), 6, none⟩ = some (.int .i64 (n 6)) ∧ w'.cell? ⟨(w.heap.size + 1), 7, none⟩ = some (.int .i64 (n 7)) ∧ w'.cell? ⟨(w.heap.size + 1), 8, none⟩ = some (.int .i64 (n 8)) ∧ w'.cell? ⟨(w.heap.size + 1), 9, none⟩ = some (.int .i64 (n 9)) ∧ w'.cell? ⟨(w.heap.size + 1), 10, none⟩ = some (.int .i64 (n 10)) ∧ w'.cell? ⟨(w.heap.size + 1), 11, none⟩ = some (.int .i64 (n 11)))) (first | (with_reducible exact ⟨hm.c12, hn.c12⟩) | (with_reducible exact ⟨(hm.far3 n_hm_hs _ _ _).c12, (hn.far3 n_hn_hs _ _ _).c12⟩)) (first | (go_at_call 19; refine (rdir_any m _ _ _ _).mono ?_; rintro e w9 ⟨rfl, hbn⟩; have hbm := hbn; replace hbk := hbk.trans (hbm.mono hbk.size); replace hm := hm.on hbm; replace hn := hn.on hbm; replace ho := ho.on hbm; replace hs := hs.on hbm; obtain ⟨-, -, sf⟩ := id hs; obtain ⟨s0, s1, s2, s3, s4, s5, s6, s7, s8, s9, s10, s11⟩ := hs.c12))
  replace hm : Bk w.heap.size 12 m (((w9.setCell ⟨(w.heap.size + 1 + 1 + 1), 3, none⟩ (.int .i64 (dirN m (n 3) (n 4) (n 5) 0))).setCell ⟨(w.heap.size + 1 + 1 + 1), 4, none⟩ (.int .i64 (dirN m (n 3) (n 4) (n 5) 1))).setCell ⟨(w.heap.size + 1 + 1 + 1), 5, none⟩ (.int .i64 (dirN m (n 3) (n 4) (n 5) 2))) := hm.far3 n_hm_hs _ _ _
  replace hn : Bk (w.heap.size + 1) 12 n (((w9.setCell ⟨(w.heap.size + 1 + 1 + 1), 3, none⟩ (.int .i64 (dirN m (n 3) (n 4) (n 5) 0))).setCell ⟨(w.heap.size + 1 + 1 + 1), 4, none⟩ (.int .i64 (dirN m (n 3) (n 4) (n 5) 1))).setCell ⟨(w.heap.size + 1 + 1 + 1), 5, none⟩ (.int .i64 (dirN m (n 3) (n 4) (n 5) 2))) := hn.far3 n_hn_hs _ _ _
  replace ho : Bk (w.heap.size + 2) 12 (fun _ => 0) (((w9.setCell ⟨(w.heap.size + 1 + 1 + 1), 3, none⟩ (.int .i64 (dirN m (n 3) (n 4) (n 5) 0))).setCell ⟨(w.heap.size + 1 + 1 + 1), 4, none⟩ (.int .i64 (dirN m (n 3) (n 4) (n 5) 1))).setCell ⟨(w.heap.size + 1 + 1 + 1), 5, none⟩ (.int .i64 (dirN m (n 3) (n 4) (n 5) 2))) := ho.far3 n_ho_hs _ _ _
  replace hs : Bk (w.heap.size + 1 + 1 + 1) 12 (outN 2 m n) (((w9.setCell ⟨(w.heap.size + 1 + 1 + 1), 3, none⟩ (.int .i64 (dirN m (n 3) (n 4) (n 5) 0))).setCell ⟨(w.heap.size + 1 + 1 + 1), 4, none⟩ (.int .i64 (dirN m (n 3) (n 4) (n 5) 1))).setCell ⟨(w.heap.size + 1 + 1 + 1), 5, none⟩ (.int .i64 (dirN m (n 3) (n 4) (n 5) 2))) := hs.out1
  replace hbk : Below w.heap.size w (((w9.setCell ⟨(w.heap.size + 1 + 1 + 1), 3, none⟩ (.int .i64 (dirN m (n 3) (n 4) (n 5) 0))).setCell ⟨(w.heap.size + 1 + 1 + 1), 4, none⟩ (.int .i64 (dirN m (n 3) (n 4) (n 5) 1))).setCell ⟨(w.heap.size + 1 + 1 + 1), 5, none⟩ (.int .i64 (dirN m (n 3) (n 4) (n 5) 2))) := below_set3 hbk (by omega) _ _ _
  obtain ⟨w21, hwz⟩ : ∃ wz, wz = (((w9.setCell ⟨(w.heap.size + 1 + 1 + 1), 3, none⟩ (.int .i64 (dirN m (n 3) (n 4) (n 5) 0))).setCell ⟨(w.heap.size + 1 + 1 + 1), 4, none⟩ (.int .i64 (dirN m (n 3) (n 4) (n 5) 1))).setCell ⟨(w.heap.size + 1 + 1 + 1), 5, none⟩ (.int .i64 (dirN m (n 3) (n 4) (n 5) 2))) := ⟨_, rfl⟩
  rw [← hwz] at hm hn ho hs hbk ⊢
  clear hwz sf s0 s1 s2 s3 s4 s5 s6 s7 s8 s9 s10 s11
  go_wp2
  rw [rounds_succ]
  go_wp2_with fail
  replace hm := hm.on (Below.refl _ _).drew
  replace hn := hn.on (Below.refl _ _).drew
  replace ho := ho.on (Below.refl _ _).drew
  replace hs := hs.on (Below.refl _ _).drew
  replace hbk := hbk.drew
  go_region_held3 (fun w' => (w'.cell? ⟨w.heap.size, 0, none⟩ = some (.int .i64 (m 0)) ∧ w'.cell? ⟨w.heap.size, 1, none⟩ = some (.int .i64 (m 1)) ∧ w'.cell? ⟨w.heap.size, 2, none⟩ = some (.int .i64 (m 2)) ∧ w'.cell? ⟨w.heap.size, 3, none⟩ = some (.int .i64 (m 3)) ∧ w'.cell? ⟨w.heap.size, 4, none⟩ = some (.int .i64 (m 4)) ∧ w'.cell? ⟨w.heap.size, 5, none⟩ = some (.int .i64 (m 5)) ∧ w'.cell? ⟨w.heap.size, 6, none⟩ = some (.int .i64 (m 6)) ∧ w'.cell? ⟨w.heap.size, 7, none⟩ = some (.int .i64 (m 7)) ∧ w'.cell? ⟨w.heap.size, 8, none⟩ = some (.int .i64 (m 8)) ∧ w'.cell? ⟨w.heap.size, 9, none⟩ = some (.int .i64 (m 9)) ∧ w'.cell? ⟨w.heap.size, 10, none⟩ = some (.int .i64 (m 10)) ∧ w'.cell? ⟨w.heap.size, 11, none⟩ = some (.int .i64 (m 11))) ∧ (w'.cell? ⟨(w.heap.size + 1), 0, none⟩ = some (.int .i64 (n 0)) ∧ w'.cell? ⟨(w.heap.size + 1), 1, none⟩ = some (.int .i64 (n 1)) ∧ w'.cell? ⟨(w.heap.size + 1), 2, none⟩ = some (.int .i64 (n 2)) ∧ w'.cell? ⟨(w.heap.size + 1), 3, none⟩ = some (.int .i64 (n 3)) ∧ w'.cell? ⟨(w.heap.size + 1), 4, none⟩ = some (.int .i64 (n 4)) ∧ w'.cell? ⟨(w.heap.size + 1), 5, none⟩ = some (.int .i64 (n 5)) ∧ w'.cell? ⟨(w.heap.size + 1), 6, none⟩ = some (.int .i64 (n 6)) ∧ w'.cell? ⟨(w.heap.size + 1), 7, none⟩ = some (.int .i64 (n 7)) ∧ w'.cell? ⟨(w.heap.size + 1), 8, none⟩ = some (.int .i64 (n 8)) ∧ w'.cell? ⟨(w.heap.size + 1), 9, none⟩ = some (.int .i64 (n 9)) ∧ w'.cell? ⟨(w.heap.size + 1), 10, none⟩ = some (.int .i64 (n 10)) ∧ w'.cell? ⟨(w.heap.size + 1), 11, none⟩ = some (.int .i64 (n 11)))) (first | (with_reducible exact ⟨hm.c12, hn.c12⟩) | (with_reducible exact ⟨(hm.far3 n_hm_hs _ _ _).c12, (hn.far3 n_hn_hs _ _ _).c12⟩)) (first | (go_at_call 19; refine (rdir_any m _ _ _ _).mono ?_; rintro e w9 ⟨rfl, hbn⟩; have hbm := hbn; replace hbk := hbk.trans (hbm.mono hbk.size); replace hm := hm.on hbm; replace hn := hn.on hbm; replace ho := ho.on hbm; replace hs := hs.on hbm; obtain ⟨-, -, sf⟩ := id hs; obtain ⟨s0, s1, s2, s3, s4, s5, s6, s7, s8, s9, s10, s11⟩ := hs.c12))
  replace hm : Bk w.heap.size 12 m (((w9.setCell ⟨(w.heap.size + 1 + 1 + 1), 6, none⟩ (.int .i64 (dirN m (n 6) (n 7) (n 8) 0))).setCell ⟨(w.heap.size + 1 + 1 + 1), 7, none⟩ (.int .i64 (dirN m (n 6) (n 7) (n 8) 1))).setCell ⟨(w.heap.size + 1 + 1 + 1), 8, none⟩ (.int .i64 (dirN m (n 6) (n 7) (n 8) 2))) := hm.far3 n_hm_hs _ _ _
  replace hn : Bk (w.heap.size + 1) 12 n (((w9.setCell ⟨(w.heap.size + 1 + 1 + 1), 6, none⟩ (.int .i64 (dirN m (n 6) (n 7) (n 8) 0))).setCell ⟨(w.heap.size + 1 + 1 + 1), 7, none⟩ (.int .i64 (dirN m (n 6) (n 7) (n 8) 1))).setCell ⟨(w.heap.size + 1 + 1 + 1), 8, none⟩ (.int .i64 (dirN m (n 6) (n 7) (n 8) 2))) := hn.far3 n_hn_hs _ _ _
  replace ho : Bk (w.heap.size + 2) 12 (fun _ => 0) (((w9.setCell ⟨(w.heap.size + 1 + 1 + 1), 6, none⟩ (.int .i64 (dirN m (n 6) (n 7) (n 8) 0))).setCell ⟨(w.heap.size + 1 + 1 + 1), 7, none⟩ (.int .i64 (dirN m (n 6) (n 7) (n 8) 1))).setCell ⟨(w.heap.size + 1 + 1 + 1), 8, none⟩ (.int .i64 (dirN m (n 6) (n 7) (n 8) 2))) := ho.far3 n_ho_hs _ _ _
  replace hs : Bk (w.heap.size + 1 + 1 + 1) 12 (outN 3 m n) (((w9.setCell ⟨(w.heap.size + 1 + 1 + 1), 6, none⟩ (.int .i64 (dirN m (n 6) (n 7) (n 8) 0))).setCell ⟨(w.heap.size + 1 + 1 + 1), 7, none⟩ (.int .i64 (dirN m (n 6) (n 7) (n 8) 1))).setCell ⟨(w.heap.size + 1 + 1 + 1), 8, none⟩ (.int .i64 (dirN m (n 6) (n 7) (n 8) 2))) := hs.out2
  replace hbk : Below w.heap.size w (((w9.setCell ⟨(w.heap.size + 1 + 1 + 1), 6, none⟩ (.int .i64 (dirN m (n 6) (n 7) (n 8) 0))).setCell ⟨(w.heap.size + 1 + 1 + 1), 7, none⟩ (.int .i64 (dirN m (n 6) (n 7) (n 8) 1))).setCell ⟨(w.heap.size + 1 + 1 + 1), 8, none⟩ (.int .i64 (dirN m (n 6) (n 7) (n 8) 2))) := below_set3 hbk (by omega) _ _ _
  obtain ⟨w22, hwz⟩ : ∃ wz, wz = (((w9.setCell ⟨(w.heap.size + 1 + 1 + 1), 6, none⟩ (.int .i64 (dirN m (n 6) (n 7) (n 8) 0))).setCell ⟨(w.heap.size + 1 + 1 + 1), 7, none⟩ (.int .i64 (dirN m (n 6) (n 7) (n 8) 1))).setCell ⟨(w.heap.size + 1 + 1 + 1), 8, none⟩ (.int .i64 (dirN m (n 6) (n 7) (n 8) 2))) := ⟨_, rfl⟩
  rw [← hwz] at hm hn ho hs hbk ⊢
  clear hwz sf s0 s1 s2 s3 s4 s5 s6 s7 s8 s9 s10 s11
  go_wp2
  rw [rounds_succ]
  obtain ⟨m0, m1, m2, m3, m4, m5, m6, m7, m8, m9, m10, m11⟩ := hm.c12
  obtain ⟨k0, k1, k2, k3, k4, k5, k6, k7, k8, k9, k10, k11⟩ := hn.c12
  clear hm hn
  go_upto_region 7 with (first | (go_at_call 21; refine (rpoint_any m _ _ _ _).mono ?_; rintro e w9 ⟨rfl, hbn⟩; have hbm := hbn; replace hbk := hbk.trans (hbm.mono hbk.size); replace ho := ho.on hbm; replace hs := hs.on hbm; obtain ⟨-, -, sf⟩ := id hs; obtain ⟨s0, s1, s2, s3, s4, s5, s6, s7, s8, s9, s10, s11⟩ := hs.c12))
  replace ho : Bk (w.heap.size + 2) 12 (fun _ => 0) (((w9.setCell ⟨(w.heap.size + 1 + 1 + 1), 9, none⟩ (.int .i64 (pointN m (n 9) (n 10) (n 11) 0))).setCell ⟨(w.heap.size + 1 + 1 + 1), 10, none⟩ (.int .i64 (pointN m (n 9) (n 10) (n 11) 1))).setCell ⟨(w.heap.size + 1 + 1 + 1), 11, none⟩ (.int .i64 (pointN m (n 9) (n 10) (n 11) 2))) := ho.far3 n_ho_hs _ _ _
  replace hs : Bk (w.heap.size + 1 + 1 + 1) 12 (timesN m n) (((w9.setCell ⟨(w.heap.size + 1 + 1 + 1), 9, none⟩ (.int .i64 (pointN m (n 9) (n 10) (n 11) 0))).setCell ⟨(w.heap.size + 1 + 1 + 1), 10, none⟩ (.int .i64 (pointN m (n 9) (n 10) (n 11) 1))).setCell ⟨(w.heap.size + 1 + 1 + 1), 11, none⟩ (.int .i64 (pointN m (n 9) (n 10) (n 11) 2))) := hs.out3
  replace hbk : Below w.heap.size w (((w9.setCell ⟨(w.heap.size + 1 + 1 + 1), 9, none⟩ (.int .i64 (pointN m (n 9) (n 10) (n 11) 0))).setCell ⟨(w.heap.size + 1 + 1 + 1), 10, none⟩ (.int .i64 (pointN m (n 9) (n 10) (n 11) 1))).setCell ⟨(w.heap.size + 1 + 1 + 1), 11, none⟩ (.int .i64 (pointN m (n 9) (n 10) (n 11) 2))) := below_set3 hbk (by omega) _ _ _
  obtain ⟨w25, hwz⟩ : ∃ wz, wz = (((w9.setCell ⟨(w.heap.size + 1 + 1 + 1), 9, none⟩ (.int .i64 (pointN m (n 9) (n 10) (n 11) 0))).setCell ⟨(w.heap.size + 1 + 1 + 1), 10, none⟩ (.int .i64 (pointN m (n 9) (n 10) (n 11) 1))).setCell ⟨(w.heap.size + 1 + 1 + 1), 11, none⟩ (.int .i64 (pointN m (n 9) (n 10) (n 11) 2))) := ⟨_, rfl⟩
  rw [← hwz] at ho hs hbk ⊢
  clear hwz sf s0 s1 s2 s3 s4 s5 s6 s7 s8 s9 s10 s11 m0 m1 m2 m3 m4 m5 m6 m7 m8 m9 m10 m11 k0 k1 k2 k3 k4 k5 k6 k7 k8 k9 k10 k11
  obtain ⟨-, -, of⟩ := id ho
  obtain ⟨o0, o1, o2, o3, o4, o5, o6, o7, o8, o9, o10, o11⟩ := ho.c12
  obtain ⟨s0, s1, s2, s3, s4, s5, s6, s7, s8, s9, s10, s11⟩ := hs.c12
  go_wp2
  have hz : Bk (w.heap.size + 2) 12 (timesN m n) ((((((((((((w25.setCell ⟨(w.heap.size + 2), 0, none⟩ (.int .i64 (timesN m n 0))).setCell ⟨(w.heap.size + 2), 1, none⟩ (.int .i64 (timesN m n 1))).setCell ⟨(w.heap.size + 2), 2, none⟩ (.int .i64 (timesN m n 2))).setCell ⟨(w.heap.size + 2), 3, none⟩ (.int .i64 (timesN m n 3))).setCell ⟨(w.heap.size + 2), 4, none⟩ (.int .i64 (timesN m n 4))).setCell ⟨(w.heap.size + 2), 5, none⟩ (.int .i64 (timesN m n 5))).setCell ⟨(w.heap.size + 2), 6, none⟩ (.int .i64 (timesN m n 6))).setCell ⟨(w.heap.size + 2), 7, none⟩ (.int .i64 (timesN m n 7))).setCell ⟨(w.heap.size + 2), 8, none⟩ (.int .i64 (timesN m n 8))).setCell ⟨(w.heap.size + 2), 9, none⟩ (.int .i64 (timesN m n 9))).setCell ⟨(w.heap.size + 2), 10, none⟩ (.int .i64 (timesN m n 10))).setCell ⟨(w.heap.size + 2), 11, none⟩ (.int .i64 (timesN m n 11))) := ho.put12 (timesN m n)
  have hbz : Below w.heap.size w ((((((((((((w25.setCell ⟨(w.heap.size + 2), 0, none⟩ (.int .i64 (timesN m n 0))).setCell ⟨(w.heap.size + 2), 1, none⟩ (.int .i64 (timesN m n 1))).setCell ⟨(w.heap.size + 2), 2, none⟩ (.int .i64 (timesN m n 2))).setCell ⟨(w.heap.size + 2), 3, none⟩ (.int .i64 (timesN m n 3))).setCell ⟨(w.heap.size + 2), 4, none⟩ (.int .i64 (timesN m n 4))).setCell ⟨(w.heap.size + 2), 5, none⟩ (.int .i64 (timesN m n 5))).setCell ⟨(w.heap.size + 2), 6, none⟩ (.int .i64 (timesN m n 6))).setCell ⟨(w.heap.size + 2), 7, none⟩ (.int .i64 (timesN m n 7))).setCell ⟨(w.heap.size + 2), 8, none⟩ (.int .i64 (timesN m n 8))).setCell ⟨(w.heap.size + 2), 9, none⟩ (.int .i64 (timesN m n 9))).setCell ⟨(w.heap.size + 2), 10, none⟩ (.int .i64 (timesN m n 10))).setCell ⟨(w.heap.size + 2), 11, none⟩ (.int .i64 (timesN m n 11))) := below_set12 hbk (by omega) _ _ _ _ _ _ _ _ _ _ _ _
  obtain ⟨wz, hwz⟩ : ∃ wz, wz = ((((((((((((w25.setCell ⟨(w.heap.size + 2), 0, none⟩ (.int .i64 (timesN m n 0))).setCell ⟨(w.heap.size + 2), 1, none⟩ (.int .i64 (timesN m n 1))).setCell ⟨(w.heap.size + 2), 2, none⟩ (.int .i64 (timesN m n 2))).setCell ⟨(w.heap.size + 2), 3, none⟩ (.int .i64 (timesN m n 3))).setCell ⟨(w.heap.size + 2), 4, none⟩ (.int .i64 (timesN m n 4))).setCell ⟨(w.heap.size + 2), 5, none⟩ (.int .i64 (timesN m n 5))).setCell ⟨(w.heap.size + 2), 6, none⟩ (.int .i64 (timesN m n 6))).setCell ⟨(w.heap.size + 2), 7, none⟩ (.int .i64 (timesN m n 7))).setCell ⟨(w.heap.size + 2), 8, none⟩ (.int .i64 (timesN m n 8))).setCell ⟨(w.heap.size + 2), 9, none⟩ (.int .i64 (timesN m n 9))).setCell ⟨(w.heap.size + 2), 10, none⟩ (.int .i64 (timesN m n 10))).setCell ⟨(w.heap.size + 2), 11, none⟩ (.int .i64 (timesN m n 11))) := ⟨_, rfl⟩
  rw [← hwz] at hz hbz ⊢
  obtain ⟨z0, z1, z2, z3, z4, z5, z6, z7, z8, z9, z10, z11⟩ := hz.c12
  clear hwz
  go_wp2
  exact bodyPost_ret (v := MV (timesN m n)) (by simp [results, Try.results24, go_sem, z0, z1, z2, z3, z4, z5, z6, z7, z8, z9, z10, z11]) rfl ⟨rfl, hbz⟩


end Go.Proofs.Ytohnjhnfhmfiiaa.Ve
