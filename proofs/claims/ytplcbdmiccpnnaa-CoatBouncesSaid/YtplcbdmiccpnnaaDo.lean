/- The contracts of layer 4's direction on a side, and of the document's own. -/
import Derived.Test.YtplcbdmiccpnnaaDg
namespace Go.Proofs.Ytplcbdmiccpnnaa.Ve
open Go.RowKit Go.Proofs.Ytplcbdmiccpnnaa Go.Proofs.Ytplcbdmiccpnnaa.Wa

/-- the sum of a direction and n, one long -/
def dx (u v nx ny nz : Int) : Int := un (Pl.add (gx u v) nx) (Pl.add (gy u v) ny) (Pl.add (gz u) nz) (Pl.add (gx u v) nx)
def dy (u v nx ny nz : Int) : Int := un (Pl.add (gx u v) nx) (Pl.add (gy u v) ny) (Pl.add (gz u) nz) (Pl.add (gy u v) ny)
def dz (u v nx ny nz : Int) : Int := un (Pl.add (gx u v) nx) (Pl.add (gy u v) ny) (Pl.add (gz u) nz) (Pl.add (gz u) nz)

/-- the inner product of two directions -/
def dt (ax ay az bx by_ bz : Int) : Int := Pl.add (Pl.add (Pl.add 0 (Pl.mul ax bx)) (Pl.mul ay by_)) (Pl.mul az bz)

/-- which of two directions it is -/
def side (u v nx ny nz a b : Int) : Int := if dt (dx u v nx ny nz) (dy u v nx ny nz) (dz u v nx ny nz) nx ny nz ≤ 0 then b else a

theorem dunit_any (u v nx ny nz : Int) (w : World) : Calls Try.prog 32 #[V3 (Pl.add (gx u v) nx) (Pl.add (gy u v) ny) (Pl.add (gz u) nz)] w fun e w' => e = .returned (V3 (dx u v nx ny nz) (dy u v nx ny nz) (dz u v nx ny nz)) ∧ Below w.heap.size w w' := vunit_any _ _ _ w

theorem rdunit_any (u v nx ny nz : Int) (w : World) : Calls Try.prog 37 #[V3 (Pl.add (gx u v) nx) (Pl.add (gy u v) ny) (Pl.add (gz u) nz)] w fun e w' => e = .returned (V3 (dx u v nx ny nz) (dy u v nx ny nz) (dz u v nx ny nz)) ∧ Below w.heap.size w w' := runit_any _ _ _ w

theorem ddot_any (ax ay az bx by_ bz : Int) (w : World) : Calls Try.prog 23 #[V3 ax ay az, V3 bx by_ bz] w fun e w' => e = .returned (.int .i64 (dt ax ay az bx by_ bz)) ∧ Below w.heap.size w w' := dot_any _ _ _ _ _ _ w

theorem rddot_any (ax ay az bx by_ bz : Int) (w : World) : Calls Try.prog 41 #[V3 ax ay az, V3 bx by_ bz] w fun e w' => e = .returned (.int .i64 (dt ax ay az bx by_ bz)) ∧ Below w.heap.size w w' := rdot_any _ _ _ _ _ _ w

set_option maxHeartbeats 2000000 in
set_option maxRecDepth 100000 in
theorem dome_any_pos (u v nx ny nz : Int) (h : dt (dx u v nx ny nz) (dy u v nx ny nz) (dz u v nx ny nz) nx ny nz ≤ 0) (w : World) :
    Calls Try.prog 31 #[V3 nx ny nz, .int .i64 u, .int .i64 v] w fun e w' => e = .returned (V3 nx ny nz) ∧ Below w.heap.size w w' := by
  have n_hn_ho : w.heap.size ≠ (w.heap.size + 1) := by omega
  go_enter Try.func31, Try.ntmps31
  go_upto_region 1 with fail
  obtain ⟨wq, hwq⟩ : ∃ wq, wq = ((w.alloc (.cells #[.int .i64 nx, .int .i64 ny, .int .i64 nz] 39)).alloc (.cells #[.int .i64 0, .int .i64 0, .int .i64 0] 39)) := ⟨_, rfl⟩
  rw [← hwq]
  have hn : Bk w.heap.size 3 (f3 nx ny nz) wq := by subst hwq; exact ((new3 _ w.heap.size (by simp) nx ny nz _).on (below_n1 _ _))
  have ho : Bk (w.heap.size + 1) 3 (f3 0 0 0) wq := by subst hwq; exact (new3 _ (w.heap.size + 1) (by simp) 0 0 0 _)
  have hbk : Below w.heap.size w wq := by subst hwq; exact (below_n2 w _ _)
  clear hwq
  go_cut [7] (fun s7 wx => ∃ g : Nat, s7 = .pointer (some ⟨g, 0, none⟩) ∧ Bk g 3 (f3 (dx u v nx ny nz) (dy u v nx ny nz) (dz u v nx ny nz)) wx ∧ Bk w.heap.size 3 (f3 nx ny nz) wx ∧ Bk (w.heap.size + 1) 3 (f3 0 0 0) wx ∧ Below w.heap.size w wx)
  case first =>
    go_region_held3 (fun w' => w'.cell? ⟨w.heap.size, 0, none⟩ = some (.int .i64 nx) ∧ w'.cell? ⟨w.heap.size, 1, none⟩ = some (.int .i64 ny) ∧ w'.cell? ⟨w.heap.size, 2, none⟩ = some (.int .i64 nz)) (first | (with_reducible exact hn.v3) | (with_reducible exact (hn.on (below_n1 _ _)).v3) | (with_reducible exact (hn.on (Below.refl _ _).drew).v3) | (with_reducible exact ((hn.on (below_n1 _ _)).on (Below.refl _ _).drew).v3) | (with_reducible exact (hn.far3 nfn _ _ _).v3) | (with_reducible exact ((hn.on (below_n1 _ _)).far3 (Nat.ne_of_lt hn.lt) _ _ _).v3)) (first | (go_at_call 55; refine (globe_any _ _ _).mono ?_; rintro e w9 ⟨rfl, hbn⟩; (first | (with_reducible have hbm := hbn; have hbk0 := hbk; replace hbk := hbk.trans (hbm.mono hbk.size); replace hn := hn.on hbm; replace ho := ho.on hbm; (try (replace fa := fa.on hbm))) | (with_reducible have hbm := draw_below hbn; have hbk0 := hbk; replace hbk := hbk.trans (hbm.mono hbk.size); replace hn := hn.on hbm; replace ho := ho.on hbm; (try (replace fa := fa.on hbm))) | (with_reducible have hbm := below_c1 hbn; have hbk0 := hbk; replace hbk := hbk.trans (hbm.mono hbk.size); have nfb := hbk0.size; have fa := (new3 _ _ rfl 0 0 0 _).on hbn; have nfn := Nat.ne_of_lt hn.lt; have nfo := Nat.ne_of_lt ho.lt; replace hn := hn.on hbm; replace ho := ho.on hbm) | (with_reducible have hbm := below_d1 hbn; have hbk0 := hbk; replace hbk := hbk.trans (hbm.mono hbk.size); have nfb := hbk0.size; have fa := ((new3 _ _ rfl 0 0 0 _).on (Below.refl _ _).drew).on hbn; have nfn := Nat.ne_of_lt hn.lt; have nfo := Nat.ne_of_lt ho.lt; replace hn := hn.on hbm; replace ho := ho.on hbm)); (try (obtain ⟨-, -, ff⟩ := id fa; obtain ⟨f0, f1, f2⟩ := fa.v3))) | (go_at_call 35; refine (vadd_any _ _ _ _ _ _ _).mono ?_; rintro e w9 ⟨rfl, hbn⟩; (first | (with_reducible have hbm := hbn; have hbk0 := hbk; replace hbk := hbk.trans (hbm.mono hbk.size); replace hn := hn.on hbm; replace ho := ho.on hbm; (try (replace fa := fa.on hbm))) | (with_reducible have hbm := draw_below hbn; have hbk0 := hbk; replace hbk := hbk.trans (hbm.mono hbk.size); replace hn := hn.on hbm; replace ho := ho.on hbm; (try (replace fa := fa.on hbm))) | (with_reducible have hbm := below_c1 hbn; have hbk0 := hbk; replace hbk := hbk.trans (hbm.mono hbk.size); have nfb := hbk0.size; have fa := (new3 _ _ rfl 0 0 0 _).on hbn; have nfn := Nat.ne_of_lt hn.lt; have nfo := Nat.ne_of_lt ho.lt; replace hn := hn.on hbm; replace ho := ho.on hbm) | (with_reducible have hbm := below_d1 hbn; have hbk0 := hbk; replace hbk := hbk.trans (hbm.mono hbk.size); have nfb := hbk0.size; have fa := ((new3 _ _ rfl 0 0 0 _).on (Below.refl _ _).drew).on hbn; have nfn := Nat.ne_of_lt hn.lt; have nfo := Nat.ne_of_lt ho.lt; replace hn := hn.on hbm; replace ho := ho.on hbm)); (try (obtain ⟨-, -, ff⟩ := id fa; obtain ⟨f0, f1, f2⟩ := fa.v3))) | (go_at_call 32; refine (dunit_any _ _ _ _ _ _).mono ?_; rintro e w9 ⟨rfl, hbn⟩; (first | (with_reducible have hbm := hbn; have hbk0 := hbk; replace hbk := hbk.trans (hbm.mono hbk.size); replace hn := hn.on hbm; replace ho := ho.on hbm; (try (replace fa := fa.on hbm))) | (with_reducible have hbm := draw_below hbn; have hbk0 := hbk; replace hbk := hbk.trans (hbm.mono hbk.size); replace hn := hn.on hbm; replace ho := ho.on hbm; (try (replace fa := fa.on hbm))) | (with_reducible have hbm := below_c1 hbn; have hbk0 := hbk; replace hbk := hbk.trans (hbm.mono hbk.size); have nfb := hbk0.size; have fa := (new3 _ _ rfl 0 0 0 _).on hbn; have nfn := Nat.ne_of_lt hn.lt; have nfo := Nat.ne_of_lt ho.lt; replace hn := hn.on hbm; replace ho := ho.on hbm) | (with_reducible have hbm := below_d1 hbn; have hbk0 := hbk; replace hbk := hbk.trans (hbm.mono hbk.size); have nfb := hbk0.size; have fa := ((new3 _ _ rfl 0 0 0 _).on (Below.refl _ _).drew).on hbn; have nfn := Nat.ne_of_lt hn.lt; have nfo := Nat.ne_of_lt ho.lt; replace hn := hn.on hbm; replace ho := ho.on hbm)); (try (obtain ⟨-, -, ff⟩ := id fa; obtain ⟨f0, f1, f2⟩ := fa.v3))))
    all_goals (go_wp2_with fail; go_meet; refine ⟨_, rfl, ?_, ?_, ?_, ?_⟩)
    all_goals first | (with_reducible exact fa.putf3 _ _ _) | (with_reducible exact (new3 _ _ rfl _ _ _ _)) | (with_reducible exact (new3 _ _ rfl _ _ _ _).putf3 _ _ _) | (with_reducible exact hn.far3 nfn _ _ _) | (with_reducible exact ho.far3 nfo _ _ _) | (with_reducible exact hn.on (below_n1 _ _)) | (with_reducible exact ho.on (below_n1 _ _)) | (with_reducible exact (hn.on (below_n1 _ _)).far3 (Nat.ne_of_lt hn.lt) _ _ _) | (with_reducible exact (ho.on (below_n1 _ _)).far3 (Nat.ne_of_lt ho.lt) _ _ _) | (with_reducible exact hbk.alloc hbk.size _) | (with_reducible exact below_set3 (hbk.alloc hbk.size _) hbk.size _ _ _) | (with_reducible exact below_set3 hbk nfb _ _ _) | trace_state
  case rest =>
    obtain ⟨g, rfl, hd, hn, ho, hbk⟩ := hcut
    obtain ⟨d0, d1, d2⟩ := hd.v3
    obtain ⟨n0, n1, n2⟩ := hn.v3
    go_wp2_with (first | (go_at_call 23; refine (ddot_any _ _ _ _ _ _ _).mono ?_; rintro e w9 ⟨rfl, hbn⟩; have hbm := hbn; replace hbk := hbk.trans (hbm.mono hbk.size); replace hd := hd.on hbm; replace hn := hn.on hbm; replace ho := ho.on hbm; obtain ⟨-, -, of⟩ := id ho; obtain ⟨o0, o1, o2⟩ := ho.v3; obtain ⟨d0, d1, d2⟩ := hd.v3; obtain ⟨n0, n1, n2⟩ := hn.v3))
    have hz : Bk (w.heap.size + 1) 3 (f3 nx ny nz) (((w9.setCell ⟨(w.heap.size + 1), 0, none⟩ (.int .i64 nx)).setCell ⟨(w.heap.size + 1), 1, none⟩ (.int .i64 ny)).setCell ⟨(w.heap.size + 1), 2, none⟩ (.int .i64 nz)) := ho.putf3 nx ny nz
    have hbz : Below w.heap.size w (((w9.setCell ⟨(w.heap.size + 1), 0, none⟩ (.int .i64 nx)).setCell ⟨(w.heap.size + 1), 1, none⟩ (.int .i64 ny)).setCell ⟨(w.heap.size + 1), 2, none⟩ (.int .i64 nz)) := below_set3 hbk (by omega) _ _ _
    obtain ⟨wz, hwz⟩ : ∃ wz, wz = (((w9.setCell ⟨(w.heap.size + 1), 0, none⟩ (.int .i64 nx)).setCell ⟨(w.heap.size + 1), 1, none⟩ (.int .i64 ny)).setCell ⟨(w.heap.size + 1), 2, none⟩ (.int .i64 nz)) := ⟨_, rfl⟩
    rw [← hwz] at hz hbz ⊢
    obtain ⟨z0, z1, z2⟩ := hz.v3
    clear hwz
    go_wp2
    exact bodyPost_ret (v := V3 nx ny nz) (by simp [results, Try.results31, go_sem, z0, z1, z2]) rfl ⟨rfl, hbz⟩


set_option maxHeartbeats 2000000 in
set_option maxRecDepth 100000 in
theorem dome_any_neg (u v nx ny nz : Int) (h : dt (dx u v nx ny nz) (dy u v nx ny nz) (dz u v nx ny nz) nx ny nz > 0) (w : World) :
    Calls Try.prog 31 #[V3 nx ny nz, .int .i64 u, .int .i64 v] w fun e w' => e = .returned (V3 (dx u v nx ny nz) (dy u v nx ny nz) (dz u v nx ny nz)) ∧ Below w.heap.size w w' := by
  have hd0 : ¬ dt (dx u v nx ny nz) (dy u v nx ny nz) (dz u v nx ny nz) nx ny nz ≤ 0 := by omega
  have n_hn_ho : w.heap.size ≠ (w.heap.size + 1) := by omega
  go_enter Try.func31, Try.ntmps31
  go_upto_region 1 with fail
  obtain ⟨wq, hwq⟩ : ∃ wq, wq = ((w.alloc (.cells #[.int .i64 nx, .int .i64 ny, .int .i64 nz] 39)).alloc (.cells #[.int .i64 0, .int .i64 0, .int .i64 0] 39)) := ⟨_, rfl⟩
  rw [← hwq]
  have hn : Bk w.heap.size 3 (f3 nx ny nz) wq := by subst hwq; exact ((new3 _ w.heap.size (by simp) nx ny nz _).on (below_n1 _ _))
  have ho : Bk (w.heap.size + 1) 3 (f3 0 0 0) wq := by subst hwq; exact (new3 _ (w.heap.size + 1) (by simp) 0 0 0 _)
  have hbk : Below w.heap.size w wq := by subst hwq; exact (below_n2 w _ _)
  clear hwq
  go_cut [7] (fun s7 wx => ∃ g : Nat, s7 = .pointer (some ⟨g, 0, none⟩) ∧ Bk g 3 (f3 (dx u v nx ny nz) (dy u v nx ny nz) (dz u v nx ny nz)) wx ∧ Bk w.heap.size 3 (f3 nx ny nz) wx ∧ Bk (w.heap.size + 1) 3 (f3 0 0 0) wx ∧ Below w.heap.size w wx)
  case first =>
    go_region_held3 (fun w' => w'.cell? ⟨w.heap.size, 0, none⟩ = some (.int .i64 nx) ∧ w'.cell? ⟨w.heap.size, 1, none⟩ = some (.int .i64 ny) ∧ w'.cell? ⟨w.heap.size, 2, none⟩ = some (.int .i64 nz)) (first | (with_reducible exact hn.v3) | (with_reducible exact (hn.on (below_n1 _ _)).v3) | (with_reducible exact (hn.on (Below.refl _ _).drew).v3) | (with_reducible exact ((hn.on (below_n1 _ _)).on (Below.refl _ _).drew).v3) | (with_reducible exact (hn.far3 nfn _ _ _).v3) | (with_reducible exact ((hn.on (below_n1 _ _)).far3 (Nat.ne_of_lt hn.lt) _ _ _).v3)) (first | (go_at_call 55; refine (globe_any _ _ _).mono ?_; rintro e w9 ⟨rfl, hbn⟩; (first | (with_reducible have hbm := hbn; have hbk0 := hbk; replace hbk := hbk.trans (hbm.mono hbk.size); replace hn := hn.on hbm; replace ho := ho.on hbm; (try (replace fa := fa.on hbm))) | (with_reducible have hbm := draw_below hbn; have hbk0 := hbk; replace hbk := hbk.trans (hbm.mono hbk.size); replace hn := hn.on hbm; replace ho := ho.on hbm; (try (replace fa := fa.on hbm))) | (with_reducible have hbm := below_c1 hbn; have hbk0 := hbk; replace hbk := hbk.trans (hbm.mono hbk.size); have nfb := hbk0.size; have fa := (new3 _ _ rfl 0 0 0 _).on hbn; have nfn := Nat.ne_of_lt hn.lt; have nfo := Nat.ne_of_lt ho.lt; replace hn := hn.on hbm; replace ho := ho.on hbm) | (with_reducible have hbm := below_d1 hbn; have hbk0 := hbk; replace hbk := hbk.trans (hbm.mono hbk.size); have nfb := hbk0.size; have fa := ((new3 _ _ rfl 0 0 0 _).on (Below.refl _ _).drew).on hbn; have nfn := Nat.ne_of_lt hn.lt; have nfo := Nat.ne_of_lt ho.lt; replace hn := hn.on hbm; replace ho := ho.on hbm)); (try (obtain ⟨-, -, ff⟩ := id fa; obtain ⟨f0, f1, f2⟩ := fa.v3))) | (go_at_call 35; refine (vadd_any _ _ _ _ _ _ _).mono ?_; rintro e w9 ⟨rfl, hbn⟩; (first | (with_reducible have hbm := hbn; have hbk0 := hbk; replace hbk := hbk.trans (hbm.mono hbk.size); replace hn := hn.on hbm; replace ho := ho.on hbm; (try (replace fa := fa.on hbm))) | (with_reducible have hbm := draw_below hbn; have hbk0 := hbk; replace hbk := hbk.trans (hbm.mono hbk.size); replace hn := hn.on hbm; replace ho := ho.on hbm; (try (replace fa := fa.on hbm))) | (with_reducible have hbm := below_c1 hbn; have hbk0 := hbk; replace hbk := hbk.trans (hbm.mono hbk.size); have nfb := hbk0.size; have fa := (new3 _ _ rfl 0 0 0 _).on hbn; have nfn := Nat.ne_of_lt hn.lt; have nfo := Nat.ne_of_lt ho.lt; replace hn := hn.on hbm; replace ho := ho.on hbm) | (with_reducible have hbm := below_d1 hbn; have hbk0 := hbk; replace hbk := hbk.trans (hbm.mono hbk.size); have nfb := hbk0.size; have fa := ((new3 _ _ rfl 0 0 0 _).on (Below.refl _ _).drew).on hbn; have nfn := Nat.ne_of_lt hn.lt; have nfo := Nat.ne_of_lt ho.lt; replace hn := hn.on hbm; replace ho := ho.on hbm)); (try (obtain ⟨-, -, ff⟩ := id fa; obtain ⟨f0, f1, f2⟩ := fa.v3))) | (go_at_call 32; refine (dunit_any _ _ _ _ _ _).mono ?_; rintro e w9 ⟨rfl, hbn⟩; (first | (with_reducible have hbm := hbn; have hbk0 := hbk; replace hbk := hbk.trans (hbm.mono hbk.size); replace hn := hn.on hbm; replace ho := ho.on hbm; (try (replace fa := fa.on hbm))) | (with_reducible have hbm := draw_below hbn; have hbk0 := hbk; replace hbk := hbk.trans (hbm.mono hbk.size); replace hn := hn.on hbm; replace ho := ho.on hbm; (try (replace fa := fa.on hbm))) | (with_reducible have hbm := below_c1 hbn; have hbk0 := hbk; replace hbk := hbk.trans (hbm.mono hbk.size); have nfb := hbk0.size; have fa := (new3 _ _ rfl 0 0 0 _).on hbn; have nfn := Nat.ne_of_lt hn.lt; have nfo := Nat.ne_of_lt ho.lt; replace hn := hn.on hbm; replace ho := ho.on hbm) | (with_reducible have hbm := below_d1 hbn; have hbk0 := hbk; replace hbk := hbk.trans (hbm.mono hbk.size); have nfb := hbk0.size; have fa := ((new3 _ _ rfl 0 0 0 _).on (Below.refl _ _).drew).on hbn; have nfn := Nat.ne_of_lt hn.lt; have nfo := Nat.ne_of_lt ho.lt; replace hn := hn.on hbm; replace ho := ho.on hbm)); (try (obtain ⟨-, -, ff⟩ := id fa; obtain ⟨f0, f1, f2⟩ := fa.v3))))
    all_goals (go_wp2_with fail; go_meet; refine ⟨_, rfl, ?_, ?_, ?_, ?_⟩)
    all_goals first | (with_reducible exact fa.putf3 _ _ _) | (with_reducible exact (new3 _ _ rfl _ _ _ _)) | (with_reducible exact (new3 _ _ rfl _ _ _ _).putf3 _ _ _) | (with_reducible exact hn.far3 nfn _ _ _) | (with_reducible exact ho.far3 nfo _ _ _) | (with_reducible exact hn.on (below_n1 _ _)) | (with_reducible exact ho.on (below_n1 _ _)) | (with_reducible exact (hn.on (below_n1 _ _)).far3 (Nat.ne_of_lt hn.lt) _ _ _) | (with_reducible exact (ho.on (below_n1 _ _)).far3 (Nat.ne_of_lt ho.lt) _ _ _) | (with_reducible exact hbk.alloc hbk.size _) | (with_reducible exact below_set3 (hbk.alloc hbk.size _) hbk.size _ _ _) | (with_reducible exact below_set3 hbk nfb _ _ _) | trace_state
  case rest =>
    obtain ⟨g, rfl, hd, hn, ho, hbk⟩ := hcut
    obtain ⟨d0, d1, d2⟩ := hd.v3
    obtain ⟨n0, n1, n2⟩ := hn.v3
    go_wp2_with (first | (go_at_call 23; refine (ddot_any _ _ _ _ _ _ _).mono ?_; rintro e w9 ⟨rfl, hbn⟩; have hbm := hbn; replace hbk := hbk.trans (hbm.mono hbk.size); replace hd := hd.on hbm; replace hn := hn.on hbm; replace ho := ho.on hbm; obtain ⟨-, -, of⟩ := id ho; obtain ⟨o0, o1, o2⟩ := ho.v3; obtain ⟨d0, d1, d2⟩ := hd.v3; obtain ⟨n0, n1, n2⟩ := hn.v3))
    have hz : Bk (w.heap.size + 1) 3 (f3 (dx u v nx ny nz) (dy u v nx ny nz) (dz u v nx ny nz)) (((w9.setCell ⟨(w.heap.size + 1), 0, none⟩ (.int .i64 (dx u v nx ny nz))).setCell ⟨(w.heap.size + 1), 1, none⟩ (.int .i64 (dy u v nx ny nz))).setCell ⟨(w.heap.size + 1), 2, none⟩ (.int .i64 (dz u v nx ny nz))) := ho.putf3 (dx u v nx ny nz) (dy u v nx ny nz) (dz u v nx ny nz)
    have hbz : Below w.heap.size w (((w9.setCell ⟨(w.heap.size + 1), 0, none⟩ (.int .i64 (dx u v nx ny nz))).setCell ⟨(w.heap.size + 1), 1, none⟩ (.int .i64 (dy u v nx ny nz))).setCell ⟨(w.heap.size + 1), 2, none⟩ (.int .i64 (dz u v nx ny nz))) := below_set3 hbk (by omega) _ _ _
    obtain ⟨wz, hwz⟩ : ∃ wz, wz = (((w9.setCell ⟨(w.heap.size + 1), 0, none⟩ (.int .i64 (dx u v nx ny nz))).setCell ⟨(w.heap.size + 1), 1, none⟩ (.int .i64 (dy u v nx ny nz))).setCell ⟨(w.heap.size + 1), 2, none⟩ (.int .i64 (dz u v nx ny nz))) := ⟨_, rfl⟩
    rw [← hwz] at hz hbz ⊢
    obtain ⟨z0, z1, z2⟩ := hz.v3
    clear hwz
    go_wp2
    exact bodyPost_ret (v := V3 (dx u v nx ny nz) (dy u v nx ny nz) (dz u v nx ny nz)) (by simp [results, Try.results31, go_sem, z0, z1, z2]) rfl ⟨rfl, hbz⟩


theorem dome_any (u v nx ny nz : Int) (w : World) : Calls Try.prog 31 #[V3 nx ny nz, .int .i64 u, .int .i64 v] w fun e w' => e = .returned (V3 (side u v nx ny nz (dx u v nx ny nz) nx) (side u v nx ny nz (dy u v nx ny nz) ny) (side u v nx ny nz (dz u v nx ny nz) nz)) ∧ Below w.heap.size w w' := by
  unfold side
  by_cases h : dt (dx u v nx ny nz) (dy u v nx ny nz) (dz u v nx ny nz) nx ny nz ≤ 0
  · rw [if_pos h, if_pos h, if_pos h]; exact dome_any_pos u v nx ny nz h w
  · rw [if_neg h, if_neg h, if_neg h]; exact dome_any_neg u v nx ny nz (by omega) w

set_option maxHeartbeats 2000000 in
set_option maxRecDepth 100000 in
theorem rdome_any_pos (u v nx ny nz : Int) (h : dt (dx u v nx ny nz) (dy u v nx ny nz) (dz u v nx ny nz) nx ny nz ≤ 0) (w : World) :
    Calls Try.prog 36 #[V3 nx ny nz, .int .i64 u, .int .i64 v] w fun e w' => e = .returned (V3 nx ny nz) ∧ Below w.heap.size w w' := by
  have n_hn_ho : w.heap.size ≠ (w.heap.size + 1) := by omega
  go_enter Try.func36, Try.ntmps36
  go_upto_region 1 with fail
  obtain ⟨wq, hwq⟩ : ∃ wq, wq = ((w.alloc (.cells #[.int .i64 nx, .int .i64 ny, .int .i64 nz] 47)).alloc (.cells #[.int .i64 0, .int .i64 0, .int .i64 0] 47)) := ⟨_, rfl⟩
  rw [← hwq]
  have hn : Bk w.heap.size 3 (f3 nx ny nz) wq := by subst hwq; exact ((new3 _ w.heap.size (by simp) nx ny nz _).on (below_n1 _ _))
  have ho : Bk (w.heap.size + 1) 3 (f3 0 0 0) wq := by subst hwq; exact (new3 _ (w.heap.size + 1) (by simp) 0 0 0 _)
  have hbk : Below w.heap.size w wq := by subst hwq; exact (below_n2 w _ _)
  clear hwq
  go_cut [7] (fun s7 wx => ∃ g : Nat, s7 = .pointer (some ⟨g, 0, none⟩) ∧ Bk g 3 (f3 (dx u v nx ny nz) (dy u v nx ny nz) (dz u v nx ny nz)) wx ∧ Bk w.heap.size 3 (f3 nx ny nz) wx ∧ Bk (w.heap.size + 1) 3 (f3 0 0 0) wx ∧ Below w.heap.size w wx)
  case first =>
    go_region_held3 (fun w' => w'.cell? ⟨w.heap.size, 0, none⟩ = some (.int .i64 nx) ∧ w'.cell? ⟨w.heap.size, 1, none⟩ = some (.int .i64 ny) ∧ w'.cell? ⟨w.heap.size, 2, none⟩ = some (.int .i64 nz)) (first | (with_reducible exact hn.v3) | (with_reducible exact (hn.on (below_n1 _ _)).v3) | (with_reducible exact (hn.on (Below.refl _ _).drew).v3) | (with_reducible exact ((hn.on (below_n1 _ _)).on (Below.refl _ _).drew).v3) | (with_reducible exact (hn.far3 nfn _ _ _).v3) | (with_reducible exact ((hn.on (below_n1 _ _)).far3 (Nat.ne_of_lt hn.lt) _ _ _).v3)) (first | (go_at_call 60; refine (rglobe_any _ _ _).mono ?_; rintro e w9 ⟨rfl, hbn⟩; (first | (with_reducible have hbm := hbn; have hbk0 := hbk; replace hbk := hbk.trans (hbm.mono hbk.size); replace hn := hn.on hbm; replace ho := ho.on hbm; (try (replace fa := fa.on hbm))) | (with_reducible have hbm := draw_below hbn; have hbk0 := hbk; replace hbk := hbk.trans (hbm.mono hbk.size); replace hn := hn.on hbm; replace ho := ho.on hbm; (try (replace fa := fa.on hbm))) | (with_reducible have hbm := below_c1 hbn; have hbk0 := hbk; replace hbk := hbk.trans (hbm.mono hbk.size); have nfb := hbk0.size; have fa := (new3 _ _ rfl 0 0 0 _).on hbn; have nfn := Nat.ne_of_lt hn.lt; have nfo := Nat.ne_of_lt ho.lt; replace hn := hn.on hbm; replace ho := ho.on hbm) | (with_reducible have hbm := below_d1 hbn; have hbk0 := hbk; replace hbk := hbk.trans (hbm.mono hbk.size); have nfb := hbk0.size; have fa := ((new3 _ _ rfl 0 0 0 _).on (Below.refl _ _).drew).on hbn; have nfn := Nat.ne_of_lt hn.lt; have nfo := Nat.ne_of_lt ho.lt; replace hn := hn.on hbm; replace ho := ho.on hbm)); (try (obtain ⟨-, -, ff⟩ := id fa; obtain ⟨f0, f1, f2⟩ := fa.v3))) | (go_at_call 39; refine (radd_any _ _ _ _ _ _ _).mono ?_; rintro e w9 ⟨rfl, hbn⟩; (first | (with_reducible have hbm := hbn; have hbk0 := hbk; replace hbk := hbk.trans (hbm.mono hbk.size); replace hn := hn.on hbm; replace ho := ho.on hbm; (try (replace fa := fa.on hbm))) | (with_reducible have hbm := draw_below hbn; have hbk0 := hbk; replace hbk := hbk.trans (hbm.mono hbk.size); replace hn := hn.on hbm; replace ho := ho.on hbm; (try (replace fa := fa.on hbm))) | (with_reducible have hbm := below_c1 hbn; have hbk0 := hbk; replace hbk := hbk.trans (hbm.mono hbk.size); have nfb := hbk0.size; have fa := (new3 _ _ rfl 0 0 0 _).on hbn; have nfn := Nat.ne_of_lt hn.lt; have nfo := Nat.ne_of_lt ho.lt; replace hn := hn.on hbm; replace ho := ho.on hbm) | (with_reducible have hbm := below_d1 hbn; have hbk0 := hbk; replace hbk := hbk.trans (hbm.mono hbk.size); have nfb := hbk0.size; have fa := ((new3 _ _ rfl 0 0 0 _).on (Below.refl _ _).drew).on hbn; have nfn := Nat.ne_of_lt hn.lt; have nfo := Nat.ne_of_lt ho.lt; replace hn := hn.on hbm; replace ho := ho.on hbm)); (try (obtain ⟨-, -, ff⟩ := id fa; obtain ⟨f0, f1, f2⟩ := fa.v3))) | (go_at_call 37; refine (rdunit_any _ _ _ _ _ _).mono ?_; rintro e w9 ⟨rfl, hbn⟩; (first | (with_reducible have hbm := hbn; have hbk0 := hbk; replace hbk := hbk.trans (hbm.mono hbk.size); replace hn := hn.on hbm; replace ho := ho.on hbm; (try (replace fa := fa.on hbm))) | (with_reducible have hbm := draw_below hbn; have hbk0 := hbk; replace hbk := hbk.trans (hbm.mono hbk.size); replace hn := hn.on hbm; replace ho := ho.on hbm; (try (replace fa := fa.on hbm))) | (with_reducible have hbm := below_c1 hbn; have hbk0 := hbk; replace hbk := hbk.trans (hbm.mono hbk.size); have nfb := hbk0.size; have fa := (new3 _ _ rfl 0 0 0 _).on hbn; have nfn := Nat.ne_of_lt hn.lt; have nfo := Nat.ne_of_lt ho.lt; replace hn := hn.on hbm; replace ho := ho.on hbm) | (with_reducible have hbm := below_d1 hbn; have hbk0 := hbk; replace hbk := hbk.trans (hbm.mono hbk.size); have nfb := hbk0.size; have fa := ((new3 _ _ rfl 0 0 0 _).on (Below.refl _ _).drew).on hbn; have nfn := Nat.ne_of_lt hn.lt; have nfo := Nat.ne_of_lt ho.lt; replace hn := hn.on hbm; replace ho := ho.on hbm)); (try (obtain ⟨-, -, ff⟩ := id fa; obtain ⟨f0, f1, f2⟩ := fa.v3))))
    all_goals (go_wp2_with fail; go_meet; refine ⟨_, rfl, ?_, ?_, ?_, ?_⟩)
    all_goals first | (with_reducible exact fa.putf3 _ _ _) | (with_reducible exact (new3 _ _ rfl _ _ _ _)) | (with_reducible exact (new3 _ _ rfl _ _ _ _).putf3 _ _ _) | (with_reducible exact hn.far3 nfn _ _ _) | (with_reducible exact ho.far3 nfo _ _ _) | (with_reducible exact hn.on (below_n1 _ _)) | (with_reducible exact ho.on (below_n1 _ _)) | (with_reducible exact (hn.on (below_n1 _ _)).far3 (Nat.ne_of_lt hn.lt) _ _ _) | (with_reducible exact (ho.on (below_n1 _ _)).far3 (Nat.ne_of_lt ho.lt) _ _ _) | (with_reducible exact hbk.alloc hbk.size _) | (with_reducible exact below_set3 (hbk.alloc hbk.size _) hbk.size _ _ _) | (with_reducible exact below_set3 hbk nfb _ _ _) | trace_state
  case rest =>
    obtain ⟨g, rfl, hd, hn, ho, hbk⟩ := hcut
    obtain ⟨d0, d1, d2⟩ := hd.v3
    obtain ⟨n0, n1, n2⟩ := hn.v3
    go_wp2_with (first | (go_at_call 41; refine (rddot_any _ _ _ _ _ _ _).mono ?_; rintro e w9 ⟨rfl, hbn⟩; have hbm := hbn; replace hbk := hbk.trans (hbm.mono hbk.size); replace hd := hd.on hbm; replace hn := hn.on hbm; replace ho := ho.on hbm; obtain ⟨-, -, of⟩ := id ho; obtain ⟨o0, o1, o2⟩ := ho.v3; obtain ⟨d0, d1, d2⟩ := hd.v3; obtain ⟨n0, n1, n2⟩ := hn.v3))
    have hz : Bk (w.heap.size + 1) 3 (f3 nx ny nz) (((w9.setCell ⟨(w.heap.size + 1), 0, none⟩ (.int .i64 nx)).setCell ⟨(w.heap.size + 1), 1, none⟩ (.int .i64 ny)).setCell ⟨(w.heap.size + 1), 2, none⟩ (.int .i64 nz)) := ho.putf3 nx ny nz
    have hbz : Below w.heap.size w (((w9.setCell ⟨(w.heap.size + 1), 0, none⟩ (.int .i64 nx)).setCell ⟨(w.heap.size + 1), 1, none⟩ (.int .i64 ny)).setCell ⟨(w.heap.size + 1), 2, none⟩ (.int .i64 nz)) := below_set3 hbk (by omega) _ _ _
    obtain ⟨wz, hwz⟩ : ∃ wz, wz = (((w9.setCell ⟨(w.heap.size + 1), 0, none⟩ (.int .i64 nx)).setCell ⟨(w.heap.size + 1), 1, none⟩ (.int .i64 ny)).setCell ⟨(w.heap.size + 1), 2, none⟩ (.int .i64 nz)) := ⟨_, rfl⟩
    rw [← hwz] at hz hbz ⊢
    obtain ⟨z0, z1, z2⟩ := hz.v3
    clear hwz
    go_wp2
    exact bodyPost_ret (v := V3 nx ny nz) (by simp [results, Try.results36, go_sem, z0, z1, z2]) rfl ⟨rfl, hbz⟩


set_option maxHeartbeats 2000000 in
set_option maxRecDepth 100000 in
theorem rdome_any_neg (u v nx ny nz : Int) (h : dt (dx u v nx ny nz) (dy u v nx ny nz) (dz u v nx ny nz) nx ny nz > 0) (w : World) :
    Calls Try.prog 36 #[V3 nx ny nz, .int .i64 u, .int .i64 v] w fun e w' => e = .returned (V3 (dx u v nx ny nz) (dy u v nx ny nz) (dz u v nx ny nz)) ∧ Below w.heap.size w w' := by
  have hd0 : ¬ dt (dx u v nx ny nz) (dy u v nx ny nz) (dz u v nx ny nz) nx ny nz ≤ 0 := by omega
  have n_hn_ho : w.heap.size ≠ (w.heap.size + 1) := by omega
  go_enter Try.func36, Try.ntmps36
  go_upto_region 1 with fail
  obtain ⟨wq, hwq⟩ : ∃ wq, wq = ((w.alloc (.cells #[.int .i64 nx, .int .i64 ny, .int .i64 nz] 47)).alloc (.cells #[.int .i64 0, .int .i64 0, .int .i64 0] 47)) := ⟨_, rfl⟩
  rw [← hwq]
  have hn : Bk w.heap.size 3 (f3 nx ny nz) wq := by subst hwq; exact ((new3 _ w.heap.size (by simp) nx ny nz _).on (below_n1 _ _))
  have ho : Bk (w.heap.size + 1) 3 (f3 0 0 0) wq := by subst hwq; exact (new3 _ (w.heap.size + 1) (by simp) 0 0 0 _)
  have hbk : Below w.heap.size w wq := by subst hwq; exact (below_n2 w _ _)
  clear hwq
  go_cut [7] (fun s7 wx => ∃ g : Nat, s7 = .pointer (some ⟨g, 0, none⟩) ∧ Bk g 3 (f3 (dx u v nx ny nz) (dy u v nx ny nz) (dz u v nx ny nz)) wx ∧ Bk w.heap.size 3 (f3 nx ny nz) wx ∧ Bk (w.heap.size + 1) 3 (f3 0 0 0) wx ∧ Below w.heap.size w wx)
  case first =>
    go_region_held3 (fun w' => w'.cell? ⟨w.heap.size, 0, none⟩ = some (.int .i64 nx) ∧ w'.cell? ⟨w.heap.size, 1, none⟩ = some (.int .i64 ny) ∧ w'.cell? ⟨w.heap.size, 2, none⟩ = some (.int .i64 nz)) (first | (with_reducible exact hn.v3) | (with_reducible exact (hn.on (below_n1 _ _)).v3) | (with_reducible exact (hn.on (Below.refl _ _).drew).v3) | (with_reducible exact ((hn.on (below_n1 _ _)).on (Below.refl _ _).drew).v3) | (with_reducible exact (hn.far3 nfn _ _ _).v3) | (with_reducible exact ((hn.on (below_n1 _ _)).far3 (Nat.ne_of_lt hn.lt) _ _ _).v3)) (first | (go_at_call 60; refine (rglobe_any _ _ _).mono ?_; rintro e w9 ⟨rfl, hbn⟩; (first | (with_reducible have hbm := hbn; have hbk0 := hbk; replace hbk := hbk.trans (hbm.mono hbk.size); replace hn := hn.on hbm; replace ho := ho.on hbm; (try (replace fa := fa.on hbm))) | (with_reducible have hbm := draw_below hbn; have hbk0 := hbk; replace hbk := hbk.trans (hbm.mono hbk.size); replace hn := hn.on hbm; replace ho := ho.on hbm; (try (replace fa := fa.on hbm))) | (with_reducible have hbm := below_c1 hbn; have hbk0 := hbk; replace hbk := hbk.trans (hbm.mono hbk.size); have nfb := hbk0.size; have fa := (new3 _ _ rfl 0 0 0 _).on hbn; have nfn := Nat.ne_of_lt hn.lt; have nfo := Nat.ne_of_lt ho.lt; replace hn := hn.on hbm; replace ho := ho.on hbm) | (with_reducible have hbm := below_d1 hbn; have hbk0 := hbk; replace hbk := hbk.trans (hbm.mono hbk.size); have nfb := hbk0.size; have fa := ((new3 _ _ rfl 0 0 0 _).on (Below.refl _ _).drew).on hbn; have nfn := Nat.ne_of_lt hn.lt; have nfo := Nat.ne_of_lt ho.lt; replace hn := hn.on hbm; replace ho := ho.on hbm)); (try (obtain ⟨-, -, ff⟩ := id fa; obtain ⟨f0, f1, f2⟩ := fa.v3))) | (go_at_call 39; refine (radd_any _ _ _ _ _ _ _).mono ?_; rintro e w9 ⟨rfl, hbn⟩; (first | (with_reducible have hbm := hbn; have hbk0 := hbk; replace hbk := hbk.trans (hbm.mono hbk.size); replace hn := hn.on hbm; replace ho := ho.on hbm; (try (replace fa := fa.on hbm))) | (with_reducible have hbm := draw_below hbn; have hbk0 := hbk; replace hbk := hbk.trans (hbm.mono hbk.size); replace hn := hn.on hbm; replace ho := ho.on hbm; (try (replace fa := fa.on hbm))) | (with_reducible have hbm := below_c1 hbn; have hbk0 := hbk; replace hbk := hbk.trans (hbm.mono hbk.size); have nfb := hbk0.size; have fa := (new3 _ _ rfl 0 0 0 _).on hbn; have nfn := Nat.ne_of_lt hn.lt; have nfo := Nat.ne_of_lt ho.lt; replace hn := hn.on hbm; replace ho := ho.on hbm) | (with_reducible have hbm := below_d1 hbn; have hbk0 := hbk; replace hbk := hbk.trans (hbm.mono hbk.size); have nfb := hbk0.size; have fa := ((new3 _ _ rfl 0 0 0 _).on (Below.refl _ _).drew).on hbn; have nfn := Nat.ne_of_lt hn.lt; have nfo := Nat.ne_of_lt ho.lt; replace hn := hn.on hbm; replace ho := ho.on hbm)); (try (obtain ⟨-, -, ff⟩ := id fa; obtain ⟨f0, f1, f2⟩ := fa.v3))) | (go_at_call 37; refine (rdunit_any _ _ _ _ _ _).mono ?_; rintro e w9 ⟨rfl, hbn⟩; (first | (with_reducible have hbm := hbn; have hbk0 := hbk; replace hbk := hbk.trans (hbm.mono hbk.size); replace hn := hn.on hbm; replace ho := ho.on hbm; (try (replace fa := fa.on hbm))) | (with_reducible have hbm := draw_below hbn; have hbk0 := hbk; replace hbk := hbk.trans (hbm.mono hbk.size); replace hn := hn.on hbm; replace ho := ho.on hbm; (try (replace fa := fa.on hbm))) | (with_reducible have hbm := below_c1 hbn; have hbk0 := hbk; replace hbk := hbk.trans (hbm.mono hbk.size); have nfb := hbk0.size; have fa := (new3 _ _ rfl 0 0 0 _).on hbn; have nfn := Nat.ne_of_lt hn.lt; have nfo := Nat.ne_of_lt ho.lt; replace hn := hn.on hbm; replace ho := ho.on hbm) | (with_reducible have hbm := below_d1 hbn; have hbk0 := hbk; replace hbk := hbk.trans (hbm.mono hbk.size); have nfb := hbk0.size; have fa := ((new3 _ _ rfl 0 0 0 _).on (Below.refl _ _).drew).on hbn; have nfn := Nat.ne_of_lt hn.lt; have nfo := Nat.ne_of_lt ho.lt; replace hn := hn.on hbm; replace ho := ho.on hbm)); (try (obtain ⟨-, -, ff⟩ := id fa; obtain ⟨f0, f1, f2⟩ := fa.v3))))
    all_goals (go_wp2_with fail; go_meet; refine ⟨_, rfl, ?_, ?_, ?_, ?_⟩)
    all_goals first | (with_reducible exact fa.putf3 _ _ _) | (with_reducible exact (new3 _ _ rfl _ _ _ _)) | (with_reducible exact (new3 _ _ rfl _ _ _ _).putf3 _ _ _) | (with_reducible exact hn.far3 nfn _ _ _) | (with_reducible exact ho.far3 nfo _ _ _) | (with_reducible exact hn.on (below_n1 _ _)) | (with_reducible exact ho.on (below_n1 _ _)) | (with_reducible exact (hn.on (below_n1 _ _)).far3 (Nat.ne_of_lt hn.lt) _ _ _) | (with_reducible exact (ho.on (below_n1 _ _)).far3 (Nat.ne_of_lt ho.lt) _ _ _) | (with_reducible exact hbk.alloc hbk.size _) | (with_reducible exact below_set3 (hbk.alloc hbk.size _) hbk.size _ _ _) | (with_reducible exact below_set3 hbk nfb _ _ _) | trace_state
  case rest =>
    obtain ⟨g, rfl, hd, hn, ho, hbk⟩ := hcut
    obtain ⟨d0, d1, d2⟩ := hd.v3
    obtain ⟨n0, n1, n2⟩ := hn.v3
    go_wp2_with (first | (go_at_call 41; refine (rddot_any _ _ _ _ _ _ _).mono ?_; rintro e w9 ⟨rfl, hbn⟩; have hbm := hbn; replace hbk := hbk.trans (hbm.mono hbk.size); replace hd := hd.on hbm; replace hn := hn.on hbm; replace ho := ho.on hbm; obtain ⟨-, -, of⟩ := id ho; obtain ⟨o0, o1, o2⟩ := ho.v3; obtain ⟨d0, d1, d2⟩ := hd.v3; obtain ⟨n0, n1, n2⟩ := hn.v3))
    have hz : Bk (w.heap.size + 1) 3 (f3 (dx u v nx ny nz) (dy u v nx ny nz) (dz u v nx ny nz)) (((w9.setCell ⟨(w.heap.size + 1), 0, none⟩ (.int .i64 (dx u v nx ny nz))).setCell ⟨(w.heap.size + 1), 1, none⟩ (.int .i64 (dy u v nx ny nz))).setCell ⟨(w.heap.size + 1), 2, none⟩ (.int .i64 (dz u v nx ny nz))) := ho.putf3 (dx u v nx ny nz) (dy u v nx ny nz) (dz u v nx ny nz)
    have hbz : Below w.heap.size w (((w9.setCell ⟨(w.heap.size + 1), 0, none⟩ (.int .i64 (dx u v nx ny nz))).setCell ⟨(w.heap.size + 1), 1, none⟩ (.int .i64 (dy u v nx ny nz))).setCell ⟨(w.heap.size + 1), 2, none⟩ (.int .i64 (dz u v nx ny nz))) := below_set3 hbk (by omega) _ _ _
    obtain ⟨wz, hwz⟩ : ∃ wz, wz = (((w9.setCell ⟨(w.heap.size + 1), 0, none⟩ (.int .i64 (dx u v nx ny nz))).setCell ⟨(w.heap.size + 1), 1, none⟩ (.int .i64 (dy u v nx ny nz))).setCell ⟨(w.heap.size + 1), 2, none⟩ (.int .i64 (dz u v nx ny nz))) := ⟨_, rfl⟩
    rw [← hwz] at hz hbz ⊢
    obtain ⟨z0, z1, z2⟩ := hz.v3
    clear hwz
    go_wp2
    exact bodyPost_ret (v := V3 (dx u v nx ny nz) (dy u v nx ny nz) (dz u v nx ny nz)) (by simp [results, Try.results36, go_sem, z0, z1, z2]) rfl ⟨rfl, hbz⟩


theorem rdome_any (u v nx ny nz : Int) (w : World) : Calls Try.prog 36 #[V3 nx ny nz, .int .i64 u, .int .i64 v] w fun e w' => e = .returned (V3 (side u v nx ny nz (dx u v nx ny nz) nx) (side u v nx ny nz (dy u v nx ny nz) ny) (side u v nx ny nz (dz u v nx ny nz) nz)) ∧ Below w.heap.size w w' := by
  unfold side
  by_cases h : dt (dx u v nx ny nz) (dy u v nx ny nz) (dz u v nx ny nz) nx ny nz ≤ 0
  · rw [if_pos h, if_pos h, if_pos h]; exact rdome_any_pos u v nx ny nz h w
  · rw [if_neg h, if_neg h, if_neg h]; exact rdome_any_neg u v nx ny nz (by omega) w


end Go.Proofs.Ytplcbdmiccpnnaa.Ve
