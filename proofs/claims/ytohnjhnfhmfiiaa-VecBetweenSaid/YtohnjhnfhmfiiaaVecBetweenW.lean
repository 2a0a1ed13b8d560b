/- The walk of VecBetween: the law returns true, whatever two points, whatever number and whatever list of points come in; nothing that was there is written. -/
import Derived.Test.YtohnjhnfhmfiiaaVk
import Derived.Test.YtohnjhnfhmfiiaaVfs
import Derived.Test.YtohnjhnfhmfiiaaVla
import Derived.Test.YtohnjhnfhmfiiaaVo
import Derived.Test.YtohnjhnfhmfiiaaVg
import Derived.Test.YtohnjhnfhmfiiaaLs
import Derived.Test.YtohnjhnfhmfiiaaVm
import Derived.Deep.DeepCutAuto
namespace Go.Proofs.Ytohnjhnfhmfiiaa.vecBetweenW
open Go.RowKit Go.Proofs.Ytohnjhnfhmfiiaa Go.Proofs.Ytohnjhnfhmfiiaa.Wa Go.Proofs.Ytohnjhnfhmfiiaa.Ve Go.Proofs.Ytohnjhnfhmfiiaa.Ls Go.Proofs.Ytohnjhnfhmfiiaa.vecListsW

theorem fold_min_le (a : Int) (l : Nat → Int) : ∀ n, foldN min a l n ≤ a ∧ ∀ j, j < n → foldN min a l n ≤ l j
  | 0 => ⟨Int.le_refl _, fun j hj => absurd hj (by omega)⟩
  | n + 1 => by
    obtain ⟨h1, h2⟩ := fold_min_le a l n
    refine ⟨?_, fun j hj => ?_⟩
    · show min (foldN min a l n) (l n) ≤ a
      omega
    · show min (foldN min a l n) (l n) ≤ l j
      by_cases e : j = n
      · subst e; omega
      · have := h2 j (by omega); omega

theorem fold_max_le (a : Int) (l : Nat → Int) : ∀ n, a ≤ foldN max a l n ∧ ∀ j, j < n → l j ≤ foldN max a l n
  | 0 => ⟨Int.le_refl _, fun j hj => absurd hj (by omega)⟩
  | n + 1 => by
    obtain ⟨h1, h2⟩ := fold_max_le a l n
    refine ⟨?_, fun j hj => ?_⟩
    · show a ≤ max (foldN max a l n) (l n)
      omega
    · show l j ≤ max (foldN max a l n) (l n)
      by_cases e : j = n
      · subst e; omega
      · have := h2 j (by omega); omega

/-- the list's numbers, and the point's behind them -/
def withZ (n : Nat) (L : Nat → Int) (ax ay az : Int) (j : Nat) : Int := if j < n * 3 then L j else if j = n * 3 then ax else if j = n * 3 + 1 then ay else az

/-- a new point at zero, in a block of its own -/
def Fr (g : Nat) (w : World) : Prop := g < w.heap.size ∧ w.cell? ⟨g, 0, none⟩ = some (.int .i64 0) ∧ w.cell? ⟨g, 1, none⟩ = some (.int .i64 0) ∧ w.cell? ⟨g, 2, none⟩ = some (.int .i64 0) ∧ ∀ j, w.frozen? ⟨g, j, none⟩ = false

theorem Fr.new (w : World) (t : TypeId) : Fr w.heap.size (w.alloc (Obj.cells #[.int .i64 0, .int .i64 0, .int .i64 0] t)) :=
  ⟨by simp, new_at _ _ rfl _ _ 0 _ rfl, new_at _ _ rfl _ _ 1 _ rfl, new_at _ _ rfl _ _ 2 _ rfl, fun j => by go_simp⟩

theorem Fr.new2 (w : World) (o : Obj) (t : TypeId) : Fr (w.heap.size + 1) ((w.alloc o).alloc (Obj.cells #[.int .i64 0, .int .i64 0, .int .i64 0] t)) := by
  have h := Fr.new (w.alloc o) t
  rwa [show (w.alloc o).heap.size = w.heap.size + 1 by simp] at h

theorem Fr.on {g : Nat} {w w' : World} (h : Fr g w) (hb : Below w.heap.size w w') : Fr g w' := by
  obtain ⟨h0, h1, h2, h3, h4⟩ := h
  obtain ⟨hc, hf⟩ := bcell hb
  exact ⟨Nat.lt_of_lt_of_le h0 hb.size, (hc _ _ h0).trans h1, (hc _ _ h0).trans h2, (hc _ _ h0).trans h3, fun j => (hf _ _ h0).trans (h4 j)⟩

theorem withZ0 (n : Nat) (L : Nat → Int) (ax ay az : Int) : withZ n L ax ay az (n * 3) = ax := by
  unfold withZ; rw [if_neg (by omega), if_pos rfl]

theorem withZ1 (n : Nat) (L : Nat → Int) (ax ay az : Int) : withZ n L ax ay az (n * 3 + 1) = ay := by
  unfold withZ; rw [if_neg (by omega), if_neg (by omega), if_pos rfl]

theorem withZ2 (n : Nat) (L : Nat → Int) (ax ay az : Int) : withZ n L ax ay az (n * 3 + 2) = az := by
  unfold withZ; rw [if_neg (by omega), if_neg (by omega), if_neg (by omega)]

theorem flat_withZ (n : Nat) (L : Nat → Int) (ax ay az : Int) : flat L n ++ [.int .i64 ax, .int .i64 ay, .int .i64 az] = flat (withZ n L ax ay az) (n + 1) := by
  rw [flat_step]
  have e : flat (withZ n L ax ay az) n = flat L n := by
    unfold flat
    refine List.map_congr_left fun j hj => ?_
    simp only [List.mem_range] at hj
    simp only [withZ, if_pos hj]
  rw [e, withZ0, withZ1, withZ2]

theorem lowZ (n : Nat) (L : Nat → Int) (ax ay az : Int) (j : Nat) (hj : j < n + 1) : (foldN min ax (fun j => L (j * 3)) n) ≤ withZ n L ax ay az (j * 3) ∧ (foldN min ay (fun j => L (j * 3 + 1)) n) ≤ withZ n L ax ay az (j * 3 + 1) ∧ (foldN min az (fun j => L (j * 3 + 2)) n) ≤ withZ n L ax ay az (j * 3 + 2) := by
  have h0 := fold_min_le ax (fun j => L (j * 3)) n
  have h1 := fold_min_le ay (fun j => L (j * 3 + 1)) n
  have h2 := fold_min_le az (fun j => L (j * 3 + 2)) n
  by_cases e : j < n
  · simp only [withZ, if_pos (show j * 3 < n * 3 by omega), if_pos (show j * 3 + 1 < n * 3 by omega), if_pos (show j * 3 + 2 < n * 3 by omega)]
    exact ⟨h0.2 j e, h1.2 j e, h2.2 j e⟩
  · obtain rfl : j = n := by omega
    rw [withZ0, withZ1, withZ2]
    exact ⟨h0.1, h1.1, h2.1⟩

theorem highZ (n : Nat) (L : Nat → Int) (ax ay az : Int) (j : Nat) (hj : j < n + 1) : withZ n L ax ay az (j * 3) ≤ (foldN max ax (fun j => L (j * 3)) n) ∧ withZ n L ax ay az (j * 3 + 1) ≤ (foldN max ay (fun j => L (j * 3 + 1)) n) ∧ withZ n L ax ay az (j * 3 + 2) ≤ (foldN max az (fun j => L (j * 3 + 2)) n) := by
  have h0 := fold_max_le ax (fun j => L (j * 3)) n
  have h1 := fold_max_le ay (fun j => L (j * 3 + 1)) n
  have h2 := fold_max_le az (fun j => L (j * 3 + 2)) n
  by_cases e : j < n
  · simp only [withZ, if_pos (show j * 3 < n * 3 by omega), if_pos (show j * 3 + 1 < n * 3 by omega), if_pos (show j * 3 + 2 < n * 3 by omega)]
    exact ⟨h0.2 j e, h1.2 j e, h2.2 j e⟩
  · obtain rfl : j = n := by omega
    rw [withZ0, withZ1, withZ2]
    exact ⟨h0.1, h1.1, h2.1⟩

theorem At.v3 {g : Nat} {x y z : Int} {w : World} (h : At g x y z w) : w.cell? ⟨g, 0, none⟩ = some (.int .i64 x) ∧ w.cell? ⟨g, 1, none⟩ = some (.int .i64 y) ∧ w.cell? ⟨g, 2, none⟩ = some (.int .i64 z) := h.2

theorem fresh3 (w : World) (x y z : Int) (t : TypeId) : Bk w.heap.size 3 (f3 x y z) (w.alloc (.cells #[.int .i64 x, .int .i64 y, .int .i64 z] t)) := new3 w _ rfl x y z t

theorem Bk.at3 {g : Nat} {x y z : Int} {w : World} (h : Bk g 3 (f3 x y z) w) : At g x y z w := ⟨h.1, h.v3⟩

/-- the first point's variable, and nothing that was there written -/
def Two2 (w : World) (ax ay az : Int) (wr : World) : Prop :=
  wr.cell? ⟨w.heap.size, 0, none⟩ = some (.int .i64 ax) ∧ wr.cell? ⟨w.heap.size, 1, none⟩ = some (.int .i64 ay) ∧ wr.cell? ⟨w.heap.size, 2, none⟩ = some (.int .i64 az) ∧ w.heap.size + 2 ≤ wr.heap.size ∧ Below w.heap.size w wr

theorem Two2.on {w : World} {ax ay az : Int} {wr w' : World} (h : Two2 w ax ay az wr) (hb : Below wr.heap.size wr w') : Two2 w ax ay az w' := by
  obtain ⟨h5, h6, h7, h8, h9⟩ := h
  obtain ⟨hc, hf⟩ := bcell hb
  exact ⟨(hc _ _ (by omega)).trans h5, (hc _ _ (by omega)).trans h6, (hc _ _ (by omega)).trans h7, Nat.le_trans h8 hb.size, h9.trans (hb.mono h9.size)⟩

theorem Two2.grown {w : World} {ax ay az : Int} {wr w' : World} {row : Option Nat} (h : Two2 w ax ay az wr) (hg : wr.grownBy w' row) (hr : ∀ k, row = some k → w.heap.size + 2 ≤ k) : Two2 w ax ay az w' := by
  obtain ⟨h5, h6, h7, h8, h9⟩ := h
  have e0 : some w.heap.size ≠ row := fun e => by have := hr _ e.symm; omega
  exact ⟨hg.cell h5 e0, hg.cell h6 e0, hg.cell h7 e0, Nat.le_trans h8 hg.size, h9.grown hg (by omega) (fun k hk => by have := hr k hk; omega)⟩

theorem infoVec : (Try.prog.info? 29).map (fun i => (i.zero, i.size, i.bytes)) = some (some (.agg #[.int .i64 0, .int .i64 0, .int .i64 0]), 3, 24) := by kernel_rfl

theorem alloc_other {w : World} {o o' : Obj} {k j : Nat} {v : Value} (hk : k < w.heap.size) (h : (w.alloc o).cell? ⟨k, j, none⟩ = some v) : (w.alloc o').cell? ⟨k, j, none⟩ = some v := by
  rw [World.cell?_alloc_past _ _ _ hk] at h ⊢; exact h

theorem at_0 (ax ay az : Int) (w : World) : Calls Try.prog 34 #[V3 ax ay az, .int .i64 0] w fun e w' => e = .returned (.int .i64 ax) ∧ Below w.heap.size w w' := at_any ax ay az 0 w

theorem at_1 (ax ay az : Int) (w : World) : Calls Try.prog 34 #[V3 ax ay az, .int .i64 1] w fun e w' => e = .returned (.int .i64 ay) ∧ Below w.heap.size w w' := at_any ax ay az 1 w

theorem at_2 (ax ay az : Int) (w : World) : Calls Try.prog 34 #[V3 ax ay az, .int .i64 2] w fun e w' => e = .returned (.int .i64 az) ∧ Below w.heap.size w w' := at_any ax ay az 2 w

set_option maxHeartbeats 8000000 in
set_option maxRecDepth 100000 in
theorem walk (ax ay az bx by_ bz t : Int) (a : Option Addr) (len cap : Nat) (L : Nat → Int) (w : World) (hr : IsRow3 w a len L) :
    Calls Try.prog 5 #[V3 ax ay az, V3 bx by_ bz, .int .i64 t, .slice a len cap] w fun e w' => e = .returned (.bool true) ∧ Below w.heap.size w w' := by
  obtain ⟨i0, hi, hz0, hz1, hz2⟩ := info_parts infoVec
  have HR := Lib.hid hr
  clear hr
  have HL0 := Lib.hid (Pl.lerp_between ax bx t)
  have HL1 := Lib.hid (Pl.lerp_between ay by_ t)
  have HL2 := Lib.hid (Pl.lerp_between az bz t)
  go_enter Try.func5, Try.ntmps5
  go_upto_region 1 with fail
  go_cut [9] (fun s9 wx => ∃ g : Nat, s9 = .pointer (some ⟨g, 0, none⟩) ∧ wx.cell? ⟨g, 0, none⟩ = some (.int .i64 (Pl.lerp ax bx t)) ∧ wx.cell? ⟨g, 1, none⟩ = some (.int .i64 (Pl.lerp ay by_ t)) ∧ wx.cell? ⟨g, 2, none⟩ = some (.int .i64 (Pl.lerp az bz t)) ∧ wx.cell? ⟨w.heap.size, 0, none⟩ = some (.int .i64 ax) ∧ wx.cell? ⟨w.heap.size, 1, none⟩ = some (.int .i64 ay) ∧ wx.cell? ⟨w.heap.size, 2, none⟩ = some (.int .i64 az) ∧ wx.cell? ⟨w.heap.size + 1, 0, none⟩ = some (.int .i64 bx) ∧ wx.cell? ⟨w.heap.size + 1, 1, none⟩ = some (.int .i64 by_) ∧ wx.cell? ⟨w.heap.size + 1, 2, none⟩ = some (.int .i64 bz) ∧ Below w.heap.size w wx)
  case first =>
    go_region_held3 (fun w' => w'.cell? ⟨w.heap.size, 0, none⟩ = some (.int .i64 ax) ∧ w'.cell? ⟨w.heap.size, 1, none⟩ = some (.int .i64 ay) ∧ w'.cell? ⟨w.heap.size, 2, none⟩ = some (.int .i64 az) ∧ w'.cell? ⟨w.heap.size + 1, 0, none⟩ = some (.int .i64 bx) ∧ w'.cell? ⟨w.heap.size + 1, 1, none⟩ = some (.int .i64 by_) ∧ w'.cell? ⟨w.heap.size + 1, 2, none⟩ = some (.int .i64 bz)) (first | (go_keep; done) | ((try dsimp only); refine ⟨?_, ?_, ?_, ?_, ?_, ?_⟩ <;> (go_simp; done)) | (go_split_ands; (try dsimp only); exact ⟨held_on hbn (by assumption), held_on hbn (by assumption), held_on hbn (by assumption), held_on hbn (by assumption), held_on hbn (by assumption), held_on hbn (by assumption)⟩) | (go_split_ands; (try dsimp only); exact ⟨held_on (below_n1 _ _) (by assumption), held_on (below_n1 _ _) (by assumption), held_on (below_n1 _ _) (by assumption), held_on (below_n1 _ _) (by assumption), held_on (below_n1 _ _) (by assumption), held_on (below_n1 _ _) (by assumption)⟩) | (go_split_ands; (try dsimp only); exact ⟨alloc_other (by omega) (by assumption), alloc_other (by omega) (by assumption), alloc_other (by omega) (by assumption), alloc_other (by omega) (by assumption), alloc_other (by omega) (by assumption), alloc_other (by omega) (by assumption)⟩) | (simp [go_sem, World.cell?_alloc_past]; done)) (first | (go_at_call 18; refine (to_exact _ _ _ _).mono ?_; rintro e w9 ⟨rfl, rfl⟩) | (go_at_call 32; refine (mix_any _ _ _ _ _ _ _ _).mono ?_; rintro e w9 ⟨rfl, hbn⟩; obtain ⟨hc, hf⟩ := bcell hbn; have hz := hbn.size; simp at hz))
    all_goals (go_wp2_with fail; go_meet; refine ⟨_, rfl, ?_, ?_, ?_, ?_, ?_, ?_, ?_, ?_, ?_, ?_⟩)
    all_goals first | (go_simp; done) | (repeat (first | exact Below.refl _ _ | apply Below.drew | (refine Below.setCell ?_ (by first | omega | (simp; done) | (simp; omega)) _) | (refine Below.alloc ?_ (by first | omega | (simp; done) | (simp; omega)) _) | (refine Below.trans ?_ (hbn.mono (by first | omega | (simp; done) | (simp; omega)))))) | trace_state
  case rest =>
    obtain ⟨g, rfl, m0, m1, m2, a0, a1, a2, b0, b1, b2, hbk⟩ := hcut
    go_wp2_with fail
    refine wp_loop_rounds 4 ?_
    have p1 : decide (Pl.lerp ax bx t < min (Pl.held ax) (Pl.held bx)) = false := decide_eq_false (Int.not_lt.2 HL0.out.1)
    have p2 : decide (max (Pl.held ax) (Pl.held bx) < Pl.lerp ax bx t) = false := decide_eq_false (Int.not_lt.2 HL0.out.2)
    have q1 : decide (Pl.lerp ay by_ t < min (Pl.held ay) (Pl.held by_)) = false := decide_eq_false (Int.not_lt.2 HL1.out.1)
    have q2 : decide (max (Pl.held ay) (Pl.held by_) < Pl.lerp ay by_ t) = false := decide_eq_false (Int.not_lt.2 HL1.out.2)
    have r1 : decide (Pl.lerp az bz t < min (Pl.held az) (Pl.held bz)) = false := decide_eq_false (Int.not_lt.2 HL2.out.1)
    have r2 : decide (max (Pl.held az) (Pl.held bz) < Pl.lerp az bz t) = false := decide_eq_false (Int.not_lt.2 HL2.out.2)
    rw [rounds_succ]
    go_wp2_with fail
    go_region_held3 (fun w' => w'.cell? ⟨g, 0, none⟩ = some (.int .i64 (Pl.lerp ax bx t)) ∧ w'.cell? ⟨g, 1, none⟩ = some (.int .i64 (Pl.lerp ay by_ t)) ∧ w'.cell? ⟨g, 2, none⟩ = some (.int .i64 (Pl.lerp az bz t)) ∧ w'.cell? ⟨w.heap.size, 0, none⟩ = some (.int .i64 ax) ∧ w'.cell? ⟨w.heap.size, 1, none⟩ = some (.int .i64 ay) ∧ w'.cell? ⟨w.heap.size, 2, none⟩ = some (.int .i64 az) ∧ w'.cell? ⟨w.heap.size + 1, 0, none⟩ = some (.int .i64 bx) ∧ w'.cell? ⟨w.heap.size + 1, 1, none⟩ = some (.int .i64 by_) ∧ w'.cell? ⟨w.heap.size + 1, 2, none⟩ = some (.int .i64 bz)) (first | (go_keep; done) | (go_split_ands; (try dsimp only); exact ⟨held_on hbn (by assumption), held_on hbn (by assumption), held_on hbn (by assumption), held_on hbn (by assumption), held_on hbn (by assumption), held_on hbn (by assumption), held_on hbn (by assumption), held_on hbn (by assumption), held_on hbn (by assumption)⟩)) (first | (go_at_call 33; refine (held_any _ _).mono ?_; rintro e w9 ⟨rfl, rfl⟩) | (go_at_call 34; refine (at_0 _ _ _ _).mono ?_; rintro e w9 ⟨rfl, hbn⟩; (first | (replace hbk := hbk.trans (hbn.mono hbk.size)) | (replace hbk := hbk.drew.trans (hbn.mono hbk.drew.size)))))
    go_wp2
    rw [rounds_succ]
    go_wp2_with fail
    go_region_held3 (fun w' => w'.cell? ⟨g, 0, none⟩ = some (.int .i64 (Pl.lerp ax bx t)) ∧ w'.cell? ⟨g, 1, none⟩ = some (.int .i64 (Pl.lerp ay by_ t)) ∧ w'.cell? ⟨g, 2, none⟩ = some (.int .i64 (Pl.lerp az bz t)) ∧ w'.cell? ⟨w.heap.size, 0, none⟩ = some (.int .i64 ax) ∧ w'.cell? ⟨w.heap.size, 1, none⟩ = some (.int .i64 ay) ∧ w'.cell? ⟨w.heap.size, 2, none⟩ = some (.int .i64 az) ∧ w'.cell? ⟨w.heap.size + 1, 0, none⟩ = some (.int .i64 bx) ∧ w'.cell? ⟨w.heap.size + 1, 1, none⟩ = some (.int .i64 by_) ∧ w'.cell? ⟨w.heap.size + 1, 2, none⟩ = some (.int .i64 bz)) (first | (go_keep; done) | (go_split_ands; (try dsimp only); exact ⟨held_on hbn (by assumption), held_on hbn (by assumption), held_on hbn (by assumption), held_on hbn (by assumption), held_on hbn (by assumption), held_on hbn (by assumption), held_on hbn (by assumption), held_on hbn (by assumption), held_on hbn (by assumption)⟩)) (first | (go_at_call 33; refine (held_any _ _).mono ?_; rintro e w9 ⟨rfl, rfl⟩) | (go_at_call 34; refine (at_1 _ _ _ _).mono ?_; rintro e w9 ⟨rfl, hbn⟩; (first | (replace hbk := hbk.trans (hbn.mono hbk.size)) | (replace hbk := hbk.drew.trans (hbn.mono hbk.drew.size)))))
    go_wp2
    rw [rounds_succ]
    go_wp2_with fail
    go_region_held3 (fun w' => w'.cell? ⟨g, 0, none⟩ = some (.int .i64 (Pl.lerp ax bx t)) ∧ w'.cell? ⟨g, 1, none⟩ = some (.int .i64 (Pl.lerp ay by_ t)) ∧ w'.cell? ⟨g, 2, none⟩ = some (.int .i64 (Pl.lerp az bz t)) ∧ w'.cell? ⟨w.heap.size, 0, none⟩ = some (.int .i64 ax) ∧ w'.cell? ⟨w.heap.size, 1, none⟩ = some (.int .i64 ay) ∧ w'.cell? ⟨w.heap.size, 2, none⟩ = some (.int .i64 az) ∧ w'.cell? ⟨w.heap.size + 1, 0, none⟩ = some (.int .i64 bx) ∧ w'.cell? ⟨w.heap.size + 1, 1, none⟩ = some (.int .i64 by_) ∧ w'.cell? ⟨w.heap.size + 1, 2, none⟩ = some (.int .i64 bz)) (first | (go_keep; done) | (go_split_ands; (try dsimp only); exact ⟨held_on hbn (by assumption), held_on hbn (by assumption), held_on hbn (by assumption), held_on hbn (by assumption), held_on hbn (by assumption), held_on hbn (by assumption), held_on hbn (by assumption), held_on hbn (by assumption), held_on hbn (by assumption)⟩)) (first | (go_at_call 33; refine (held_any _ _).mono ?_; rintro e w9 ⟨rfl, rfl⟩) | (go_at_call 34; refine (at_2 _ _ _ _).mono ?_; rintro e w9 ⟨rfl, hbn⟩; (first | (replace hbk := hbk.trans (hbn.mono hbk.size)) | (replace hbk := hbk.drew.trans (hbn.mono hbk.drew.size)))))
    go_wp2
    rw [rounds_succ]
    go_wp2_with fail
    have hS : w9.cell? ⟨g, 0, none⟩ = some (.int .i64 (Pl.lerp ax bx t)) ∧ w9.cell? ⟨g, 1, none⟩ = some (.int .i64 (Pl.lerp ay by_ t)) ∧ w9.cell? ⟨g, 2, none⟩ = some (.int .i64 (Pl.lerp az bz t)) ∧ w9.cell? ⟨w.heap.size, 0, none⟩ = some (.int .i64 ax) ∧ w9.cell? ⟨w.heap.size, 1, none⟩ = some (.int .i64 ay) ∧ w9.cell? ⟨w.heap.size, 2, none⟩ = some (.int .i64 az) ∧ w9.cell? ⟨w.heap.size + 1, 0, none⟩ = some (.int .i64 bx) ∧ w9.cell? ⟨w.heap.size + 1, 1, none⟩ = some (.int .i64 by_) ∧ w9.cell? ⟨w.heap.size + 1, 2, none⟩ = some (.int .i64 bz) := by assumption
    have HB0 : Two2 w ax ay az w9 := ⟨hS.2.2.2.1, hS.2.2.2.2.1, hS.2.2.2.2.2.1, World.block_lt_of_cell? _ _ hS.2.2.2.2.2.2.1, hbk⟩
    clear hS m0 m1 m2 b0 b1 b2 a0 a1 a2 p1 p2 q1 q2 r1 r2 HL0 HL1 HL2
    go_loopw [14, 57] (fun s14 s57 wr => ∃ k : Nat, k ≤ len ∧ s57 = .int .i64 k ∧ wr.ownsRow (w.heap.size + 2) 29 3 s14 (min k 50) (flat L (min k 50)) ∧ Two2 w ax ay az wr) (fun _ s57 _ => len - (intOf s57).toNat)
    case atStart => exact ⟨0, by omega, rfl, World.ownsRow_nil _ _ _ _, HB0⟩
    case round =>
      obtain ⟨k, hk, rfl, hin, hbase⟩ := hrel
      by_cases hlt : k < len
      · rcases HR.out with h0 | ⟨b, off, rfl, hb, hm, hc⟩
        · exact absurd hlt (by omega)
        · have hnx : Below w.heap.size w wr := hbase.2.2.2.2
          have C0 : wr.cell? ⟨b, off + k * 3, none⟩ = some (.int .i64 (L (k * 3))) := (hnx.cell (p := ⟨b, off + k * 3, none⟩) hb).trans (hc (k * 3) (by omega))
          have C1 : wr.cell? ⟨b, off + k * 3 + 1, none⟩ = some (.int .i64 (L (k * 3 + 1))) := (hnx.cell (p := ⟨b, off + (k * 3 + 1), none⟩) hb).trans (hc (k * 3 + 1) (by omega))
          have C2 : wr.cell? ⟨b, off + k * 3 + 2, none⟩ = some (.int .i64 (L (k * 3 + 2))) := (hnx.cell (p := ⟨b, off + (k * 3 + 2), none⟩) hb).trans (hc (k * 3 + 2) (by omega))
          have HC := Lib.hid hc
          have HN := Lib.hid hnx
          clear hc hnx
          by_cases h50 : k < 50
          · have e1 : min k 50 = k := by omega
            have e2 : min (k + 1) 50 = k + 1 := by omega
            rw [e1] at hin
            have HI := Lib.hid hin
            have HB := Lib.hid hbase
            clear hin hbase
            go_wp2_with fail
            refine (to_any _ _ _ _).mono ?_
            rintro e w1 ⟨rfl, hb1⟩
            have HI2 := Lib.hid (own_below (own_below HI.out (below_n1 _ _)) hb1)
            have HB2 := Lib.hid ((HB.out.on (below_n1 _ _)).on hb1)
            clear C0 C1 C2
            go_wp2_with (first | (at_builtin; refine wpList_append_own _ rfl _ _ 56 rfl (w.heap.size + 2) 29 i0 (.agg #[.int .i64 0, .int .i64 0, .int .i64 0]) 3 24 Try.underlying56 hi hz0 hz1 hz2 rfl (by decide) _ _ _ rfl (HI2.out.alloc _) ⟨w1.heap.size, 0, none⟩ 1 1 [.int .i64 (L (k * 3)), .int .i64 (L (k * 3 + 1)), .int .i64 (L (k * 3 + 2))] rfl rfl ?c1 ?c2 ?c3 ?c4 ?c5 ?_))
            case c1 =>
              intro j u hj
              match j, hj with
              | 0, hj => simp at hj; subst hj; simp [Addr.add]
              | 1, hj => simp at hj; subst hj; simp [Addr.add]
              | 2, hj => simp at hj; subst hj; simp [Addr.add]
            case c2 => intro u hu; simp at hu; rcases hu with rfl | rfl | rfl <;> rfl
            case c3 => unfold maxLen; omega
            case c4 => omega
            case c5 => have := HB2.out.2.2.2.1; simp; omega
            intro v5 w2 hin2 hgrow _
            rw [← flat_step] at hin2
            have HI3 := Lib.hid hin2
            have HB3 := Lib.hid ((HB2.out.on (below_n1 _ _)).grown hgrow (fun k hk => (HI2.out.lt k hk).1))
            clear HI2 HB2 hin2 hgrow
            go_wp2_with fail
            go_roundw
            case rel => exact ⟨k + 1, by omega, by go_num, by rw [e2]; exact HI3.out, HB3.out⟩
            case measure => simp [intOf]; omega
          · have e1 : min k 50 = 50 := by omega
            have e2 : min (k + 1) 50 = 50 := by omega
            rw [e1] at hin
            have HI := Lib.hid (hin.alloc)
            have HB := Lib.hid hbase
            clear hin hbase
            go_wp2_with fail
            go_roundw
            case rel => exact ⟨k + 1, by omega, by go_num, by rw [e2]; exact HI.out _, HB.out.on (below_n1 _ _)⟩
            case measure => simp [intOf]; omega
      · obtain ⟨n, hn⟩ : ∃ n, n = min k 50 := ⟨_, rfl⟩
        rw [← hn] at hin
        have hn50 : n ≤ 50 := by omega
        have hn51 : n ≤ 4611686018427387904 := by omega
        obtain ⟨s14, hs14⟩ : ∃ s, s = u14 := ⟨_, rfl⟩
        subst hs14
        have HP := Lib.hid (own_pts hin)
        have HI := Lib.hid hin
        have HB := Lib.hid hbase
        have hbk : Below wr.heap.size wr wr := Below.refl _ _
        clear hin hbase HR hn
        go_upto_region 16 with fail
        go_cut [17, 18] (fun s17 s18 wx => ∃ gl gh : Nat, s17 = .pointer (some ⟨gl, 0, none⟩) ∧ s18 = .pointer (some ⟨gh, 0, none⟩) ∧ wr.heap.size ≤ gl ∧ wr.heap.size ≤ gh ∧ At gl (foldN min ax (fun j => L (j * 3)) n) (foldN min ay (fun j => L (j * 3 + 1)) n) (foldN min az (fun j => L (j * 3 + 2)) n) wx ∧ At gh (foldN max ax (fun j => L (j * 3)) n) (foldN max ay (fun j => L (j * 3 + 1)) n) (foldN max az (fun j => L (j * 3 + 2)) n) wx ∧ Below wr.heap.size wr wx)
        case first =>
          have hp := HP.out
          have hw2 : w.heap.size + 2 ≤ wr.heap.size := HB.out.2.2.2.1
          have hn : At w.heap.size ax ay az wr := ⟨by omega, HB.out.1, HB.out.2.1, HB.out.2.2.1⟩
          go_region_held3 (fun w' => w'.cell? ⟨w.heap.size, 0, none⟩ = some (.int .i64 ax) ∧ w'.cell? ⟨w.heap.size, 1, none⟩ = some (.int .i64 ay) ∧ w'.cell? ⟨w.heap.size, 2, none⟩ = some (.int .i64 az)) ((with_reducible refine At.v3 ?_; (repeat (first | (with_reducible exact hn) | (with_reducible refine At.put ?_ ?_ _ _ _) | (with_reducible refine At.on ?_ (below_n1 _ _)) | omega | (simp; omega) | (with_reducible refine At.on ?_ (Below.refl _ _).drew))))) (first | (go_at_call 18; refine (to_any _ _ _ _).mono ?_; rintro e w9 ⟨rfl, hbn⟩; (first | (with_reducible have hbm := hbn; have hz0 := hbk.size; have hz1 := hbm.size; replace hbk := hbk.trans (hbm.mono hbk.size); replace hn := hn.on hbm; replace hp := hp.on hbm; (try (replace fa := fa.on hbm)); (try (replace fb := fb.on hbm))) | (with_reducible have hbm := draw_below hbn; have hz0 := hbk.size; have hz1 := hbm.size; replace hbk := hbk.trans (hbm.mono hbk.size); replace hn := hn.on hbm; replace hp := hp.on hbm; (try (replace fa := fa.on hbm)); (try (replace fb := fb.on hbm))) | (with_reducible have hbm := below_c1 hbn; have hz0 := hbk.size; have hz1 := hbm.size; have fx := (new3 _ _ rfl 0 0 0 _).on hbn; replace hbk := hbk.trans (hbm.mono hbk.size); replace hn := hn.on hbm; replace hp := hp.on hbm; (try (replace fa := fa.on hbm)); (try (replace fb := fb.on hbm)); (first | (have fq := fa; have fb := fx) | (have fa := fx))) | (with_reducible have hbm := below_d1 hbn; have hz0 := hbk.size; have hz1 := hbm.size; have fx := ((new3 _ _ rfl 0 0 0 _).on (Below.refl _ _).drew).on hbn; replace hbk := hbk.trans (hbm.mono hbk.size); replace hn := hn.on hbm; replace hp := hp.on hbm; (try (replace fa := fa.on hbm)); (try (replace fb := fb.on hbm)); (first | (have fq := fa; have fb := fx) | (have fa := fx))) | (with_reducible have hbm := below_c2 hbn; have hz0 := hbk.size; have hz1 := hbm.size; have fx := ((new3 _ _ rfl 0 0 0 _).on (below_n1 _ _)).on hbn; have fy := (new3 _ _ rfl 0 0 0 _).on hbn; replace hbk := hbk.trans (hbm.mono hbk.size); replace hn := hn.on hbm; replace hp := hp.on hbm; (try (replace fa := fa.on hbm)); (try (replace fb := fb.on hbm)); have fa := fx; have fb := fy) | (with_reducible have hbm := below_d2 hbn; have hz0 := hbk.size; have hz1 := hbm.size; have fx := (((new3 _ _ rfl 0 0 0 _).on (below_n1 _ _)).on (Below.refl _ _).drew).on hbn; have fy := ((new3 _ _ rfl 0 0 0 _).on (Below.refl _ _).drew).on hbn; replace hbk := hbk.trans (hbm.mono hbk.size); replace hn := hn.on hbm; replace hp := hp.on hbm; (try (replace fa := fa.on hbm)); (try (replace fb := fb.on hbm)); have fa := fx; have fb := fy)); (try (simp at fb)); (try (have la := fa.lt; obtain ⟨-, -, af⟩ := id fa; obtain ⟨a0, a1, a2⟩ := fa.v3)); (try (have lb := fb.lt; obtain ⟨-, -, bf⟩ := id fb; obtain ⟨b0, b1, b2⟩ := fb.v3))) | (go_at_call 35; refine (least3_any _ _ _ s14 n _ _ _ hn51 _ (by first | (with_reducible exact hp) | (with_reducible exact hp.on (below_n1 _ _)) | (with_reducible exact hp.on (Below.refl _ _).drew) | (with_reducible exact (hp.on (below_n1 _ _)).on (below_n1 _ _)) | (with_reducible exact (hp.on (below_n1 _ _)).on (Below.refl _ _).drew) | (with_reducible exact ((hp.on (below_n1 _ _)).on (below_n1 _ _)).on (Below.refl _ _).drew))).mono ?_; rintro e w9 ⟨rfl, hbn⟩; (first | (with_reducible have hbm := hbn; have hz0 := hbk.size; have hz1 := hbm.size; replace hbk := hbk.trans (hbm.mono hbk.size); replace hn := hn.on hbm; replace hp := hp.on hbm; (try (replace fa := fa.on hbm)); (try (replace fb := fb.on hbm))) | (with_reducible have hbm := draw_below hbn; have hz0 := hbk.size; have hz1 := hbm.size; replace hbk := hbk.trans (hbm.mono hbk.size); replace hn := hn.on hbm; replace hp := hp.on hbm; (try (replace fa := fa.on hbm)); (try (replace fb := fb.on hbm))) | (with_reducible have hbm := below_c1 hbn; have hz0 := hbk.size; have hz1 := hbm.size; have fx := (new3 _ _ rfl 0 0 0 _).on hbn; replace hbk := hbk.trans (hbm.mono hbk.size); replace hn := hn.on hbm; replace hp := hp.on hbm; (try (replace fa := fa.on hbm)); (try (replace fb := fb.on hbm)); (first | (have fq := fa; have fb := fx) | (have fa := fx))) | (with_reducible have hbm := below_d1 hbn; have hz0 := hbk.size; have hz1 := hbm.size; have fx := ((new3 _ _ rfl 0 0 0 _).on (Below.refl _ _).drew).on hbn; replace hbk := hbk.trans (hbm.mono hbk.size); replace hn := hn.on hbm; replace hp := hp.on hbm; (try (replace fa := fa.on hbm)); (try (replace fb := fb.on hbm)); (first | (have fq := fa; have fb := fx) | (have fa := fx))) | (with_reducible have hbm := below_c2 hbn; have hz0 := hbk.size; have hz1 := hbm.size; have fx := ((new3 _ _ rfl 0 0 0 _).on (below_n1 _ _)).on hbn; have fy := (new3 _ _ rfl 0 0 0 _).on hbn; replace hbk := hbk.trans (hbm.mono hbk.size); replace hn := hn.on hbm; replace hp := hp.on hbm; (try (replace fa := fa.on hbm)); (try (replace fb := fb.on hbm)); have fa := fx; have fb := fy) | (with_reducible have hbm := below_d2 hbn; have hz0 := hbk.size; have hz1 := hbm.size; have fx := (((new3 _ _ rfl 0 0 0 _).on (below_n1 _ _)).on (Below.refl _ _).drew).on hbn; have fy := ((new3 _ _ rfl 0 0 0 _).on (Below.refl _ _).drew).on hbn; replace hbk := hbk.trans (hbm.mono hbk.size); replace hn := hn.on hbm; replace hp := hp.on hbm; (try (replace fa := fa.on hbm)); (try (replace fb := fb.on hbm)); have fa := fx; have fb := fy)); (try (simp at fb)); (try (have la := fa.lt; obtain ⟨-, -, af⟩ := id fa; obtain ⟨a0, a1, a2⟩ := fa.v3)); (try (have lb := fb.lt; obtain ⟨-, -, bf⟩ := id fb; obtain ⟨b0, b1, b2⟩ := fb.v3))) | (go_at_call 36; refine (greatest3_any _ _ _ s14 n _ _ _ hn51 _ (by first | (with_reducible exact hp) | (with_reducible exact hp.on (below_n1 _ _)) | (with_reducible exact hp.on (Below.refl _ _).drew) | (with_reducible exact (hp.on (below_n1 _ _)).on (below_n1 _ _)) | (with_reducible exact (hp.on (below_n1 _ _)).on (Below.refl _ _).drew) | (with_reducible exact ((hp.on (below_n1 _ _)).on (below_n1 _ _)).on (Below.refl _ _).drew))).mono ?_; rintro e w9 ⟨rfl, hbn⟩; (first | (with_reducible have hbm := hbn; have hz0 := hbk.size; have hz1 := hbm.size; replace hbk := hbk.trans (hbm.mono hbk.size); replace hn := hn.on hbm; replace hp := hp.on hbm; (try (replace fa := fa.on hbm)); (try (replace fb := fb.on hbm))) | (with_reducible have hbm := draw_below hbn; have hz0 := hbk.size; have hz1 := hbm.size; replace hbk := hbk.trans (hbm.mono hbk.size); replace hn := hn.on hbm; replace hp := hp.on hbm; (try (replace fa := fa.on hbm)); (try (replace fb := fb.on hbm))) | (with_reducible have hbm := below_c1 hbn; have hz0 := hbk.size; have hz1 := hbm.size; have fx := (new3 _ _ rfl 0 0 0 _).on hbn; replace hbk := hbk.trans (hbm.mono hbk.size); replace hn := hn.on hbm; replace hp := hp.on hbm; (try (replace fa := fa.on hbm)); (try (replace fb := fb.on hbm)); (first | (have fq := fa; have fb := fx) | (have fa := fx))) | (with_reducible have hbm := below_d1 hbn; have hz0 := hbk.size; have hz1 := hbm.size; have fx := ((new3 _ _ rfl 0 0 0 _).on (Below.refl _ _).drew).on hbn; replace hbk := hbk.trans (hbm.mono hbk.size); replace hn := hn.on hbm; replace hp := hp.on hbm; (try (replace fa := fa.on hbm)); (try (replace fb := fb.on hbm)); (first | (have fq := fa; have fb := fx) | (have fa := fx))) | (with_reducible have hbm := below_c2 hbn; have hz0 := hbk.size; have hz1 := hbm.size; have fx := ((new3 _ _ rfl 0 0 0 _).on (below_n1 _ _)).on hbn; have fy := (new3 _ _ rfl 0 0 0 _).on hbn; replace hbk := hbk.trans (hbm.mono hbk.size); replace hn := hn.on hbm; replace hp := hp.on hbm; (try (replace fa := fa.on hbm)); (try (replace fb := fb.on hbm)); have fa := fx; have fb := fy) | (with_reducible have hbm := below_d2 hbn; have hz0 := hbk.size; have hz1 := hbm.size; have fx := (((new3 _ _ rfl 0 0 0 _).on (below_n1 _ _)).on (Below.refl _ _).drew).on hbn; have fy := ((new3 _ _ rfl 0 0 0 _).on (Below.refl _ _).drew).on hbn; replace hbk := hbk.trans (hbm.mono hbk.size); replace hn := hn.on hbm; replace hp := hp.on hbm; (try (replace fa := fa.on hbm)); (try (replace fb := fb.on hbm)); have fa := fx; have fb := fy)); (try (simp at fb)); (try (have la := fa.lt; obtain ⟨-, -, af⟩ := id fa; obtain ⟨a0, a1, a2⟩ := fa.v3)); (try (have lb := fb.lt; obtain ⟨-, -, bf⟩ := id fb; obtain ⟨b0, b1, b2⟩ := fb.v3))))
          all_goals (go_wp2_with fail; go_meet; have hz9 := hbk.size; refine ⟨_, _, rfl, rfl, ?_, ?_, Bk.at3 ?_, Bk.at3 ?_, ?_⟩)
          all_goals first | omega | (have hkk := fb; first | (with_reducible refine Bk.far3 (Bk.putf3 fa _ _ _) ?_ _ _ _; (all_goals (first | omega | (simp; omega)))) | (with_reducible refine (Bk.putf3 (Bk.far3 fa ?_ _ _ _) _ _ _); (all_goals (first | omega | (simp; omega)))) | (with_reducible refine Bk.far3 (Bk.putf3 fb _ _ _) ?_ _ _ _; (all_goals (first | omega | (simp; omega)))) | (with_reducible refine (Bk.putf3 (Bk.far3 fb ?_ _ _ _) _ _ _); (all_goals (first | omega | (simp; omega)))) | (with_reducible refine below_set3 (below_set3 hbk ?_ _ _ _) ?_ _ _ _; (all_goals (first | omega | (simp; omega))))) | (have hkk := fa; first | (with_reducible exact (Bk.putf3 fa _ _ _).on (below_n1 _ _)) | (with_reducible refine new3 _ _ ?_ _ _ _ _; (simp; done)) | (with_reducible refine Below.alloc (below_set3 hbk ?_ _ _ _) ?_ _; (all_goals (first | omega | (simp; omega))))) | (first | (with_reducible refine new3 _ _ ?_ _ _ _ _; (simp; done)) | (with_reducible exact (fresh3 _ _ _ _ _).on (below_n1 _ _)) | (with_reducible exact (hbk.alloc hbk.size _).alloc (hbk.alloc hbk.size _).size _)) | (simp; omega) | trace_state
        case rest =>
          obtain ⟨gl, gh, rfl, rfl, hgl, hgh, hlow, hhigh, hbx⟩ := hcut
          have HI1 := Lib.hid (own_below HI.out hbx)
          have HB1 := Lib.hid (HB.out.on hbx)
          have hbw := hbx.size
          obtain ⟨a0, a1, a2, -, -⟩ := HB1.out
          clear hbk hbx HP
          go_wp2_with fail
          refine (to_any _ _ _ _).mono ?_
          rintro e w1 ⟨rfl, hb1⟩
          have HI2 := Lib.hid (own_below HI1.out hb1)
          have HB2 := Lib.hid (HB1.out.on hb1)
          have hlow2 := hlow.on hb1
          have hhigh2 := hhigh.on hb1
          clear hlow hhigh a0 a1 a2
          go_wp2_with (first | (at_builtin; refine wpList_append_own _ rfl _ _ 56 rfl (w.heap.size + 2) 29 i0 (.agg #[.int .i64 0, .int .i64 0, .int .i64 0]) 3 24 Try.underlying56 hi hz0 hz1 hz2 rfl (by decide) _ _ _ rfl (HI2.out.alloc _) ⟨w1.heap.size, 0, none⟩ 1 1 [.int .i64 ax, .int .i64 ay, .int .i64 az] rfl rfl ?c1 ?c2 ?c3 ?c4 ?c5 ?_))
          case c1 =>
            intro j u hj
            match j, hj with
            | 0, hj => simp at hj; subst hj; simp [Addr.add]
            | 1, hj => simp at hj; subst hj; simp [Addr.add]
            | 2, hj => simp at hj; subst hj; simp [Addr.add]
          case c2 => intro u hu; simp at hu; rcases hu with rfl | rfl | rfl <;> rfl
          case c3 => unfold maxLen; omega
          case c4 => omega
          case c5 => have := HB2.out.2.2.2.1; simp; omega
          intro v5 w2 hin2 hgrow _
          rw [flat_withZ] at hin2
          have hlow3 := (hlow2.on (below_n1 _ _)).grown hgrow (fun k hk => Nat.lt_of_lt_of_le (HI.out.lt k hk).2 hgl)
          have hhigh3 := (hhigh2.on (below_n1 _ _)).grown hgrow (fun k hk => Nat.lt_of_lt_of_le (HI.out.lt k hk).2 hgh)
          have HB3 := Lib.hid ((HB2.out.on (below_n1 _ _)).grown hgrow (fun k hk => (HI2.out.lt k hk).1))
          obtain ⟨g2, cg, rfl, hnums⟩ := own_nums hin2 (by omega)
          have HN := Lib.hid hnums
          have HG := Lib.hid hlow3
          have HH := Lib.hid hhigh3
          clear HI2 HB2 HI1 HB1 hin2 hgrow hlow2 hhigh2 hlow3 hhigh3 hnums HI HB
          go_wp2_with fail
          go_loopw [84] (fun s84 wy => ∃ j : Nat, j ≤ n + 1 ∧ s84 = .int .i64 j ∧ Below w2.heap.size w2 wy) (fun s84 _ => n + 1 - (intOf s84).toNat)
          case atStart => exact ⟨0, by omega, rfl, Below.refl _ _⟩
          case round =>
            obtain ⟨j, hj, rfl, hb3⟩ := hrel
            obtain ⟨wo, rfl⟩ : ∃ wo : World, wo = wr := ⟨_, rfl⟩
            by_cases hlt : j < n + 1
            · have hN := HN.out.on hb3
              have C0 := hN.2 (j * 3) (by omega)
              have C1 := hN.2 (j * 3 + 1) (by omega)
              have C2 := hN.2 (j * 3 + 2) (by omega)
              have hL := HG.out.on hb3
              have hH := HH.out.on hb3
              have lz := lowZ n L ax ay az j hlt
              have hz := highZ n L ax ay az j hlt
              clear hN
              go_wp2_with fail
              obtain ⟨wq, hwq⟩ : ∃ wq, wq = wo.alloc (Obj.cells #[.int .i64 (withZ n L ax ay az (j * 3)), .int .i64 (withZ n L ax ay az (j * 3 + 1)), .int .i64 (withZ n L ax ay az (j * 3 + 2))] 29) := ⟨_, rfl⟩
              rw [← hwq]
              have bq : Below wo.heap.size wo wq := by subst hwq; exact below_n1 _ _
              obtain ⟨-, l0, l1, l2⟩ := hL.on bq
              obtain ⟨-, g0, g1, g2⟩ := hH.on bq
              have k0 : wq.cell? ⟨wo.heap.size, 0, none⟩ = some (.int .i64 (withZ n L ax ay az (j * 3))) := by subst hwq; exact new_at _ _ rfl _ _ 0 _ rfl
              have k1 : wq.cell? ⟨wo.heap.size, 1, none⟩ = some (.int .i64 (withZ n L ax ay az (j * 3 + 1))) := by subst hwq; exact new_at _ _ rfl _ _ 1 _ rfl
              have k2 : wq.cell? ⟨wo.heap.size, 2, none⟩ = some (.int .i64 (withZ n L ax ay az (j * 3 + 2))) := by subst hwq; exact new_at _ _ rfl _ _ 2 _ rfl
              have hbk := hb3.trans (bq.mono hb3.size)
              clear hwq bq hL hH C0 C1 C2
              refine wp_loop_rounds 4 ?_
              have p0 : decide (withZ n L ax ay az (j * 3) < (foldN min ax (fun j => L (j * 3)) n)) = false := decide_eq_false (Int.not_lt.2 lz.1)
              have q0 : decide ((foldN max ax (fun j => L (j * 3)) n) < withZ n L ax ay az (j * 3)) = false := decide_eq_false (Int.not_lt.2 hz.1)
              have p1 : decide (withZ n L ax ay az (j * 3 + 1) < (foldN min ay (fun j => L (j * 3 + 1)) n)) = false := decide_eq_false (Int.not_lt.2 lz.2.1)
              have q1 : decide ((foldN max ay (fun j => L (j * 3 + 1)) n) < withZ n L ax ay az (j * 3 + 1)) = false := decide_eq_false (Int.not_lt.2 hz.2.1)
              have p2 : decide (withZ n L ax ay az (j * 3 + 2) < (foldN min az (fun j => L (j * 3 + 2)) n)) = false := decide_eq_false (Int.not_lt.2 lz.2.2)
              have q2 : decide ((foldN max az (fun j => L (j * 3 + 2)) n) < withZ n L ax ay az (j * 3 + 2)) = false := decide_eq_false (Int.not_lt.2 hz.2.2)
              rw [rounds_succ]
              go_wp2_with fail
              go_region_held3 (fun w' => w'.cell? ⟨gl, 0, none⟩ = some (.int .i64 (foldN min ax (fun j => L (j * 3)) n)) ∧ w'.cell? ⟨gl, 1, none⟩ = some (.int .i64 (foldN min ay (fun j => L (j * 3 + 1)) n)) ∧ w'.cell? ⟨gl, 2, none⟩ = some (.int .i64 (foldN min az (fun j => L (j * 3 + 2)) n)) ∧ w'.cell? ⟨gh, 0, none⟩ = some (.int .i64 (foldN max ax (fun j => L (j * 3)) n)) ∧ w'.cell? ⟨gh, 1, none⟩ = some (.int .i64 (foldN max ay (fun j => L (j * 3 + 1)) n)) ∧ w'.cell? ⟨gh, 2, none⟩ = some (.int .i64 (foldN max az (fun j => L (j * 3 + 2)) n)) ∧ w'.cell? ⟨wo.heap.size, 0, none⟩ = some (.int .i64 (withZ n L ax ay az (j * 3))) ∧ w'.cell? ⟨wo.heap.size, 1, none⟩ = some (.int .i64 (withZ n L ax ay az (j * 3 + 1))) ∧ w'.cell? ⟨wo.heap.size, 2, none⟩ = some (.int .i64 (withZ n L ax ay az (j * 3 + 2)))) (first | (go_keep; done) | (go_split_ands; (try dsimp only); exact ⟨held_on hbn (by assumption), held_on hbn (by assumption), held_on hbn (by assumption), held_on hbn (by assumption), held_on hbn (by assumption), held_on hbn (by assumption), held_on hbn (by assumption), held_on hbn (by assumption), held_on hbn (by assumption)⟩)) (first | (go_at_call 34; refine (at_0 _ _ _ _).mono ?_; rintro e w9 ⟨rfl, hbn⟩; (first | (replace hbk := hbk.trans (hbn.mono hbk.size)) | (replace hbk := hbk.drew.trans (hbn.mono hbk.drew.size)))))
              go_wp2
              rw [rounds_succ]
              go_wp2_with fail
              go_region_held3 (fun w' => w'.cell? ⟨gl, 0, none⟩ = some (.int .i64 (foldN min ax (fun j => L (j * 3)) n)) ∧ w'.cell? ⟨gl, 1, none⟩ = some (.int .i64 (foldN min ay (fun j => L (j * 3 + 1)) n)) ∧ w'.cell? ⟨gl, 2, none⟩ = some (.int .i64 (foldN min az (fun j => L (j * 3 + 2)) n)) ∧ w'.cell? ⟨gh, 0, none⟩ = some (.int .i64 (foldN max ax (fun j => L (j * 3)) n)) ∧ w'.cell? ⟨gh, 1, none⟩ = some (.int .i64 (foldN max ay (fun j => L (j * 3 + 1)) n)) ∧ w'.cell? ⟨gh, 2, none⟩ = some (.int .i64 (foldN max az (fun j => L (j * 3 + 2)) n)) ∧ w'.cell? ⟨wo.heap.size, 0, none⟩ = some (.int .i64 (withZ n L ax ay az (j * 3))) ∧ w'.cell? ⟨wo.heap.size, 1, none⟩ = some (.int .i64 (withZ n L ax ay az (j * 3 + 1))) ∧ w'.cell? ⟨wo.heap.size, 2, none⟩ = some (.int .i64 (withZ n L ax ay az (j * 3 + 2)))) (first | (go_keep; done) | (go_split_ands; (try dsimp only); exact ⟨held_on hbn (by assumption), held_on hbn (by assumption), held_on hbn (by assumption), held_on hbn (by assumption), held_on hbn (by assumption), held_on hbn (by assumption), held_on hbn (by assumption), held_on hbn (by assumption), held_on hbn (by assumption)⟩)) (first | (go_at_call 34; refine (at_1 _ _ _ _).mono ?_; rintro e w9 ⟨rfl, hbn⟩; (first | (replace hbk := hbk.trans (hbn.mono hbk.size)) | (replace hbk := hbk.drew.trans (hbn.mono hbk.drew.size)))))
              go_wp2
              rw [rounds_succ]
              go_wp2_with fail
              go_region_held3 (fun w' => w'.cell? ⟨gl, 0, none⟩ = some (.int .i64 (foldN min ax (fun j => L (j * 3)) n)) ∧ w'.cell? ⟨gl, 1, none⟩ = some (.int .i64 (foldN min ay (fun j => L (j * 3 + 1)) n)) ∧ w'.cell? ⟨gl, 2, none⟩ = some (.int .i64 (foldN min az (fun j => L (j * 3 + 2)) n)) ∧ w'.cell? ⟨gh, 0, none⟩ = some (.int .i64 (foldN max ax (fun j => L (j * 3)) n)) ∧ w'.cell? ⟨gh, 1, none⟩ = some (.int .i64 (foldN max ay (fun j => L (j * 3 + 1)) n)) ∧ w'.cell? ⟨gh, 2, none⟩ = some (.int .i64 (foldN max az (fun j => L (j * 3 + 2)) n)) ∧ w'.cell? ⟨wo.heap.size, 0, none⟩ = some (.int .i64 (withZ n L ax ay az (j * 3))) ∧ w'.cell? ⟨wo.heap.size, 1, none⟩ = some (.int .i64 (withZ n L ax ay az (j * 3 + 1))) ∧ w'.cell? ⟨wo.heap.size, 2, none⟩ = some (.int .i64 (withZ n L ax ay az (j * 3 + 2)))) (first | (go_keep; done) | (go_split_ands; (try dsimp only); exact ⟨held_on hbn (by assumption), held_on hbn (by assumption), held_on hbn (by assumption), held_on hbn (by assumption), held_on hbn (by assumption), held_on hbn (by assumption), held_on hbn (by assumption), held_on hbn (by assumption), held_on hbn (by assumption)⟩)) (first | (go_at_call 34; refine (at_2 _ _ _ _).mono ?_; rintro e w9 ⟨rfl, hbn⟩; (first | (replace hbk := hbk.trans (hbn.mono hbk.size)) | (replace hbk := hbk.drew.trans (hbn.mono hbk.drew.size)))))
              go_wp2
              rw [rounds_succ]
              go_wp2_with fail
              go_roundw
              case rel => exact ⟨j + 1, by omega, by go_num, by first | exact hbk | exact hbk.drew⟩
              case measure => simp [intOf]; omega
            · have hw2 := HB3.out.2.2.2.2
              go_wp2_with (first | (go_at_call 15; refine (awake_any _).mono ?_; rintro e w9 ⟨rfl, hbn⟩))
              go_ret
              exact ⟨rfl, (hw2.trans (hb3.mono hw2.size)).trans (hbn.mono (hw2.trans (hb3.mono hw2.size)).size)⟩

end Go.Proofs.Ytohnjhnfhmfiiaa.vecBetweenW
