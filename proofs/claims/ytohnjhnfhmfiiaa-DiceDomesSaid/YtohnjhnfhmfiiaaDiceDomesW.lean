/- The walk of DiceDomes: the law returns true, whatever direction and numbers come in; nothing that was there is written. -/
import Derived.Test.YtohnjhnfhmfiiaaDo
import Derived.Test.YtohnjhnfhmfiiaaDk
import Derived.Test.YtohnjhnfhmfiiaaVg
namespace Go.Proofs.Ytohnjhnfhmfiiaa.diceDomesW
open Go.RowKit Go.Proofs.Ytohnjhnfhmfiiaa Go.Proofs.Ytohnjhnfhmfiiaa.Ve

set_option maxHeartbeats 4000000 in
set_option maxRecDepth 100000 in
theorem core_same (nx ny nz u v  : Int)
    (hA : ∀ w, Calls Try.prog 65 #[V3 nx ny nz, .int .i64 u, .int .i64 v] w fun e w' => e = .returned (V3 nx ny nz) ∧ Below w.heap.size w w')
    (hB : ∀ w, Calls Try.prog 68 #[V3 nx ny nz, .int .i64 u, .int .i64 v] w fun e w' => e = .returned (V3 nx ny nz) ∧ Below w.heap.size w w') (w : World) :
    Calls Try.prog 13 #[V3 nx ny nz, .int .i64 u, .int .i64 v] w fun e w' => e = .returned (.bool true) ∧ Below w.heap.size w w' := by
  have heq := eq_v3
  go_enter Try.func13, Try.ntmps13
  go_upto_region 2 with (first | (go_at_call 18; refine (to_any _ _ _ _).mono ?_; rintro e w7 ⟨rfl, hb7⟩) | (go_at_call 65; refine (hA _).mono ?_; rintro e w8 ⟨rfl, hb8⟩))
  have hn : Bk w.heap.size 3 (f3 nx ny nz) (w8.alloc (.cells #[.int .i64 nx, .int .i64 ny, .int .i64 nz] 29)) := ((((new3 w _ rfl nx ny nz _).on hb7).on hb8)).on (below_n1 _ _)
  have hd : Bk w8.heap.size 3 (f3 nx ny nz) (w8.alloc (.cells #[.int .i64 nx, .int .i64 ny, .int .i64 nz] 29)) := new3 _ _ rfl _ _ _ _
  have hbk : Below w.heap.size w (w8.alloc (.cells #[.int .i64 nx, .int .i64 ny, .int .i64 nz] 29)) := by
    have h1 := below_c1 hb7
    have h2 := h1.trans (hb8.mono h1.size)
    exact h2.alloc h2.size _
  obtain ⟨wq, hwq⟩ : ∃ wq, wq = w8.alloc (.cells #[.int .i64 nx, .int .i64 ny, .int .i64 nz] 29) := ⟨_, rfl⟩
  rw [← hwq] at hn hd hbk ⊢
  clear hwq hb7 hb8
  obtain ⟨n0, n1, n2⟩ := hn.v3
  obtain ⟨d0, d1, d2⟩ := hd.v3
  go_region_with (first | (go_at_call 51; refine (Di.awake_any _).mono ?_; rintro e w9 ⟨rfl, hbn⟩; (first | (with_reducible have hbm := hbn; replace hbk := hbk.trans (hbm.mono hbk.size); replace hn := hn.on hbm; replace hd := hd.on hbm) | (with_reducible have hbm := draw_below hbn; replace hbk := hbk.trans (hbm.mono hbk.size); replace hn := hn.on hbm; replace hd := hd.on hbm)); obtain ⟨n0, n1, n2⟩ := hn.v3; obtain ⟨d0, d1, d2⟩ := hd.v3) | (go_at_call 66; refine (globe_any _ _ _).mono ?_; rintro e w9 ⟨rfl, hbn⟩; (first | (with_reducible have hbm := hbn; replace hbk := hbk.trans (hbm.mono hbk.size); replace hn := hn.on hbm; replace hd := hd.on hbm) | (with_reducible have hbm := draw_below hbn; replace hbk := hbk.trans (hbm.mono hbk.size); replace hn := hn.on hbm; replace hd := hd.on hbm)); obtain ⟨n0, n1, n2⟩ := hn.v3; obtain ⟨d0, d1, d2⟩ := hd.v3) | (go_at_call 16; refine (from_any _ _ _ _).mono ?_; rintro e w9 ⟨rfl, hbn⟩; (first | (with_reducible have hbm := hbn; replace hbk := hbk.trans (hbm.mono hbk.size); replace hn := hn.on hbm; replace hd := hd.on hbm) | (with_reducible have hbm := draw_below hbn; replace hbk := hbk.trans (hbm.mono hbk.size); replace hn := hn.on hbm; replace hd := hd.on hbm)); obtain ⟨n0, n1, n2⟩ := hn.v3; obtain ⟨d0, d1, d2⟩ := hd.v3) | (go_at_call 67; refine (rglobe_any _ _ _).mono ?_; rintro e w9 ⟨rfl, hbn⟩; (first | (with_reducible have hbm := hbn; replace hbk := hbk.trans (hbm.mono hbk.size); replace hn := hn.on hbm; replace hd := hd.on hbm) | (with_reducible have hbm := draw_below hbn; replace hbk := hbk.trans (hbm.mono hbk.size); replace hn := hn.on hbm; replace hd := hd.on hbm)); obtain ⟨n0, n1, n2⟩ := hn.v3; obtain ⟨d0, d1, d2⟩ := hd.v3) | (go_at_call 68; refine (hB _).mono ?_; rintro e w9 ⟨rfl, hbn⟩; (first | (with_reducible have hbm := hbn; replace hbk := hbk.trans (hbm.mono hbk.size); replace hn := hn.on hbm; replace hd := hd.on hbm) | (with_reducible have hbm := draw_below hbn; replace hbk := hbk.trans (hbm.mono hbk.size); replace hn := hn.on hbm; replace hd := hd.on hbm)); obtain ⟨n0, n1, n2⟩ := hn.v3; obtain ⟨d0, d1, d2⟩ := hd.v3) | (go_at_call 18; refine (to_any _ _ _ _).mono ?_; rintro e w9 ⟨rfl, hbn⟩; (first | (with_reducible have hbm := hbn; replace hbk := hbk.trans (hbm.mono hbk.size); replace hn := hn.on hbm; replace hd := hd.on hbm) | (with_reducible have hbm := draw_below hbn; replace hbk := hbk.trans (hbm.mono hbk.size); replace hn := hn.on hbm; replace hd := hd.on hbm)); obtain ⟨n0, n1, n2⟩ := hn.v3; obtain ⟨d0, d1, d2⟩ := hd.v3) | (go_at_call 69; refine (ddot_any _ _ _ _ _ _ _).mono ?_; rintro e w9 ⟨rfl, hbn⟩; (first | (with_reducible have hbm := hbn; replace hbk := hbk.trans (hbm.mono hbk.size); replace hn := hn.on hbm; replace hd := hd.on hbm) | (with_reducible have hbm := draw_below hbn; replace hbk := hbk.trans (hbm.mono hbk.size); replace hn := hn.on hbm; replace hd := hd.on hbm)); obtain ⟨n0, n1, n2⟩ := hn.v3; obtain ⟨d0, d1, d2⟩ := hd.v3))
  all_goals (go_wp2; go_ret; exact ⟨rfl, hbk⟩)

set_option maxHeartbeats 4000000 in
set_option maxRecDepth 100000 in
theorem core_x (nx ny nz u v a b c : Int) (h : dt a b c nx ny nz > 0) (hx : ¬ a = nx)
    (hA : ∀ w, Calls Try.prog 65 #[V3 nx ny nz, .int .i64 u, .int .i64 v] w fun e w' => e = .returned (V3 a b c) ∧ Below w.heap.size w w')
    (hB : ∀ w, Calls Try.prog 68 #[V3 nx ny nz, .int .i64 u, .int .i64 v] w fun e w' => e = .returned (V3 a b c) ∧ Below w.heap.size w w') (w : World) :
    Calls Try.prog 13 #[V3 nx ny nz, .int .i64 u, .int .i64 v] w fun e w' => e = .returned (.bool true) ∧ Below w.heap.size w w' := by
  have heq := eq_v3
  go_enter Try.func13, Try.ntmps13
  go_upto_region 2 with (first | (go_at_call 18; refine (to_any _ _ _ _).mono ?_; rintro e w7 ⟨rfl, hb7⟩) | (go_at_call 65; refine (hA _).mono ?_; rintro e w8 ⟨rfl, hb8⟩))
  have hn : Bk w.heap.size 3 (f3 nx ny nz) (w8.alloc (.cells #[.int .i64 a, .int .i64 b, .int .i64 c] 29)) := ((((new3 w _ rfl nx ny nz _).on hb7).on hb8)).on (below_n1 _ _)
  have hd : Bk w8.heap.size 3 (f3 a b c) (w8.alloc (.cells #[.int .i64 a, .int .i64 b, .int .i64 c] 29)) := new3 _ _ rfl _ _ _ _
  have hbk : Below w.heap.size w (w8.alloc (.cells #[.int .i64 a, .int .i64 b, .int .i64 c] 29)) := by
    have h1 := below_c1 hb7
    have h2 := h1.trans (hb8.mono h1.size)
    exact h2.alloc h2.size _
  obtain ⟨wq, hwq⟩ : ∃ wq, wq = w8.alloc (.cells #[.int .i64 a, .int .i64 b, .int .i64 c] 29) := ⟨_, rfl⟩
  rw [← hwq] at hn hd hbk ⊢
  clear hwq hb7 hb8
  go_region_held3 (fun w' => (w'.cell? ⟨w.heap.size, 0, none⟩ = some (.int .i64 nx) ∧ w'.cell? ⟨w.heap.size, 1, none⟩ = some (.int .i64 ny) ∧ w'.cell? ⟨w.heap.size, 2, none⟩ = some (.int .i64 nz)) ∧ (w'.cell? ⟨w8.heap.size, 0, none⟩ = some (.int .i64 a) ∧ w'.cell? ⟨w8.heap.size, 1, none⟩ = some (.int .i64 b) ∧ w'.cell? ⟨w8.heap.size, 2, none⟩ = some (.int .i64 c))) (first | (with_reducible exact ⟨hn.v3, hd.v3⟩) | (with_reducible exact ⟨(hn.on (Below.refl _ _).drew).v3, (hd.on (Below.refl _ _).drew).v3⟩)) (first | (go_at_call 51; refine (Di.awake_any _).mono ?_; rintro e w9 ⟨rfl, hbn⟩; (first | (with_reducible have hbm := hbn; replace hbk := hbk.trans (hbm.mono hbk.size); replace hn := hn.on hbm; replace hd := hd.on hbm) | (with_reducible have hbm := draw_below hbn; replace hbk := hbk.trans (hbm.mono hbk.size); replace hn := hn.on hbm; replace hd := hd.on hbm))) | (go_at_call 66; refine (globe_any _ _ _).mono ?_; rintro e w9 ⟨rfl, hbn⟩; (first | (with_reducible have hbm := hbn; replace hbk := hbk.trans (hbm.mono hbk.size); replace hn := hn.on hbm; replace hd := hd.on hbm) | (with_reducible have hbm := draw_below hbn; replace hbk := hbk.trans (hbm.mono hbk.size); replace hn := hn.on hbm; replace hd := hd.on hbm))) | (go_at_call 16; refine (from_any _ _ _ _).mono ?_; rintro e w9 ⟨rfl, hbn⟩; (first | (with_reducible have hbm := hbn; replace hbk := hbk.trans (hbm.mono hbk.size); replace hn := hn.on hbm; replace hd := hd.on hbm) | (with_reducible have hbm := draw_below hbn; replace hbk := hbk.trans (hbm.mono hbk.size); replace hn := hn.on hbm; replace hd := hd.on hbm))) | (go_at_call 67; refine (rglobe_any _ _ _).mono ?_; rintro e w9 ⟨rfl, hbn⟩; (first | (with_reducible have hbm := hbn; replace hbk := hbk.trans (hbm.mono hbk.size); replace hn := hn.on hbm; replace hd := hd.on hbm) | (with_reducible have hbm := draw_below hbn; replace hbk := hbk.trans (hbm.mono hbk.size); replace hn := hn.on hbm; replace hd := hd.on hbm))) | (go_at_call 68; refine (hB _).mono ?_; rintro e w9 ⟨rfl, hbn⟩; (first | (with_reducible have hbm := hbn; replace hbk := hbk.trans (hbm.mono hbk.size); replace hn := hn.on hbm; replace hd := hd.on hbm) | (with_reducible have hbm := draw_below hbn; replace hbk := hbk.trans (hbm.mono hbk.size); replace hn := hn.on hbm; replace hd := hd.on hbm))) | (go_at_call 18; refine (to_any _ _ _ _).mono ?_; rintro e w9 ⟨rfl, hbn⟩; (first | (with_reducible have hbm := hbn; replace hbk := hbk.trans (hbm.mono hbk.size); replace hn := hn.on hbm; replace hd := hd.on hbm) | (with_reducible have hbm := draw_below hbn; replace hbk := hbk.trans (hbm.mono hbk.size); replace hn := hn.on hbm; replace hd := hd.on hbm))) | (go_at_call 69; refine (ddot_any _ _ _ _ _ _ _).mono ?_; rintro e w9 ⟨rfl, hbn⟩; (first | (with_reducible have hbm := hbn; replace hbk := hbk.trans (hbm.mono hbk.size); replace hn := hn.on hbm; replace hd := hd.on hbm) | (with_reducible have hbm := draw_below hbn; replace hbk := hbk.trans (hbm.mono hbk.size); replace hn := hn.on hbm; replace hd := hd.on hbm))))
  go_wp2
  go_ret
  exact ⟨rfl, hbk⟩

set_option maxHeartbeats 4000000 in
set_option maxRecDepth 100000 in
theorem core_y (nx ny nz u v b c : Int) (h : dt nx b c nx ny nz > 0) (hx : ¬ b = ny)
    (hA : ∀ w, Calls Try.prog 65 #[V3 nx ny nz, .int .i64 u, .int .i64 v] w fun e w' => e = .returned (V3 nx b c) ∧ Below w.heap.size w w')
    (hB : ∀ w, Calls Try.prog 68 #[V3 nx ny nz, .int .i64 u, .int .i64 v] w fun e w' => e = .returned (V3 nx b c) ∧ Below w.heap.size w w') (w : World) :
    Calls Try.prog 13 #[V3 nx ny nz, .int .i64 u, .int .i64 v] w fun e w' => e = .returned (.bool true) ∧ Below w.heap.size w w' := by
  have heq := eq_v3
  go_enter Try.func13, Try.ntmps13
  go_upto_region 2 with (first | (go_at_call 18; refine (to_any _ _ _ _).mono ?_; rintro e w7 ⟨rfl, hb7⟩) | (go_at_call 65; refine (hA _).mono ?_; rintro e w8 ⟨rfl, hb8⟩))
  have hn : Bk w.heap.size 3 (f3 nx ny nz) (w8.alloc (.cells #[.int .i64 nx, .int .i64 b, .int .i64 c] 29)) := ((((new3 w _ rfl nx ny nz _).on hb7).on hb8)).on (below_n1 _ _)
  have hd : Bk w8.heap.size 3 (f3 nx b c) (w8.alloc (.cells #[.int .i64 nx, .int .i64 b, .int .i64 c] 29)) := new3 _ _ rfl _ _ _ _
  have hbk : Below w.heap.size w (w8.alloc (.cells #[.int .i64 nx, .int .i64 b, .int .i64 c] 29)) := by
    have h1 := below_c1 hb7
    have h2 := h1.trans (hb8.mono h1.size)
    exact h2.alloc h2.size _
  obtain ⟨wq, hwq⟩ : ∃ wq, wq = w8.alloc (.cells #[.int .i64 nx, .int .i64 b, .int .i64 c] 29) := ⟨_, rfl⟩
  rw [← hwq] at hn hd hbk ⊢
  clear hwq hb7 hb8
  go_region_held3 (fun w' => (w'.cell? ⟨w.heap.size, 0, none⟩ = some (.int .i64 nx) ∧ w'.cell? ⟨w.heap.size, 1, none⟩ = some (.int .i64 ny) ∧ w'.cell? ⟨w.heap.size, 2, none⟩ = some (.int .i64 nz)) ∧ (w'.cell? ⟨w8.heap.size, 0, none⟩ = some (.int .i64 nx) ∧ w'.cell? ⟨w8.heap.size, 1, none⟩ = some (.int .i64 b) ∧ w'.cell? ⟨w8.heap.size, 2, none⟩ = some (.int .i64 c))) (first | (with_reducible exact ⟨hn.v3, hd.v3⟩) | (with_reducible exact ⟨(hn.on (Below.refl _ _).drew).v3, (hd.on (Below.refl _ _).drew).v3⟩)) (first | (go_at_call 51; refine (Di.awake_any _).mono ?_; rintro e w9 ⟨rfl, hbn⟩; (first | (with_reducible have hbm := hbn; replace hbk := hbk.trans (hbm.mono hbk.size); replace hn := hn.on hbm; replace hd := hd.on hbm) | (with_reducible have hbm := draw_below hbn; replace hbk := hbk.trans (hbm.mono hbk.size); replace hn := hn.on hbm; replace hd := hd.on hbm))) | (go_at_call 66; refine (globe_any _ _ _).mono ?_; rintro e w9 ⟨rfl, hbn⟩; (first | (with_reducible have hbm := hbn; replace hbk := hbk.trans (hbm.mono hbk.size); replace hn := hn.on hbm; replace hd := hd.on hbm) | (with_reducible have hbm := draw_below hbn; replace hbk := hbk.trans (hbm.mono hbk.size); replace hn := hn.on hbm; replace hd := hd.on hbm))) | (go_at_call 16; refine (from_any _ _ _ _).mono ?_; rintro e w9 ⟨rfl, hbn⟩; (first | (with_reducible have hbm := hbn; replace hbk := hbk.trans (hbm.mono hbk.size); replace hn := hn.on hbm; replace hd := hd.on hbm) | (with_reducible have hbm := draw_below hbn; replace hbk := hbk.trans (hbm.mono hbk.size); replace hn := hn.on hbm; replace hd := hd.on hbm))) | (go_at_call 67; refine (rglobe_any _ _ _).mono ?_; rintro e w9 ⟨rfl, hbn⟩; (first | (with_reducible have hbm := hbn; replace hbk := hbk.trans (hbm.mono hbk.size); replace hn := hn.on hbm; replace hd := hd.on hbm) | (with_reducible have hbm := draw_below hbn; replace hbk := hbk.trans (hbm.mono hbk.size); replace hn := hn.on hbm; replace hd := hd.on hbm))) | (go_at_call 68; refine (hB _).mono ?_; rintro e w9 ⟨rfl, hbn⟩; (first | (with_reducible have hbm := hbn; replace hbk := hbk.trans (hbm.mono hbk.size); replace hn := hn.on hbm; replace hd := hd.on hbm) | (with_reducible have hbm := draw_below hbn; replace hbk := hbk.trans (hbm.mono hbk.size); replace hn := hn.on hbm; replace hd := hd.on hbm))) | (go_at_call 18; refine (to_any _ _ _ _).mono ?_; rintro e w9 ⟨rfl, hbn⟩; (first | (with_reducible have hbm := hbn; replace hbk := hbk.trans (hbm.mono hbk.size); replace hn := hn.on hbm; replace hd := hd.on hbm) | (with_reducible have hbm := draw_below hbn; replace hbk := hbk.trans (hbm.mono hbk.size); replace hn := hn.on hbm; replace hd := hd.on hbm))) | (go_at_call 69; refine (ddot_any _ _ _ _ _ _ _).mono ?_; rintro e w9 ⟨rfl, hbn⟩; (first | (with_reducible have hbm := hbn; replace hbk := hbk.trans (hbm.mono hbk.size); replace hn := hn.on hbm; replace hd := hd.on hbm) | (with_reducible have hbm := draw_below hbn; replace hbk := hbk.trans (hbm.mono hbk.size); replace hn := hn.on hbm; replace hd := hd.on hbm))))
  go_wp2
  go_ret
  exact ⟨rfl, hbk⟩

set_option maxHeartbeats 4000000 in
set_option maxRecDepth 100000 in
theorem core_z (nx ny nz u v c : Int) (h : dt nx ny c nx ny nz > 0) (hx : ¬ c = nz)
    (hA : ∀ w, Calls Try.prog 65 #[V3 nx ny nz, .int .i64 u, .int .i64 v] w fun e w' => e = .returned (V3 nx ny c) ∧ Below w.heap.size w w')
    (hB : ∀ w, Calls Try.prog 68 #[V3 nx ny nz, .int .i64 u, .int .i64 v] w fun e w' => e = .returned (V3 nx ny c) ∧ Below w.heap.size w w') (w : World) :
    Calls Try.prog 13 #[V3 nx ny nz, .int .i64 u, .int .i64 v] w fun e w' => e = .returned (.bool true) ∧ Below w.heap.size w w' := by
  have heq := eq_v3
  go_enter Try.func13, Try.ntmps13
  go_upto_region 2 with (first | (go_at_call 18; refine (to_any _ _ _ _).mono ?_; rintro e w7 ⟨rfl, hb7⟩) | (go_at_call 65; refine (hA _).mono ?_; rintro e w8 ⟨rfl, hb8⟩))
  have hn : Bk w.heap.size 3 (f3 nx ny nz) (w8.alloc (.cells #[.int .i64 nx, .int .i64 ny, .int .i64 c] 29)) := ((((new3 w _ rfl nx ny nz _).on hb7).on hb8)).on (below_n1 _ _)
  have hd : Bk w8.heap.size 3 (f3 nx ny c) (w8.alloc (.cells #[.int .i64 nx, .int .i64 ny, .int .i64 c] 29)) := new3 _ _ rfl _ _ _ _
  have hbk : Below w.heap.size w (w8.alloc (.cells #[.int .i64 nx, .int .i64 ny, .int .i64 c] 29)) := by
    have h1 := below_c1 hb7
    have h2 := h1.trans (hb8.mono h1.size)
    exact h2.alloc h2.size _
  obtain ⟨wq, hwq⟩ : ∃ wq, wq = w8.alloc (.cells #[.int .i64 nx, .int .i64 ny, .int .i64 c] 29) := ⟨_, rfl⟩
  rw [← hwq] at hn hd hbk ⊢
  clear hwq hb7 hb8
  go_region_held3 (fun w' => (w'.cell? ⟨w.heap.size, 0, none⟩ = some (.int .i64 nx) ∧ w'.cell? ⟨w.heap.size, 1, none⟩ = some (.int .i64 ny) ∧ w'.cell? ⟨w.heap.size, 2, none⟩ = some (.int .i64 nz)) ∧ (w'.cell? ⟨w8.heap.size, 0, none⟩ = some (.int .i64 nx) ∧ w'.cell? ⟨w8.heap.size, 1, none⟩ = some (.int .i64 ny) ∧ w'.cell? ⟨w8.heap.size, 2, none⟩ = some (.int .i64 c))) (first | (with_reducible exact ⟨hn.v3, hd.v3⟩) | (with_reducible exact ⟨(hn.on (Below.refl _ _).drew).v3, (hd.on (Below.refl _ _).drew).v3⟩)) (first | (go_at_call 51; refine (Di.awake_any _).mono ?_; rintro e w9 ⟨rfl, hbn⟩; (first | (with_reducible have hbm := hbn; replace hbk := hbk.trans (hbm.mono hbk.size); replace hn := hn.on hbm; replace hd := hd.on hbm) | (with_reducible have hbm := draw_below hbn; replace hbk := hbk.trans (hbm.mono hbk.size); replace hn := hn.on hbm; replace hd := hd.on hbm))) | (go_at_call 66; refine (globe_any _ _ _).mono ?_; rintro e w9 ⟨rfl, hbn⟩; (first | (with_reducible have hbm := hbn; replace hbk := hbk.trans (hbm.mono hbk.size); replace hn := hn.on hbm; replace hd := hd.on hbm) | (with_reducible have hbm := draw_below hbn; replace hbk := hbk.trans (hbm.mono hbk.size); replace hn := hn.on hbm; replace hd := hd.on hbm))) | (go_at_call 16; refine (from_any _ _ _ _).mono ?_; rintro e w9 ⟨rfl, hbn⟩; (first | (with_reducible have hbm := hbn; replace hbk := hbk.trans (hbm.mono hbk.size); replace hn := hn.on hbm; replace hd := hd.on hbm) | (with_reducible have hbm := draw_below hbn; replace hbk := hbk.trans (hbm.mono hbk.size); replace hn := hn.on hbm; replace hd := hd.on hbm))) | (go_at_call 67; refine (rglobe_any _ _ _).mono ?_; rintro e w9 ⟨rfl, hbn⟩; (first | (with_reducible have hbm := hbn; replace hbk := hbk.trans (hbm.mono hbk.size); replace hn := hn.on hbm; replace hd := hd.on hbm) | (with_reducible have hbm := draw_below hbn; replace hbk := hbk.trans (hbm.mono hbk.size); replace hn := hn.on hbm; replace hd := hd.on hbm))) | (go_at_call 68; refine (hB _).mono ?_; rintro e w9 ⟨rfl, hbn⟩; (first | (with_reducible have hbm := hbn; replace hbk := hbk.trans (hbm.mono hbk.size); replace hn := hn.on hbm; replace hd := hd.on hbm) | (with_reducible have hbm := draw_below hbn; replace hbk := hbk.trans (hbm.mono hbk.size); replace hn := hn.on hbm; replace hd := hd.on hbm))) | (go_at_call 18; refine (to_any _ _ _ _).mono ?_; rintro e w9 ⟨rfl, hbn⟩; (first | (with_reducible have hbm := hbn; replace hbk := hbk.trans (hbm.mono hbk.size); replace hn := hn.on hbm; replace hd := hd.on hbm) | (with_reducible have hbm := draw_below hbn; replace hbk := hbk.trans (hbm.mono hbk.size); replace hn := hn.on hbm; replace hd := hd.on hbm))) | (go_at_call 69; refine (ddot_any _ _ _ _ _ _ _).mono ?_; rintro e w9 ⟨rfl, hbn⟩; (first | (with_reducible have hbm := hbn; replace hbk := hbk.trans (hbm.mono hbk.size); replace hn := hn.on hbm; replace hd := hd.on hbm) | (with_reducible have hbm := draw_below hbn; replace hbk := hbk.trans (hbm.mono hbk.size); replace hn := hn.on hbm; replace hd := hd.on hbm))))
  go_wp2
  go_ret
  exact ⟨rfl, hbk⟩

theorem core (nx ny nz u v a b c : Int) (h : dt a b c nx ny nz > 0)
    (hA : ∀ w, Calls Try.prog 65 #[V3 nx ny nz, .int .i64 u, .int .i64 v] w fun e w' => e = .returned (V3 a b c) ∧ Below w.heap.size w w')
    (hB : ∀ w, Calls Try.prog 68 #[V3 nx ny nz, .int .i64 u, .int .i64 v] w fun e w' => e = .returned (V3 a b c) ∧ Below w.heap.size w w') (w : World) :
    Calls Try.prog 13 #[V3 nx ny nz, .int .i64 u, .int .i64 v] w fun e w' => e = .returned (.bool true) ∧ Below w.heap.size w w' := by
  by_cases hx : a = nx
  · subst hx
    by_cases hy : b = ny
    · subst hy
      by_cases hz : c = nz
      · subst hz; exact core_same _ _ _ u v hA hB w
      · exact core_z _ _ nz u v c h hz hA hB w
    · exact core_y _ ny nz u v b c h hy hA hB w
  · exact core_x nx ny nz u v a b c h hx hA hB w

theorem walk (nx ny nz u v : Int) (_w1 : (Lit.int .i64 u).wf = true) (_w2 : (Lit.int .i64 v).wf = true) (w : World) :
    Calls Try.prog 13 #[V3 nx ny nz, .int .i64 u, .int .i64 v] w fun e w' => e = .returned (.bool true) ∧ Below w.heap.size w w' := by
  by_cases h : dt (dx u v nx ny nz) (dy u v nx ny nz) (dz u v nx ny nz) nx ny nz ≤ 0
  · exact core_same nx ny nz u v (dome_any_pos u v nx ny nz h) (rdome_any_pos u v nx ny nz h) w
  · exact core nx ny nz u v _ _ _ (by omega) (dome_any_neg u v nx ny nz (by omega)) (rdome_any_neg u v nx ny nz (by omega)) w

end Go.Proofs.Ytohnjhnfhmfiiaa.diceDomesW
