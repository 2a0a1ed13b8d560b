/- Layer 21 (plate): lights without what is below nothing, by both sides; how one value is shown, by the program. -/
import Derived.Test.YtcohehekkeeeoaaDoorF34
import Derived.Test.YtcohehekkeeeoaaDoorF09
namespace Go.Proofs.YtcohehekkeeeoaaDoor.Pq
open Go Go.RowKit Go.Proofs.YtcohehekkeeeoaaDoor Go.Proofs.YtcohehekkeeeoaaDoor.Wa Go.Proofs.YtcohehekkeeeoaaDoor.Ve Go.Proofs.YtcohehekkeeeoaaDoor.Hv Go.Proofs.YtcohehekkeeeoaaDoor.Au
set_option linter.unusedVariables false
set_option linter.unusedSimpArgs false

theorem bright1_any (x y : Int) (w : World) : Calls Tryd.prog 59 #[.int .i64 x, .int .i64 y] w fun e w' => e = .returned (.int .i64 (max x y)) ∧ w = w' := by
  go_enter Tryd.func59, Tryd.ntmps59
  go_wp2
  go_ret
  exact ⟨rfl, rfl⟩

set_option maxHeartbeats 800000 in
theorem heach_bright (ax ay az bx by_ bz : Int) (w : World) :
    Calls Tryd.prog 58 #[V3 ax ay az, V3 bx by_ bz, .func (.func 59) #[] #[]] w fun e w' => e = .returned (V3 (max ax bx) (max ay by_) (max az bz)) ∧ Below w.heap.size w w' := by
  go_enter Tryd.func58, Tryd.ntmps58
  go_wp2_with fail
  go_region_held3 (fun w' => w'.cell? ⟨w.heap.size, 0, none⟩ = some (.int .i64 ax) ∧ w'.cell? ⟨w.heap.size, 1, none⟩ = some (.int .i64 ay) ∧ w'.cell? ⟨w.heap.size, 2, none⟩ = some (.int .i64 az) ∧ w'.cell? ⟨w.heap.size + 1, 0, none⟩ = some (.int .i64 bx) ∧ w'.cell? ⟨w.heap.size + 1, 1, none⟩ = some (.int .i64 by_) ∧ w'.cell? ⟨w.heap.size + 1, 2, none⟩ = some (.int .i64 bz)) (go_keep) (first | (go_at_call 59; refine (bright1_any _ _ _).mono ?_; rintro e w1 ⟨rfl, rfl⟩))
  go_wp2
  exact bodyPost_ret (v := V3 (max ax bx) (max ay by_) (max az bz)) (by simp [results, Tryd.results58, go_sem]) rfl ⟨rfl, below3 _ _ _ _⟩

theorem bright_any (x y z : Int) (w : World) : Calls Tryd.prog 35 #[V3 x y z] w fun e w' => e = .returned (V3 (max x 0) (max y 0) (max z 0)) ∧ Below w.heap.size w w' := by
  go_enter Tryd.func35, Tryd.ntmps35
  go_wp2_with fail
  refine (heach_bright _ _ _ _ _ _ _).mono ?_
  rintro e w1 ⟨rfl, hb⟩
  obtain ⟨hc, hf⟩ := bcell hb
  have hz := hb.size
  simp at hz
  go_wp2
  exact bodyPost_ret (v := V3 (max x 0) (max y 0) (max z 0)) (by simp [results, Tryd.results35, go_sem, hc]) rfl ⟨rfl, below_put3 (below_c2 hb) (by omega) _ _ _⟩

set_option maxHeartbeats 2000000 in
theorem rbright_0 (x y z : Int) (w : World) (h0 : ¬ x < 0) (h1 : ¬ y < 0) (h2 : ¬ z < 0) : Calls Tryd.prog 47 #[V3 x y z] w fun e w' => e = .returned (V3 x y z) ∧ Below w.heap.size w w' := by
  go_enter Tryd.func47, Tryd.ntmps47
  go_wp2
  refine wp_loop_rounds 4 ?_
  rw [rounds_succ]
  go_wp2
  rw [rounds_succ]
  go_wp2
  rw [rounds_succ]
  go_wp2
  rw [rounds_succ]
  go_wp2
  exact bodyPost_ret (v := V3 x y z) (by simp [results, Tryd.results47, go_sem]) rfl ⟨rfl, by repeat (first | exact Below.refl _ _ | refine Below.setCell ?_ (by simp) _ | refine Below.alloc ?_ (by simp) _ | refine Below.drew ?_)⟩

set_option maxHeartbeats 2000000 in
theorem rbright_1 (x y z : Int) (w : World) (h0 : x < 0) (h1 : ¬ y < 0) (h2 : ¬ z < 0) : Calls Tryd.prog 47 #[V3 x y z] w fun e w' => e = .returned (V3 0 y z) ∧ Below w.heap.size w w' := by
  go_enter Tryd.func47, Tryd.ntmps47
  go_wp2
  refine wp_loop_rounds 4 ?_
  rw [rounds_succ]
  go_wp2
  rw [rounds_succ]
  go_wp2
  rw [rounds_succ]
  go_wp2
  rw [rounds_succ]
  go_wp2
  exact bodyPost_ret (v := V3 0 y z) (by simp [results, Tryd.results47, go_sem]) rfl ⟨rfl, by repeat (first | exact Below.refl _ _ | refine Below.setCell ?_ (by simp) _ | refine Below.alloc ?_ (by simp) _ | refine Below.drew ?_)⟩

set_option maxHeartbeats 2000000 in
theorem rbright_2 (x y z : Int) (w : World) (h0 : ¬ x < 0) (h1 : y < 0) (h2 : ¬ z < 0) : Calls Tryd.prog 47 #[V3 x y z] w fun e w' => e = .returned (V3 x 0 z) ∧ Below w.heap.size w w' := by
  go_enter Tryd.func47, Tryd.ntmps47
  go_wp2
  refine wp_loop_rounds 4 ?_
  rw [rounds_succ]
  go_wp2
  rw [rounds_succ]
  go_wp2
  rw [rounds_succ]
  go_wp2
  rw [rounds_succ]
  go_wp2
  exact bodyPost_ret (v := V3 x 0 z) (by simp [results, Tryd.results47, go_sem]) rfl ⟨rfl, by repeat (first | exact Below.refl _ _ | refine Below.setCell ?_ (by simp) _ | refine Below.alloc ?_ (by simp) _ | refine Below.drew ?_)⟩

set_option maxHeartbeats 2000000 in
theorem rbright_3 (x y z : Int) (w : World) (h0 : x < 0) (h1 : y < 0) (h2 : ¬ z < 0) : Calls Tryd.prog 47 #[V3 x y z] w fun e w' => e = .returned (V3 0 0 z) ∧ Below w.heap.size w w' := by
  go_enter Tryd.func47, Tryd.ntmps47
  go_wp2
  refine wp_loop_rounds 4 ?_
  rw [rounds_succ]
  go_wp2
  rw [rounds_succ]
  go_wp2
  rw [rounds_succ]
  go_wp2
  rw [rounds_succ]
  go_wp2
  exact bodyPost_ret (v := V3 0 0 z) (by simp [results, Tryd.results47, go_sem]) rfl ⟨rfl, by repeat (first | exact Below.refl _ _ | refine Below.setCell ?_ (by simp) _ | refine Below.alloc ?_ (by simp) _ | refine Below.drew ?_)⟩

set_option maxHeartbeats 2000000 in
theorem rbright_4 (x y z : Int) (w : World) (h0 : ¬ x < 0) (h1 : ¬ y < 0) (h2 : z < 0) : Calls Tryd.prog 47 #[V3 x y z] w fun e w' => e = .returned (V3 x y 0) ∧ Below w.heap.size w w' := by
  go_enter Tryd.func47, Tryd.ntmps47
  go_wp2
  refine wp_loop_rounds 4 ?_
  rw [rounds_succ]
  go_wp2
  rw [rounds_succ]
  go_wp2
  rw [rounds_succ]
  go_wp2
  rw [rounds_succ]
  go_wp2
  exact bodyPost_ret (v := V3 x y 0) (by simp [results, Tryd.results47, go_sem]) rfl ⟨rfl, by repeat (first | exact Below.refl _ _ | refine Below.setCell ?_ (by simp) _ | refine Below.alloc ?_ (by simp) _ | refine Below.drew ?_)⟩

set_option maxHeartbeats 2000000 in
theorem rbright_5 (x y z : Int) (w : World) (h0 : x < 0) (h1 : ¬ y < 0) (h2 : z < 0) : Calls Tryd.prog 47 #[V3 x y z] w fun e w' => e = .returned (V3 0 y 0) ∧ Below w.heap.size w w' := by
  go_enter Tryd.func47, Tryd.ntmps47
  go_wp2
  refine wp_loop_rounds 4 ?_
  rw [rounds_succ]
  go_wp2
  rw [rounds_succ]
  go_wp2
  rw [rounds_succ]
  go_wp2
  rw [rounds_succ]
  go_wp2
  exact bodyPost_ret (v := V3 0 y 0) (by simp [results, Tryd.results47, go_sem]) rfl ⟨rfl, by repeat (first | exact Below.refl _ _ | refine Below.setCell ?_ (by simp) _ | refine Below.alloc ?_ (by simp) _ | refine Below.drew ?_)⟩

set_option maxHeartbeats 2000000 in
theorem rbright_6 (x y z : Int) (w : World) (h0 : ¬ x < 0) (h1 : y < 0) (h2 : z < 0) : Calls Tryd.prog 47 #[V3 x y z] w fun e w' => e = .returned (V3 x 0 0) ∧ Below w.heap.size w w' := by
  go_enter Tryd.func47, Tryd.ntmps47
  go_wp2
  refine wp_loop_rounds 4 ?_
  rw [rounds_succ]
  go_wp2
  rw [rounds_succ]
  go_wp2
  rw [rounds_succ]
  go_wp2
  rw [rounds_succ]
  go_wp2
  exact bodyPost_ret (v := V3 x 0 0) (by simp [results, Tryd.results47, go_sem]) rfl ⟨rfl, by repeat (first | exact Below.refl _ _ | refine Below.setCell ?_ (by simp) _ | refine Below.alloc ?_ (by simp) _ | refine Below.drew ?_)⟩

set_option maxHeartbeats 2000000 in
theorem rbright_7 (x y z : Int) (w : World) (h0 : x < 0) (h1 : y < 0) (h2 : z < 0) : Calls Tryd.prog 47 #[V3 x y z] w fun e w' => e = .returned (V3 0 0 0) ∧ Below w.heap.size w w' := by
  go_enter Tryd.func47, Tryd.ntmps47
  go_wp2
  refine wp_loop_rounds 4 ?_
  rw [rounds_succ]
  go_wp2
  rw [rounds_succ]
  go_wp2
  rw [rounds_succ]
  go_wp2
  rw [rounds_succ]
  go_wp2
  exact bodyPost_ret (v := V3 0 0 0) (by simp [results, Tryd.results47, go_sem]) rfl ⟨rfl, by repeat (first | exact Below.refl _ _ | refine Below.setCell ?_ (by simp) _ | refine Below.alloc ?_ (by simp) _ | refine Below.drew ?_)⟩

theorem rbright_any (x y z : Int) (w : World) : Calls Tryd.prog 47 #[V3 x y z] w fun e w' => e = .returned (V3 (max x 0) (max y 0) (max z 0)) ∧ Below w.heap.size w w' := by
  by_cases h0 : x < 0
  · by_cases h1 : y < 0
    · by_cases h2 : z < 0
      · rw [show max x 0 = 0 by omega, show max y 0 = 0 by omega, show max z 0 = 0 by omega]; exact rbright_7 x y z w h0 h1 h2
      · rw [show max x 0 = 0 by omega, show max y 0 = 0 by omega, show max z 0 = z by omega]; exact rbright_3 x y z w h0 h1 h2
    · by_cases h2 : z < 0
      · rw [show max x 0 = 0 by omega, show max y 0 = y by omega, show max z 0 = 0 by omega]; exact rbright_5 x y z w h0 h1 h2
      · rw [show max x 0 = 0 by omega, show max y 0 = y by omega, show max z 0 = z by omega]; exact rbright_1 x y z w h0 h1 h2
  · by_cases h1 : y < 0
    · by_cases h2 : z < 0
      · rw [show max x 0 = x by omega, show max y 0 = 0 by omega, show max z 0 = 0 by omega]; exact rbright_6 x y z w h0 h1 h2
      · rw [show max x 0 = x by omega, show max y 0 = 0 by omega, show max z 0 = z by omega]; exact rbright_2 x y z w h0 h1 h2
    · by_cases h2 : z < 0
      · rw [show max x 0 = x by omega, show max y 0 = y by omega, show max z 0 = 0 by omega]; exact rbright_4 x y z w h0 h1 h2
      · rw [show max x 0 = x by omega, show max y 0 = y by omega, show max z 0 = z by omega]; exact rbright_0 x y z w h0 h1 h2

/-- how one light is shown, with what of it is below nothing let go -/
theorem show1_any (x y z : Int) (w : World) : Calls Tryd.prog 33 #[V3 x y z] w fun e w' => e = .returned (show3 (max x 0) (max y 0) (max z 0)) ∧ Below w.heap.size w w' := by
  obtain ⟨B, hB⟩ : ∃ B, B = w.heap.size := ⟨_, rfl⟩
  go_enter Tryd.func33, Tryd.ntmps33
  go_upto_region 1 with fail
  have hr := rows2 w (.cells #[.int .i64 x, .int .i64 y, .int .i64 z] 79) (.cells #[.int .u8 0, .int .u8 0, .int .u8 0] 69)
  have hb := Ve.below_n2 w (.cells #[.int .i64 x, .int .i64 y, .int .i64 z] 79) (.cells #[.int .u8 0, .int .u8 0, .int .u8 0] 69)
  obtain ⟨y0, hy0⟩ : ∃ y0, (w.alloc (.cells #[.int .i64 x, .int .i64 y, .int .i64 z] 79)).alloc (.cells #[.int .u8 0, .int .u8 0, .int .u8 0] 69) = y0 := ⟨_, rfl⟩
  rw [hy0] at hr hb ⊢
  rw [← hB] at hr ⊢
  have HBW := Lib.hid hB
  clear hy0 hB
  have c0 := cell_of_row _ _ 0 _ _ _ hr.1
  have c1 := cell_of_row _ _ 1 _ _ _ hr.1
  have c2 := cell_of_row _ _ 2 _ _ _ hr.1
  simp at c0 c1 c2
  have HR := Lib.hid hr.2
  have HB0 := Lib.hid hb
  clear hr hb
  go_wp2_with fail
  refine (bright_any _ _ _ _).mono ?_
  rintro e w1 ⟨rfl, hb1⟩
  have HR1 := Lib.hid ((hb1.block _ (lt_heap HR.out)).trans HR.out)
  have HB1 := Lib.hid (HB0.out.trans (hb1.mono HB0.out.size))
  clear hb1 c0 c1 c2
  go_wp2_with fail
  refine (show_any _ _ _ _).mono ?_
  rintro e w2 ⟨rfl, hb2⟩
  have HR2 := Lib.hid ((hb2.block _ (lt_heap HR1.out)).trans HR1.out)
  have HB2 := Lib.hid (HB1.out.trans (hb2.mono HB1.out.size))
  clear hb2
  have s0 := cell_of_row _ _ 0 _ _ _ HR2.out
  have s1 := cell_of_row _ _ 1 _ _ _ HR2.out
  have s2 := cell_of_row _ _ 2 _ _ _ HR2.out
  simp at s0 s1 s2
  have hf : ∀ j, w2.frozen? ⟨B + 1, j, none⟩ = false := fun j => by simp [World.frozen?, HR2.out]
  have hf0 := hf 0
  have hf1 := hf 1
  have hf2 := hf 2
  clear hf
  go_wp2
  exact bodyPost_ret (v := show3 (max x 0) (max y 0) (max z 0)) (by simp [results, Tryd.results33, go_sem, s0, s1, s2]) rfl ⟨rfl, below_put3 HB2.out (by have := HBW.out; omega) _ _ _⟩

theorem near1_any (x : Int) (w : World) : Calls Tryd.prog 41 #[.int .i64 x] w fun e w' => e = .returned (B3 (Pl.shade x) (Pl.shade x) (Pl.shade x)) ∧ Below w.heap.size w w' := by
  go_enter Tryd.func41, Tryd.ntmps41
  go_wp2_with (go_at_call 42; refine (shade_any _ _).mono ?_; rintro e w1 ⟨rfl, rfl⟩)
  exact bodyPost_ret (v := B3 (Pl.shade x) (Pl.shade x) (Pl.shade x)) (by simp [results, Tryd.results41, go_sem]) rfl ⟨rfl, by repeat (first | exact Below.refl _ _ | refine Below.setCell ?_ (by simp) _ | refine Below.alloc ?_ (by simp) _ | refine Below.drew ?_)⟩

/-- how far a side of a normal is from black -/
def side (x : Int) : Int := Pl.shade (Pl.div (Pl.add x 65536) 131072)

theorem side_any (x : Int) (w : World) : Calls Tryd.prog 43 #[.int .i64 x] w fun e w' => e = .returned (.int .u8 (side x)) ∧ w = w' := by
  go_enter Tryd.func43, Tryd.ntmps43
  go_wp2_with (first | (go_at_call 39; refine (add_any _ _ _).mono ?_; rintro e w' ⟨rfl, rfl⟩) | (go_at_call 38; refine (div_any _ _ _).mono ?_; rintro e w' ⟨rfl, rfl⟩) | (go_at_call 42; refine (shade_any _ _).mono ?_; rintro e w' ⟨rfl, rfl⟩))
  go_ret
  exact ⟨rfl, rfl⟩

end Go.Proofs.YtcohehekkeeeoaaDoor.Pq
