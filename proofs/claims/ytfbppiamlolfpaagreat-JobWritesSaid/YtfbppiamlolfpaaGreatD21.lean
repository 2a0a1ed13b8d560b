/- Jobs: the parts of a scene that are numbers all through, laid by a writer, by the program. -/
import Derived.Test.YtfbppiamlolfpaaGreatD20
namespace Go.Proofs.YtfbppiamlolfpaaGreat.Jw
open Go.RowKit Go.Proofs.YtfbppiamlolfpaaGreat Go.Proofs.YtfbppiamlolfpaaGreat.Rp Go.Proofs.YtfbppiamlolfpaaGreat.Re Go.Proofs.YtfbppiamlolfpaaGreat.Au
set_option linter.unusedVariables false
set_option linter.unusedSimpArgs false

set_option maxHeartbeats 4000000 in
set_option maxRecDepth 100000 in
theorem wheader (g B : Nat) (l : List UInt8) (a1 a2 a3 a4 a5 a6 : Int) (sd : Nat) (r1 r2 r3 : Int) (w : World) (hw : WP g B l w) (hl : l.length ≤ 10000000) (hsd : sd < 18446744073709551616) : Calls Tryz.prog 50 #[.agg #[.pointer (some ⟨g, 0, none⟩)], .agg #[.int .i64 a1, .int .i64 a2, .int .i64 a3, .int .i64 a4, .int .i64 a5, .int .i64 a6, .int .u64 (sd : Int), .int .i64 r1, .int .i64 r2, .int .i64 r3]] w fun e' w' => e' = .returned (.tuple #[]) ∧ WP g B (l ++ numsOf 2 [a1, a2, a3, a4, a5] ++ numsOf 5 [a6] ++ bytesOf (sd) 8 ++ numsOf 5 [r1, r2, r3]) w' ∧ Aft g B w w' := by
  have HPw := Lib.hid hw
  obtain ⟨hB, hg⟩ := hw.size
  clear hw
  have HSD := Lib.hid hsd
  clear hsd
  go_enter Tryz.func50, Tryz.ntmps50
  go_upto_region 1 with fail
  have hR := Au.rows2 w (.cells #[.pointer (some ⟨g, 0, none⟩)] 71) (.cells #[.int .i64 a1, .int .i64 a2, .int .i64 a3, .int .i64 a4, .int .i64 a5, .int .i64 a6, .int .u64 (sd : Int), .int .i64 r1, .int .i64 r2, .int .i64 r3] 43)
  have HUx := Ve.below_n2 w (.cells #[.pointer (some ⟨g, 0, none⟩)] 71) (.cells #[.int .i64 a1, .int .i64 a2, .int .i64 a3, .int .i64 a4, .int .i64 a5, .int .i64 a6, .int .u64 (sd : Int), .int .i64 r1, .int .i64 r2, .int .i64 r3] 43)
  obtain ⟨y0, hy0⟩ : ∃ y0, (w.alloc (.cells #[.pointer (some ⟨g, 0, none⟩)] 71)).alloc (.cells #[.int .i64 a1, .int .i64 a2, .int .i64 a3, .int .i64 a4, .int .i64 a5, .int .i64 a6, .int .u64 (sd : Int), .int .i64 r1, .int .i64 r2, .int .i64 r3] 43) = y0 := ⟨_, rfl⟩
  rw [hy0] at hR HUx ⊢
  clear hy0
  have HP0 := Lib.hid (HPw.out.new HUx)
  have hz0 := HUx.size
  have HU0 := Lib.hid (Aft.of (g := g) (base := B) HUx)
  clear HUx
  obtain ⟨hr0_0, hr0_1⟩ := hR
  have c0_0 := cell_of_row _ _ 0 _ _ _ hr0_0
  have c1_0 := cell_of_row _ _ 0 _ _ _ hr0_1
  have c1_1 := cell_of_row _ _ 1 _ _ _ hr0_1
  have c1_2 := cell_of_row _ _ 2 _ _ _ hr0_1
  have c1_3 := cell_of_row _ _ 3 _ _ _ hr0_1
  have c1_4 := cell_of_row _ _ 4 _ _ _ hr0_1
  have c1_5 := cell_of_row _ _ 5 _ _ _ hr0_1
  have c1_6 := cell_of_row _ _ 6 _ _ _ hr0_1
  have c1_7 := cell_of_row _ _ 7 _ _ _ hr0_1
  have c1_8 := cell_of_row _ _ 8 _ _ _ hr0_1
  have c1_9 := cell_of_row _ _ 9 _ _ _ hr0_1
  simp at c0_0 c1_0 c1_1 c1_2 c1_3 c1_4 c1_5 c1_6 c1_7 c1_8 c1_9
  go_wp2_with fail
  clear c0_0 c1_0 c1_1 c1_2 c1_3 c1_4 c1_5 c1_6 c1_7 c1_8 c1_9
  have hb1 := Ve.below_n1 y0 (.cells #[.int .i64 a1, .int .i64 a2, .int .i64 a3, .int .i64 a4, .int .i64 a5] 3)
  have hp1 := HP0.out.new hb1
  have hb1 := Aft.of (g := g) (base := B) hb1
  have hN := heap_alloc_last y0 (.cells #[.int .i64 a1, .int .i64 a2, .int .i64 a3, .int .i64 a4, .int .i64 a5] 3)
  obtain ⟨y1, hy1⟩ : ∃ y, y0.alloc (.cells #[.int .i64 a1, .int .i64 a2, .int .i64 a3, .int .i64 a4, .int .i64 a5] 3) = y := ⟨_, rfl⟩
  have hs1 : y1.heap.size = y0.heap.size + 1 := by rw [← hy1]; simp
  rw [hy1] at hb1 hN hp1 ⊢
  clear hy1
  have HP1 := Lib.hid hp1
  have hz1 := hb1.size
  have hl1_0 := lt_heap hr0_0
  have hl1_1 := lt_heap hr0_1
  have hr1_0 := hb1.other _ _ _ _ (by omega) (by decide) hr0_0
  have hr1_1 := hb1.other _ _ _ _ (by omega) (by decide) hr0_1
  have HU1 := Lib.hid (HU0.out.trans hb1)
  clear hr0_0 hr0_1 HU0
  have hr1_2 := hN
  clear hN
  refine (whalf g B (l) [a1, a2, a3, a4, a5] (y0.heap.size) 5 _ _ _ HP1.out hr1_2 rfl (by decide) (by omega) (by simp) (by first | omega | (simp only [List.length_append, numsOf_length, bytesOf_length, List.length_cons, List.length_nil]; omega))).mono ?_
  rintro e y2 ⟨rfl, hp2, hb2⟩
  have HP2 := Lib.hid hp2
  have hz2 := hb2.size
  have hr2_0 := hb2.other _ _ _ _ (by omega) (by decide) hr1_0
  have hr2_1 := hb2.other _ _ _ _ (by omega) (by decide) hr1_1
  have hr2_2 := hb2.other _ _ _ _ (by omega) (by decide) hr1_2
  have HU2 := Lib.hid (HU1.out.trans hb2)
  clear hr1_0 hr1_1 hr1_2 HU1
  have c0_0 := cell_of_row _ _ 0 _ _ _ hr2_0
  have c1_0 := cell_of_row _ _ 0 _ _ _ hr2_1
  have c1_1 := cell_of_row _ _ 1 _ _ _ hr2_1
  have c1_2 := cell_of_row _ _ 2 _ _ _ hr2_1
  have c1_3 := cell_of_row _ _ 3 _ _ _ hr2_1
  have c1_4 := cell_of_row _ _ 4 _ _ _ hr2_1
  have c1_5 := cell_of_row _ _ 5 _ _ _ hr2_1
  have c1_6 := cell_of_row _ _ 6 _ _ _ hr2_1
  have c1_7 := cell_of_row _ _ 7 _ _ _ hr2_1
  have c1_8 := cell_of_row _ _ 8 _ _ _ hr2_1
  have c1_9 := cell_of_row _ _ 9 _ _ _ hr2_1
  simp at c0_0 c1_0 c1_1 c1_2 c1_3 c1_4 c1_5 c1_6 c1_7 c1_8 c1_9
  go_wp2_with fail
  clear c0_0 c1_0 c1_1 c1_2 c1_3 c1_4 c1_5 c1_6 c1_7 c1_8 c1_9
  have hb3 := Ve.below_n1 y2 (.cells #[.int .i64 a6] 39)
  have hp3 := HP2.out.new hb3
  have hb3 := Aft.of (g := g) (base := B) hb3
  have hN := heap_alloc_last y2 (.cells #[.int .i64 a6] 39)
  obtain ⟨y3, hy3⟩ : ∃ y, y2.alloc (.cells #[.int .i64 a6] 39) = y := ⟨_, rfl⟩
  have hs3 : y3.heap.size = y2.heap.size + 1 := by rw [← hy3]; simp
  rw [hy3] at hb3 hN hp3 ⊢
  clear hy3
  have HP3 := Lib.hid hp3
  have hz3 := hb3.size
  have hl3_0 := lt_heap hr2_0
  have hl3_1 := lt_heap hr2_1
  have hl3_2 := lt_heap hr2_2
  have hr3_0 := hb3.other _ _ _ _ (by omega) (by decide) hr2_0
  have hr3_1 := hb3.other _ _ _ _ (by omega) (by decide) hr2_1
  have hr3_2 := hb3.other _ _ _ _ (by omega) (by decide) hr2_2
  have HU3 := Lib.hid (HU2.out.trans hb3)
  clear hr2_0 hr2_1 hr2_2 HU2
  have hr3_3 := hN
  clear hN
  refine (wfix g B (l ++ numsOf 2 [a1, a2, a3, a4, a5]) [a6] (y2.heap.size) 1 _ _ _ HP3.out hr3_3 rfl (by decide) (by omega) (by simp) (by first | omega | (simp only [List.length_append, numsOf_length, bytesOf_length, List.length_cons, List.length_nil]; omega))).mono ?_
  rintro e y4 ⟨rfl, hp4, hb4⟩
  have HP4 := Lib.hid hp4
  have hz4 := hb4.size
  have hr4_0 := hb4.other _ _ _ _ (by omega) (by decide) hr3_0
  have hr4_1 := hb4.other _ _ _ _ (by omega) (by decide) hr3_1
  have hr4_2 := hb4.other _ _ _ _ (by omega) (by decide) hr3_2
  have hr4_3 := hb4.other _ _ _ _ (by omega) (by decide) hr3_3
  have HU4 := Lib.hid (HU3.out.trans hb4)
  clear hr3_0 hr3_1 hr3_2 hr3_3 HU3
  have c0_0 := cell_of_row _ _ 0 _ _ _ hr4_0
  have c1_0 := cell_of_row _ _ 0 _ _ _ hr4_1
  have c1_1 := cell_of_row _ _ 1 _ _ _ hr4_1
  have c1_2 := cell_of_row _ _ 2 _ _ _ hr4_1
  have c1_3 := cell_of_row _ _ 3 _ _ _ hr4_1
  have c1_4 := cell_of_row _ _ 4 _ _ _ hr4_1
  have c1_5 := cell_of_row _ _ 5 _ _ _ hr4_1
  have c1_6 := cell_of_row _ _ 6 _ _ _ hr4_1
  have c1_7 := cell_of_row _ _ 7 _ _ _ hr4_1
  have c1_8 := cell_of_row _ _ 8 _ _ _ hr4_1
  have c1_9 := cell_of_row _ _ 9 _ _ _ hr4_1
  simp at c0_0 c1_0 c1_1 c1_2 c1_3 c1_4 c1_5 c1_6 c1_7 c1_8 c1_9
  go_wp2_with fail
  refine (wlong g B (l ++ numsOf 2 [a1, a2, a3, a4, a5] ++ numsOf 5 [a6]) _ HSD.out _ HP4.out (by first | omega | (simp only [List.length_append, numsOf_length, bytesOf_length, List.length_cons, List.length_nil]; omega))).mono ?_
  rintro e y5 ⟨rfl, hp5, hb5⟩
  have HP5 := Lib.hid hp5
  have hz5 := hb5.size
  clear c0_0 c1_0 c1_1 c1_2 c1_3 c1_4 c1_5 c1_6 c1_7 c1_8 c1_9
  have hr5_0 := hb5.other _ _ _ _ (by omega) (by decide) hr4_0
  have hr5_1 := hb5.other _ _ _ _ (by omega) (by decide) hr4_1
  have hr5_2 := hb5.other _ _ _ _ (by omega) (by decide) hr4_2
  have hr5_3 := hb5.other _ _ _ _ (by omega) (by decide) hr4_3
  have HU5 := Lib.hid (HU4.out.trans hb5)
  clear hr4_0 hr4_1 hr4_2 hr4_3 HU4
  have c0_0 := cell_of_row _ _ 0 _ _ _ hr5_0
  have c1_0 := cell_of_row _ _ 0 _ _ _ hr5_1
  have c1_1 := cell_of_row _ _ 1 _ _ _ hr5_1
  have c1_2 := cell_of_row _ _ 2 _ _ _ hr5_1
  have c1_3 := cell_of_row _ _ 3 _ _ _ hr5_1
  have c1_4 := cell_of_row _ _ 4 _ _ _ hr5_1
  have c1_5 := cell_of_row _ _ 5 _ _ _ hr5_1
  have c1_6 := cell_of_row _ _ 6 _ _ _ hr5_1
  have c1_7 := cell_of_row _ _ 7 _ _ _ hr5_1
  have c1_8 := cell_of_row _ _ 8 _ _ _ hr5_1
  have c1_9 := cell_of_row _ _ 9 _ _ _ hr5_1
  simp at c0_0 c1_0 c1_1 c1_2 c1_3 c1_4 c1_5 c1_6 c1_7 c1_8 c1_9
  go_wp2_with fail
  clear c0_0 c1_0 c1_1 c1_2 c1_3 c1_4 c1_5 c1_6 c1_7 c1_8 c1_9
  have hb6 := Ve.below_n1 y5 (.cells #[.int .i64 r1, .int .i64 r2, .int .i64 r3] 41)
  have hp6 := HP5.out.new hb6
  have hb6 := Aft.of (g := g) (base := B) hb6
  have hN := heap_alloc_last y5 (.cells #[.int .i64 r1, .int .i64 r2, .int .i64 r3] 41)
  obtain ⟨y6, hy6⟩ : ∃ y, y5.alloc (.cells #[.int .i64 r1, .int .i64 r2, .int .i64 r3] 41) = y := ⟨_, rfl⟩
  have hs6 : y6.heap.size = y5.heap.size + 1 := by rw [← hy6]; simp
  rw [hy6] at hb6 hN hp6 ⊢
  clear hy6
  have HP6 := Lib.hid hp6
  have hz6 := hb6.size
  have hl6_0 := lt_heap hr5_0
  have hl6_1 := lt_heap hr5_1
  have hl6_2 := lt_heap hr5_2
  have hl6_3 := lt_heap hr5_3
  have hr6_0 := hb6.other _ _ _ _ (by omega) (by decide) hr5_0
  have hr6_1 := hb6.other _ _ _ _ (by omega) (by decide) hr5_1
  have hr6_2 := hb6.other _ _ _ _ (by omega) (by decide) hr5_2
  have hr6_3 := hb6.other _ _ _ _ (by omega) (by decide) hr5_3
  have HU6 := Lib.hid (HU5.out.trans hb6)
  clear hr5_0 hr5_1 hr5_2 hr5_3 HU5
  have hr6_4 := hN
  clear hN
  refine (whue g B (l ++ numsOf 2 [a1, a2, a3, a4, a5] ++ numsOf 5 [a6] ++ bytesOf (sd) 8) (y5.heap.size) 1 _ (r1) (r2) (r3) _ HP6.out hr6_4 (by decide) (by omega) (by first | omega | (simp only [List.length_append, numsOf_length, bytesOf_length, List.length_cons, List.length_nil]; omega))).mono ?_
  rintro e y7 ⟨rfl, hp7, hb7⟩
  have HP7 := Lib.hid hp7
  have hz7 := hb7.size
  have hr7_0 := hb7.other _ _ _ _ (by omega) (by decide) hr6_0
  have hr7_1 := hb7.other _ _ _ _ (by omega) (by decide) hr6_1
  have hr7_2 := hb7.other _ _ _ _ (by omega) (by decide) hr6_2
  have hr7_3 := hb7.other _ _ _ _ (by omega) (by decide) hr6_3
  have hr7_4 := hb7.other _ _ _ _ (by omega) (by decide) hr6_4
  have HU7 := Lib.hid (HU6.out.trans hb7)
  clear hr6_0 hr6_1 hr6_2 hr6_3 hr6_4 HU6
  go_wp2
  go_end0
  exact ⟨rfl, HP7.out, HU7.out⟩

set_option maxHeartbeats 4000000 in
set_option maxRecDepth 100000 in
theorem wlens (g B : Nat) (l : List UInt8) (a1 a2 a3 : Int) (w : World) (hw : WP g B l w) (hl : l.length ≤ 10000000) : Calls Tryz.prog 51 #[.agg #[.pointer (some ⟨g, 0, none⟩)], .agg #[.int .i64 a1, .int .i64 a2, .int .i64 a3]] w fun e' w' => e' = .returned (.tuple #[]) ∧ WP g B (l ++ numsOf 2 [a1, a2] ++ numsOf 5 [a3]) w' ∧ Aft g B w w' := by
  have HPw := Lib.hid hw
  obtain ⟨hB, hg⟩ := hw.size
  clear hw
  go_enter Tryz.func51, Tryz.ntmps51
  go_upto_region 1 with fail
  have hR := Au.rows2 w (.cells #[.pointer (some ⟨g, 0, none⟩)] 71) (.cells #[.int .i64 a1, .int .i64 a2, .int .i64 a3] 45)
  have HUx := Ve.below_n2 w (.cells #[.pointer (some ⟨g, 0, none⟩)] 71) (.cells #[.int .i64 a1, .int .i64 a2, .int .i64 a3] 45)
  obtain ⟨y0, hy0⟩ : ∃ y0, (w.alloc (.cells #[.pointer (some ⟨g, 0, none⟩)] 71)).alloc (.cells #[.int .i64 a1, .int .i64 a2, .int .i64 a3] 45) = y0 := ⟨_, rfl⟩
  rw [hy0] at hR HUx ⊢
  clear hy0
  have HP0 := Lib.hid (HPw.out.new HUx)
  have hz0 := HUx.size
  have HU0 := Lib.hid (Aft.of (g := g) (base := B) HUx)
  clear HUx
  obtain ⟨hr0_0, hr0_1⟩ := hR
  have c0_0 := cell_of_row _ _ 0 _ _ _ hr0_0
  have c1_0 := cell_of_row _ _ 0 _ _ _ hr0_1
  have c1_1 := cell_of_row _ _ 1 _ _ _ hr0_1
  have c1_2 := cell_of_row _ _ 2 _ _ _ hr0_1
  simp at c0_0 c1_0 c1_1 c1_2
  go_wp2_with fail
  clear c0_0 c1_0 c1_1 c1_2
  have hb1 := Ve.below_n1 y0 (.cells #[.int .i64 a1, .int .i64 a2] 3)
  have hp1 := HP0.out.new hb1
  have hb1 := Aft.of (g := g) (base := B) hb1
  have hN := heap_alloc_last y0 (.cells #[.int .i64 a1, .int .i64 a2] 3)
  obtain ⟨y1, hy1⟩ : ∃ y, y0.alloc (.cells #[.int .i64 a1, .int .i64 a2] 3) = y := ⟨_, rfl⟩
  have hs1 : y1.heap.size = y0.heap.size + 1 := by rw [← hy1]; simp
  rw [hy1] at hb1 hN hp1 ⊢
  clear hy1
  have HP1 := Lib.hid hp1
  have hz1 := hb1.size
  have hl1_0 := lt_heap hr0_0
  have hl1_1 := lt_heap hr0_1
  have hr1_0 := hb1.other _ _ _ _ (by omega) (by decide) hr0_0
  have hr1_1 := hb1.other _ _ _ _ (by omega) (by decide) hr0_1
  have HU1 := Lib.hid (HU0.out.trans hb1)
  clear hr0_0 hr0_1 HU0
  have hr1_2 := hN
  clear hN
  refine (whalf g B (l) [a1, a2] (y0.heap.size) 2 _ _ _ HP1.out hr1_2 rfl (by decide) (by omega) (by simp) (by first | omega | (simp only [List.length_append, numsOf_length, bytesOf_length, List.length_cons, List.length_nil]; omega))).mono ?_
  rintro e y2 ⟨rfl, hp2, hb2⟩
  have HP2 := Lib.hid hp2
  have hz2 := hb2.size
  have hr2_0 := hb2.other _ _ _ _ (by omega) (by decide) hr1_0
  have hr2_1 := hb2.other _ _ _ _ (by omega) (by decide) hr1_1
  have hr2_2 := hb2.other _ _ _ _ (by omega) (by decide) hr1_2
  have HU2 := Lib.hid (HU1.out.trans hb2)
  clear hr1_0 hr1_1 hr1_2 HU1
  have c0_0 := cell_of_row _ _ 0 _ _ _ hr2_0
  have c1_0 := cell_of_row _ _ 0 _ _ _ hr2_1
  have c1_1 := cell_of_row _ _ 1 _ _ _ hr2_1
  have c1_2 := cell_of_row _ _ 2 _ _ _ hr2_1
  simp at c0_0 c1_0 c1_1 c1_2
  go_wp2_with fail
  clear c0_0 c1_0 c1_1 c1_2
  have hb3 := Ve.below_n1 y2 (.cells #[.int .i64 a3] 39)
  have hp3 := HP2.out.new hb3
  have hb3 := Aft.of (g := g) (base := B) hb3
  have hN := heap_alloc_last y2 (.cells #[.int .i64 a3] 39)
  obtain ⟨y3, hy3⟩ : ∃ y, y2.alloc (.cells #[.int .i64 a3] 39) = y := ⟨_, rfl⟩
  have hs3 : y3.heap.size = y2.heap.size + 1 := by rw [← hy3]; simp
  rw [hy3] at hb3 hN hp3 ⊢
  clear hy3
  have HP3 := Lib.hid hp3
  have hz3 := hb3.size
  have hl3_0 := lt_heap hr2_0
  have hl3_1 := lt_heap hr2_1
  have hl3_2 := lt_heap hr2_2
  have hr3_0 := hb3.other _ _ _ _ (by omega) (by decide) hr2_0
  have hr3_1 := hb3.other _ _ _ _ (by omega) (by decide) hr2_1
  have hr3_2 := hb3.other _ _ _ _ (by omega) (by decide) hr2_2
  have HU3 := Lib.hid (HU2.out.trans hb3)
  clear hr2_0 hr2_1 hr2_2 HU2
  have hr3_3 := hN
  clear hN
  refine (wfix g B (l ++ numsOf 2 [a1, a2]) [a3] (y2.heap.size) 1 _ _ _ HP3.out hr3_3 rfl (by decide) (by omega) (by simp) (by first | omega | (simp only [List.length_append, numsOf_length, bytesOf_length, List.length_cons, List.length_nil]; omega))).mono ?_
  rintro e y4 ⟨rfl, hp4, hb4⟩
  have HP4 := Lib.hid hp4
  have hz4 := hb4.size
  have hr4_0 := hb4.other _ _ _ _ (by omega) (by decide) hr3_0
  have hr4_1 := hb4.other _ _ _ _ (by omega) (by decide) hr3_1
  have hr4_2 := hb4.other _ _ _ _ (by omega) (by decide) hr3_2
  have hr4_3 := hb4.other _ _ _ _ (by omega) (by decide) hr3_3
  have HU4 := Lib.hid (HU3.out.trans hb4)
  clear hr3_0 hr3_1 hr3_2 hr3_3 HU3
  go_wp2
  go_end0
  exact ⟨rfl, HP4.out, HU4.out⟩

set_option maxHeartbeats 4000000 in
set_option maxRecDepth 100000 in
theorem wpaint (g B : Nat) (l : List UInt8) (a1 r1 r2 r3 a2 : Int) (w : World) (hw : WP g B l w) (hl : l.length ≤ 10000000) : Calls Tryz.prog 52 #[.agg #[.pointer (some ⟨g, 0, none⟩)], .agg #[.int .i64 a1, .int .i64 r1, .int .i64 r2, .int .i64 r3, .int .i64 a2]] w fun e' w' => e' = .returned (.tuple #[]) ∧ WP g B (l ++ numsOf 1 [a1] ++ numsOf 5 [r1, r2, r3] ++ numsOf 5 [a2]) w' ∧ Aft g B w w' := by
  have HPw := Lib.hid hw
  obtain ⟨hB, hg⟩ := hw.size
  clear hw
  go_enter Tryz.func52, Tryz.ntmps52
  go_upto_region 1 with fail
  have hR := Au.rows2 w (.cells #[.pointer (some ⟨g, 0, none⟩)] 71) (.cells #[.int .i64 a1, .int .i64 r1, .int .i64 r2, .int .i64 r3, .int .i64 a2] 78)
  have HUx := Ve.below_n2 w (.cells #[.pointer (some ⟨g, 0, none⟩)] 71) (.cells #[.int .i64 a1, .int .i64 r1, .int .i64 r2, .int .i64 r3, .int .i64 a2] 78)
  obtain ⟨y0, hy0⟩ : ∃ y0, (w.alloc (.cells #[.pointer (some ⟨g, 0, none⟩)] 71)).alloc (.cells #[.int .i64 a1, .int .i64 r1, .int .i64 r2, .int .i64 r3, .int .i64 a2] 78) = y0 := ⟨_, rfl⟩
  rw [hy0] at hR HUx ⊢
  clear hy0
  have HP0 := Lib.hid (HPw.out.new HUx)
  have hz0 := HUx.size
  have HU0 := Lib.hid (Aft.of (g := g) (base := B) HUx)
  clear HUx
  obtain ⟨hr0_0, hr0_1⟩ := hR
  have c0_0 := cell_of_row _ _ 0 _ _ _ hr0_0
  have c1_0 := cell_of_row _ _ 0 _ _ _ hr0_1
  have c1_1 := cell_of_row _ _ 1 _ _ _ hr0_1
  have c1_2 := cell_of_row _ _ 2 _ _ _ hr0_1
  have c1_3 := cell_of_row _ _ 3 _ _ _ hr0_1
  have c1_4 := cell_of_row _ _ 4 _ _ _ hr0_1
  simp at c0_0 c1_0 c1_1 c1_2 c1_3 c1_4
  go_wp2_with fail
  clear c0_0 c1_0 c1_1 c1_2 c1_3 c1_4
  have hb1 := Ve.below_n1 y0 (.cells #[.int .i64 a1] 3)
  have hp1 := HP0.out.new hb1
  have hb1 := Aft.of (g := g) (base := B) hb1
  have hN := heap_alloc_last y0 (.cells #[.int .i64 a1] 3)
  obtain ⟨y1, hy1⟩ : ∃ y, y0.alloc (.cells #[.int .i64 a1] 3) = y := ⟨_, rfl⟩
  have hs1 : y1.heap.size = y0.heap.size + 1 := by rw [← hy1]; simp
  rw [hy1] at hb1 hN hp1 ⊢
  clear hy1
  have HP1 := Lib.hid hp1
  have hz1 := hb1.size
  have hl1_0 := lt_heap hr0_0
  have hl1_1 := lt_heap hr0_1
  have hr1_0 := hb1.other _ _ _ _ (by omega) (by decide) hr0_0
  have hr1_1 := hb1.other _ _ _ _ (by omega) (by decide) hr0_1
  have HU1 := Lib.hid (HU0.out.trans hb1)
  clear hr0_0 hr0_1 HU0
  have hr1_2 := hN
  clear hN
  refine (wbyte g B (l) [a1] (y0.heap.size) 1 _ _ _ HP1.out hr1_2 rfl (by decide) (by omega) (by simp) (by first | omega | (simp only [List.length_append, numsOf_length, bytesOf_length, List.length_cons, List.length_nil]; omega))).mono ?_
  rintro e y2 ⟨rfl, hp2, hb2⟩
  have HP2 := Lib.hid hp2
  have hz2 := hb2.size
  have hr2_0 := hb2.other _ _ _ _ (by omega) (by decide) hr1_0
  have hr2_1 := hb2.other _ _ _ _ (by omega) (by decide) hr1_1
  have hr2_2 := hb2.other _ _ _ _ (by omega) (by decide) hr1_2
  have HU2 := Lib.hid (HU1.out.trans hb2)
  clear hr1_0 hr1_1 hr1_2 HU1
  have c0_0 := cell_of_row _ _ 0 _ _ _ hr2_0
  have c1_0 := cell_of_row _ _ 0 _ _ _ hr2_1
  have c1_1 := cell_of_row _ _ 1 _ _ _ hr2_1
  have c1_2 := cell_of_row _ _ 2 _ _ _ hr2_1
  have c1_3 := cell_of_row _ _ 3 _ _ _ hr2_1
  have c1_4 := cell_of_row _ _ 4 _ _ _ hr2_1
  simp at c0_0 c1_0 c1_1 c1_2 c1_3 c1_4
  go_wp2_with fail
  clear c0_0 c1_0 c1_1 c1_2 c1_3 c1_4
  have hb3 := Ve.below_n1 y2 (.cells #[.int .i64 r1, .int .i64 r2, .int .i64 r3] 41)
  have hp3 := HP2.out.new hb3
  have hb3 := Aft.of (g := g) (base := B) hb3
  have hN := heap_alloc_last y2 (.cells #[.int .i64 r1, .int .i64 r2, .int .i64 r3] 41)
  obtain ⟨y3, hy3⟩ : ∃ y, y2.alloc (.cells #[.int .i64 r1, .int .i64 r2, .int .i64 r3] 41) = y := ⟨_, rfl⟩
  have hs3 : y3.heap.size = y2.heap.size + 1 := by rw [← hy3]; simp
  rw [hy3] at hb3 hN hp3 ⊢
  clear hy3
  have HP3 := Lib.hid hp3
  have hz3 := hb3.size
  have hl3_0 := lt_heap hr2_0
  have hl3_1 := lt_heap hr2_1
  have hl3_2 := lt_heap hr2_2
  have hr3_0 := hb3.other _ _ _ _ (by omega) (by decide) hr2_0
  have hr3_1 := hb3.other _ _ _ _ (by omega) (by decide) hr2_1
  have hr3_2 := hb3.other _ _ _ _ (by omega) (by decide) hr2_2
  have HU3 := Lib.hid (HU2.out.trans hb3)
  clear hr2_0 hr2_1 hr2_2 HU2
  have hr3_3 := hN
  clear hN
  refine (whue g B (l ++ numsOf 1 [a1]) (y2.heap.size) 1 _ (r1) (r2) (r3) _ HP3.out hr3_3 (by decide) (by omega) (by first | omega | (simp only [List.length_append, numsOf_length, bytesOf_length, List.length_cons, List.length_nil]; omega))).mono ?_
  rintro e y4 ⟨rfl, hp4, hb4⟩
  have HP4 := Lib.hid hp4
  have hz4 := hb4.size
  have hr4_0 := hb4.other _ _ _ _ (by omega) (by decide) hr3_0
  have hr4_1 := hb4.other _ _ _ _ (by omega) (by decide) hr3_1
  have hr4_2 := hb4.other _ _ _ _ (by omega) (by decide) hr3_2
  have hr4_3 := hb4.other _ _ _ _ (by omega) (by decide) hr3_3
  have HU4 := Lib.hid (HU3.out.trans hb4)
  clear hr3_0 hr3_1 hr3_2 hr3_3 HU3
  have c0_0 := cell_of_row _ _ 0 _ _ _ hr4_0
  have c1_0 := cell_of_row _ _ 0 _ _ _ hr4_1
  have c1_1 := cell_of_row _ _ 1 _ _ _ hr4_1
  have c1_2 := cell_of_row _ _ 2 _ _ _ hr4_1
  have c1_3 := cell_of_row _ _ 3 _ _ _ hr4_1
  have c1_4 := cell_of_row _ _ 4 _ _ _ hr4_1
  simp at c0_0 c1_0 c1_1 c1_2 c1_3 c1_4
  go_wp2_with fail
  clear c0_0 c1_0 c1_1 c1_2 c1_3 c1_4
  have hb5 := Ve.below_n1 y4 (.cells #[.int .i64 a2] 39)
  have hp5 := HP4.out.new hb5
  have hb5 := Aft.of (g := g) (base := B) hb5
  have hN := heap_alloc_last y4 (.cells #[.int .i64 a2] 39)
  obtain ⟨y5, hy5⟩ : ∃ y, y4.alloc (.cells #[.int .i64 a2] 39) = y := ⟨_, rfl⟩
  have hs5 : y5.heap.size = y4.heap.size + 1 := by rw [← hy5]; simp
  rw [hy5] at hb5 hN hp5 ⊢
  clear hy5
  have HP5 := Lib.hid hp5
  have hz5 := hb5.size
  have hl5_0 := lt_heap hr4_0
  have hl5_1 := lt_heap hr4_1
  have hl5_2 := lt_heap hr4_2
  have hl5_3 := lt_heap hr4_3
  have hr5_0 := hb5.other _ _ _ _ (by omega) (by decide) hr4_0
  have hr5_1 := hb5.other _ _ _ _ (by omega) (by decide) hr4_1
  have hr5_2 := hb5.other _ _ _ _ (by omega) (by decide) hr4_2
  have hr5_3 := hb5.other _ _ _ _ (by omega) (by decide) hr4_3
  have HU5 := Lib.hid (HU4.out.trans hb5)
  clear hr4_0 hr4_1 hr4_2 hr4_3 HU4
  have hr5_4 := hN
  clear hN
  refine (wfix g B (l ++ numsOf 1 [a1] ++ numsOf 5 [r1, r2, r3]) [a2] (y4.heap.size) 1 _ _ _ HP5.out hr5_4 rfl (by decide) (by omega) (by simp) (by first | omega | (simp only [List.length_append, numsOf_length, bytesOf_length, List.length_cons, List.length_nil]; omega))).mono ?_
  rintro e y6 ⟨rfl, hp6, hb6⟩
  have HP6 := Lib.hid hp6
  have hz6 := hb6.size
  have hr6_0 := hb6.other _ _ _ _ (by omega) (by decide) hr5_0
  have hr6_1 := hb6.other _ _ _ _ (by omega) (by decide) hr5_1
  have hr6_2 := hb6.other _ _ _ _ (by omega) (by decide) hr5_2
  have hr6_3 := hb6.other _ _ _ _ (by omega) (by decide) hr5_3
  have hr6_4 := hb6.other _ _ _ _ (by omega) (by decide) hr5_4
  have HU6 := Lib.hid (HU5.out.trans hb6)
  clear hr5_0 hr5_1 hr5_2 hr5_3 hr5_4 HU5
  go_wp2
  go_end0
  exact ⟨rfl, HP6.out, HU6.out⟩

set_option maxHeartbeats 4000000 in
set_option maxRecDepth 100000 in
theorem wjoint (g B : Nat) (l : List UInt8) (a1 a2 a3 a4 : Int) (w : World) (hw : WP g B l w) (hl : l.length ≤ 10000000) : Calls Tryz.prog 54 #[.agg #[.pointer (some ⟨g, 0, none⟩)], .agg #[.int .i64 a1, .int .i64 a2, .int .i64 a3, .int .i64 a4]] w fun e' w' => e' = .returned (.tuple #[]) ∧ WP g B (l ++ numsOf 2 [a1, a2, a3] ++ numsOf 5 [a4]) w' ∧ Aft g B w w' := by
  have HPw := Lib.hid hw
  obtain ⟨hB, hg⟩ := hw.size
  clear hw
  go_enter Tryz.func54, Tryz.ntmps54
  go_upto_region 1 with fail
  have hR := Au.rows2 w (.cells #[.pointer (some ⟨g, 0, none⟩)] 71) (.cells #[.int .i64 a1, .int .i64 a2, .int .i64 a3, .int .i64 a4] 86)
  have HUx := Ve.below_n2 w (.cells #[.pointer (some ⟨g, 0, none⟩)] 71) (.cells #[.int .i64 a1, .int .i64 a2, .int .i64 a3, .int .i64 a4] 86)
  obtain ⟨y0, hy0⟩ : ∃ y0, (w.alloc (.cells #[.pointer (some ⟨g, 0, none⟩)] 71)).alloc (.cells #[.int .i64 a1, .int .i64 a2, .int .i64 a3, .int .i64 a4] 86) = y0 := ⟨_, rfl⟩
  rw [hy0] at hR HUx ⊢
  clear hy0
  have HP0 := Lib.hid (HPw.out.new HUx)
  have hz0 := HUx.size
  have HU0 := Lib.hid (Aft.of (g := g) (base := B) HUx)
  clear HUx
  obtain ⟨hr0_0, hr0_1⟩ := hR
  have c0_0 := cell_of_row _ _ 0 _ _ _ hr0_0
  have c1_0 := cell_of_row _ _ 0 _ _ _ hr0_1
  have c1_1 := cell_of_row _ _ 1 _ _ _ hr0_1
  have c1_2 := cell_of_row _ _ 2 _ _ _ hr0_1
  have c1_3 := cell_of_row _ _ 3 _ _ _ hr0_1
  simp at c0_0 c1_0 c1_1 c1_2 c1_3
  go_wp2_with fail
  clear c0_0 c1_0 c1_1 c1_2 c1_3
  have hb1 := Ve.below_n1 y0 (.cells #[.int .i64 a1, .int .i64 a2, .int .i64 a3] 3)
  have hp1 := HP0.out.new hb1
  have hb1 := Aft.of (g := g) (base := B) hb1
  have hN := heap_alloc_last y0 (.cells #[.int .i64 a1, .int .i64 a2, .int .i64 a3] 3)
  obtain ⟨y1, hy1⟩ : ∃ y, y0.alloc (.cells #[.int .i64 a1, .int .i64 a2, .int .i64 a3] 3) = y := ⟨_, rfl⟩
  have hs1 : y1.heap.size = y0.heap.size + 1 := by rw [← hy1]; simp
  rw [hy1] at hb1 hN hp1 ⊢
  clear hy1
  have HP1 := Lib.hid hp1
  have hz1 := hb1.size
  have hl1_0 := lt_heap hr0_0
  have hl1_1 := lt_heap hr0_1
  have hr1_0 := hb1.other _ _ _ _ (by omega) (by decide) hr0_0
  have hr1_1 := hb1.other _ _ _ _ (by omega) (by decide) hr0_1
  have HU1 := Lib.hid (HU0.out.trans hb1)
  clear hr0_0 hr0_1 HU0
  have hr1_2 := hN
  clear hN
  refine (whalf g B (l) [a1, a2, a3] (y0.heap.size) 3 _ _ _ HP1.out hr1_2 rfl (by decide) (by omega) (by simp) (by first | omega | (simp only [List.length_append, numsOf_length, bytesOf_length, List.length_cons, List.length_nil]; omega))).mono ?_
  rintro e y2 ⟨rfl, hp2, hb2⟩
  have HP2 := Lib.hid hp2
  have hz2 := hb2.size
  have hr2_0 := hb2.other _ _ _ _ (by omega) (by decide) hr1_0
  have hr2_1 := hb2.other _ _ _ _ (by omega) (by decide) hr1_1
  have hr2_2 := hb2.other _ _ _ _ (by omega) (by decide) hr1_2
  have HU2 := Lib.hid (HU1.out.trans hb2)
  clear hr1_0 hr1_1 hr1_2 HU1
  have c0_0 := cell_of_row _ _ 0 _ _ _ hr2_0
  have c1_0 := cell_of_row _ _ 0 _ _ _ hr2_1
  have c1_1 := cell_of_row _ _ 1 _ _ _ hr2_1
  have c1_2 := cell_of_row _ _ 2 _ _ _ hr2_1
  have c1_3 := cell_of_row _ _ 3 _ _ _ hr2_1
  simp at c0_0 c1_0 c1_1 c1_2 c1_3
  go_wp2_with fail
  clear c0_0 c1_0 c1_1 c1_2 c1_3
  have hb3 := Ve.below_n1 y2 (.cells #[.int .i64 a4] 39)
  have hp3 := HP2.out.new hb3
  have hb3 := Aft.of (g := g) (base := B) hb3
  have hN := heap_alloc_last y2 (.cells #[.int .i64 a4] 39)
  obtain ⟨y3, hy3⟩ : ∃ y, y2.alloc (.cells #[.int .i64 a4] 39) = y := ⟨_, rfl⟩
  have hs3 : y3.heap.size = y2.heap.size + 1 := by rw [← hy3]; simp
  rw [hy3] at hb3 hN hp3 ⊢
  clear hy3
  have HP3 := Lib.hid hp3
  have hz3 := hb3.size
  have hl3_0 := lt_heap hr2_0
  have hl3_1 := lt_heap hr2_1
  have hl3_2 := lt_heap hr2_2
  have hr3_0 := hb3.other _ _ _ _ (by omega) (by decide) hr2_0
  have hr3_1 := hb3.other _ _ _ _ (by omega) (by decide) hr2_1
  have hr3_2 := hb3.other _ _ _ _ (by omega) (by decide) hr2_2
  have HU3 := Lib.hid (HU2.out.trans hb3)
  clear hr2_0 hr2_1 hr2_2 HU2
  have hr3_3 := hN
  clear hN
  refine (wfix g B (l ++ numsOf 2 [a1, a2, a3]) [a4] (y2.heap.size) 1 _ _ _ HP3.out hr3_3 rfl (by decide) (by omega) (by simp) (by first | omega | (simp only [List.length_append, numsOf_length, bytesOf_length, List.length_cons, List.length_nil]; omega))).mono ?_
  rintro e y4 ⟨rfl, hp4, hb4⟩
  have HP4 := Lib.hid hp4
  have hz4 := hb4.size
  have hr4_0 := hb4.other _ _ _ _ (by omega) (by decide) hr3_0
  have hr4_1 := hb4.other _ _ _ _ (by omega) (by decide) hr3_1
  have hr4_2 := hb4.other _ _ _ _ (by omega) (by decide) hr3_2
  have hr4_3 := hb4.other _ _ _ _ (by omega) (by decide) hr3_3
  have HU4 := Lib.hid (HU3.out.trans hb4)
  clear hr3_0 hr3_1 hr3_2 hr3_3 HU3
  go_wp2
  go_end0
  exact ⟨rfl, HP4.out, HU4.out⟩

end Go.Proofs.YtfbppiamlolfpaaGreat.Jw
