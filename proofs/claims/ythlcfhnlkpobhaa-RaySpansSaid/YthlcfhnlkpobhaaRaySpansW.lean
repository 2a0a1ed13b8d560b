/- RaySpans: the walk: the law returns true, whatever ray, whatever moving shape and whatever numbers come in; nothing that was there is written. -/
import Derived.Test.YthlcfhnlkpobhaaYf
import Derived.Test.YthlcfhnlkpobhaaMo
import Derived.Test.YthlcfhnlkpobhaaLr
namespace Go.Proofs.Ythlcfhnlkpobhaa.raySpansW
open Go.RowKit Go.Proofs.Ythlcfhnlkpobhaa Go.Proofs.Ythlcfhnlkpobhaa.Wa Go.Proofs.Ythlcfhnlkpobhaa.Ve Go.Proofs.Ythlcfhnlkpobhaa.Au Go.Proofs.Ythlcfhnlkpobhaa.Bx Go.Proofs.Ythlcfhnlkpobhaa.Yr
set_option linter.unusedVariables false
set_option linter.unusedSimpArgs false

theorem testR_none (fx fy fz dx dy dz : Int) (n0 n1 n2 : Int → Int) : testR fx fy fz dx dy dz n0 n1 n2 none = .tuple #[.agg #[.int .i64 0, .int .i64 0, .int .i64 0, .int .i64 0, .int .i64 0, .int .i64 0, .int .i64 0, .int .i64 0], .bool false] := rfl

theorem testR_some (fx fy fz dx dy dz t : Int) (n0 n1 n2 : Int → Int) : testR fx fy fz dx dy dz n0 n1 n2 (some t) = .tuple #[.agg #[.int .i64 t, .int .i64 0, .int .i64 (at1 fx dx t), .int .i64 (at1 fy dy t), .int .i64 (at1 fz dz t), .int .i64 (n0 t), .int .i64 (n1 t), .int .i64 (n2 t)], .bool true] := rfl

theorem min3 (a b c : Int) (W : World) : (Builtin.min_ #[2, 2, 2] 2 #[.int .i64 a, .int .i64 b, .int .i64 c]).run Try.prog W = .ok (.int .i64 (min (min a b) c)) W := by
  have e1 : min a b = if b < a then b else a := by rw [Int.min_def]; split <;> split <;> omega
  have e2 : min (min a b) c = if c < min a b then c else min a b := by rw [Int.min_def (min a b)]; split <;> split <;> omega
  rw [e2, e1]
  by_cases h1 : b < a
  · by_cases h2 : c < b <;> simp [Builtin.min_, Builtin.min2, go_sem, h1, h2]
  · by_cases h2 : c < a <;> simp [Builtin.min_, Builtin.min2, go_sem, h1, h2]

theorem max3 (a b c : Int) (W : World) : (Builtin.max_ #[2, 2, 2] 2 #[.int .i64 a, .int .i64 b, .int .i64 c]).run Try.prog W = .ok (.int .i64 (max (max a b) c)) W := by
  have e1 : max a b = if a < b then b else a := by rw [Int.max_def]; split <;> split <;> omega
  have e2 : max (max a b) c = if max a b < c then c else max a b := by rw [Int.max_def (max a b)]; split <;> split <;> omega
  rw [e2, e1]
  by_cases h1 : a < b
  · by_cases h2 : b < c <;> simp [Builtin.max_, Builtin.max2, go_sem, h1, h2]
  · by_cases h2 : a < c <;> simp [Builtin.max_, Builtin.max2, go_sem, h1, h2]

theorem in_span (fx fy fz dx dy dz lo hi t : Int) (h1 : lo ≤ t) (h2 : t ≤ hi) : has6 (min (Pl.add fx (Pl.mul dx lo)) (Pl.add fx (Pl.mul dx hi))) (min (Pl.add fy (Pl.mul dy lo)) (Pl.add fy (Pl.mul dy hi))) (min (Pl.add fz (Pl.mul dz lo)) (Pl.add fz (Pl.mul dz hi))) (max (Pl.add fx (Pl.mul dx lo)) (Pl.add fx (Pl.mul dx hi))) (max (Pl.add fy (Pl.mul dy lo)) (Pl.add fy (Pl.mul dy hi))) (max (Pl.add fz (Pl.mul dz lo)) (Pl.add fz (Pl.mul dz hi))) (Pl.add fx (Pl.mul dx t)) (Pl.add fy (Pl.mul dy t)) (Pl.add fz (Pl.mul dz t)) = true := by
  have hx := at1_between fx dx h1 h2
  have hy := at1_between fy dy h1 h2
  have hz := at1_between fz dz h1 h2
  unfold at1 at hx hy hz
  simp only [has6, le3, Bool.and_eq_true, decide_eq_true_eq]
  exact ⟨⟨hx.1, hy.1, hz.1⟩, hx.2, hy.2, hz.2⟩

theorem meets_of {a b c d e f x y z u v t p q r : Int} (h : has6 a b c d e f p q r = true) (k : has6 x y z u v t p q r = true) : meets6 a b c d e f x y z u v t = true := by
  simp only [has6, meets6, le3, Bool.and_eq_true, decide_eq_true_eq] at *
  omega

set_option maxHeartbeats 8000000 in
set_option maxRecDepth 100000 in
theorem walk (fx fy fz dx dy dz pt a0 a1 a2 a3 a4 a5 a6 a7 a8 a9 a10 a11 a12 a13 a14 a15 a16 a17 a18 a19 a20 a21 a22 a23 a b c : Int) (w : World)  : Calls Try.prog 6 #[.agg #[.int .i64 fx, .int .i64 fy, .int .i64 fz, .int .i64 dx, .int .i64 dy, .int .i64 dz, .int .i64 pt], .agg #[.int .i64 a0, .int .i64 a1, .int .i64 a2, .int .i64 a3, .int .i64 a4, .int .i64 a5, .int .i64 a6, .int .i64 a7, .int .i64 a8, .int .i64 a9, .int .i64 a10, .int .i64 a11, .int .i64 a12, .int .i64 a13, .int .i64 a14, .int .i64 a15, .int .i64 a16, .int .i64 a17, .int .i64 a18, .int .i64 a19, .int .i64 a20, .int .i64 a21, .int .i64 a22, .int .i64 a23], .int .i64 a, .int .i64 b, .int .i64 c] w fun e' w' => e' = .returned (.bool true) ∧ Below w.heap.size w w' := by
  obtain ⟨q0, q1, q2, q3, q4, q5, q6, q7, q8, q9, q10, q11, b0, b1, b2, b3, b4, b5, cs, n0, n1, n2, hc, hs, hM0, hA0, hT0⟩ := test_ex fx fy fz dx dy dz pt a0 a1 a2 a3 a4 a5 a6 a7 a8 a9 a10 a11 a12 a13 a14 a15 a16 a17 a18 a19 a20 a21 a22 a23
  have HM := Lib.hid hM0
  have HA := Lib.hid hA0
  have HT := Lib.hid hT0
  clear hc hs hM0 hA0 hT0
  obtain ⟨lo, hlo⟩ : ∃ x, min (min a b) c = x := ⟨_, rfl⟩
  obtain ⟨hi, hhi⟩ : ∃ x, max (max a b) c = x := ⟨_, rfl⟩
  have hm3 : ∀ W, (Builtin.min_ #[2, 2, 2] 2 #[.int .i64 a, .int .i64 b, .int .i64 c]).run Try.prog W = .ok (.int .i64 lo) W := fun W => by rw [min3, hlo]
  have hx3 : ∀ W, (Builtin.max_ #[2, 2, 2] 2 #[.int .i64 a, .int .i64 b, .int .i64 c]).run Try.prog W = .ok (.int .i64 hi) W := fun W => by rw [max3, hhi]
  have HLO := Lib.hid hlo
  have HHI := Lib.hid hhi
  clear hlo hhi
  have HH := Lib.hid (show ∀ t, lo ≤ t → t ≤ hi → has6 (min (Pl.add fx (Pl.mul dx lo)) (Pl.add fx (Pl.mul dx hi))) (min (Pl.add fy (Pl.mul dy lo)) (Pl.add fy (Pl.mul dy hi))) (min (Pl.add fz (Pl.mul dz lo)) (Pl.add fz (Pl.mul dz hi))) (max (Pl.add fx (Pl.mul dx lo)) (Pl.add fx (Pl.mul dx hi))) (max (Pl.add fy (Pl.mul dy lo)) (Pl.add fy (Pl.mul dy hi))) (max (Pl.add fz (Pl.mul dz lo)) (Pl.add fz (Pl.mul dz hi))) (Pl.add fx (Pl.mul dx t)) (Pl.add fy (Pl.mul dy t)) (Pl.add fz (Pl.mul dz t)) = true from fun t h1 h2 => in_span fx fy fz dx dy dz lo hi t h1 h2)
  go_enter Try.func6, Try.ntmps6
  go_upto_region 1 with fail
  have hR := Au.rows2 w (.cells #[.int .i64 fx, .int .i64 fy, .int .i64 fz, .int .i64 dx, .int .i64 dy, .int .i64 dz, .int .i64 pt] 97) (.cells #[.int .i64 a0, .int .i64 a1, .int .i64 a2, .int .i64 a3, .int .i64 a4, .int .i64 a5, .int .i64 a6, .int .i64 a7, .int .i64 a8, .int .i64 a9, .int .i64 a10, .int .i64 a11, .int .i64 a12, .int .i64 a13, .int .i64 a14, .int .i64 a15, .int .i64 a16, .int .i64 a17, .int .i64 a18, .int .i64 a19, .int .i64 a20, .int .i64 a21, .int .i64 a22, .int .i64 a23] 64)
  have HUx := below_n2 w (.cells #[.int .i64 fx, .int .i64 fy, .int .i64 fz, .int .i64 dx, .int .i64 dy, .int .i64 dz, .int .i64 pt] 97) (.cells #[.int .i64 a0, .int .i64 a1, .int .i64 a2, .int .i64 a3, .int .i64 a4, .int .i64 a5, .int .i64 a6, .int .i64 a7, .int .i64 a8, .int .i64 a9, .int .i64 a10, .int .i64 a11, .int .i64 a12, .int .i64 a13, .int .i64 a14, .int .i64 a15, .int .i64 a16, .int .i64 a17, .int .i64 a18, .int .i64 a19, .int .i64 a20, .int .i64 a21, .int .i64 a22, .int .i64 a23] 64)
  obtain ⟨y0, hy0⟩ : ∃ y0, (w.alloc (.cells #[.int .i64 fx, .int .i64 fy, .int .i64 fz, .int .i64 dx, .int .i64 dy, .int .i64 dz, .int .i64 pt] 97)).alloc (.cells #[.int .i64 a0, .int .i64 a1, .int .i64 a2, .int .i64 a3, .int .i64 a4, .int .i64 a5, .int .i64 a6, .int .i64 a7, .int .i64 a8, .int .i64 a9, .int .i64 a10, .int .i64 a11, .int .i64 a12, .int .i64 a13, .int .i64 a14, .int .i64 a15, .int .i64 a16, .int .i64 a17, .int .i64 a18, .int .i64 a19, .int .i64 a20, .int .i64 a21, .int .i64 a22, .int .i64 a23] 64) = y0 := ⟨_, rfl⟩
  rw [hy0] at hR HUx ⊢
  clear hy0
  have HU0 := Lib.hid HUx
  clear HUx
  obtain ⟨hr0_0, hr0_1⟩ := hR
  have HWL0 := Lib.hid hr0_0
  have HWZ0 := Lib.hid (show (Try.prog.info? 97).map (·.size) = some (#[.int .i64 fx, .int .i64 fy, .int .i64 fz, .int .i64 dx, .int .i64 dy, .int .i64 dz, .int .i64 pt] : Array Value).size by kernel_rfl)
  go_wp2_with (first | (with_reducible refine wpList_load_row rfl 97 (.tmp 5) rfl (w.heap.size) rfl 97 #[.int .i64 fx, .int .i64 fy, .int .i64 fz, .int .i64 dx, .int .i64 dy, .int .i64 dz, .int .i64 pt] (0, 0) _ HWL0.out Try.underlying97 rfl HWZ0.out ?_))
  clear HWL0 HWZ0
  refine (rto_any _ _ _ _ _ _ _ _ ).mono ?_
  rintro e y1 ⟨rfl, hb1⟩
  have hr1_0 := (hb1.block _ (lt_heap hr0_0)).trans hr0_0
  have hr1_1 := (hb1.block _ (lt_heap hr0_1)).trans hr0_1
  have HU1 := Lib.hid (HU0.out.trans (hb1.mono HU0.out.size))
  clear hr0_0 hr0_1 HU0
  go_upto_region 2 with fail
  have hb2 := below_n1 y1 (.cells #[.int .i64 fx, .int .i64 fy, .int .i64 fz, .int .i64 dx, .int .i64 dy, .int .i64 dz, .int .i64 pt] 101)
  have hN := heap_alloc_last y1 (.cells #[.int .i64 fx, .int .i64 fy, .int .i64 fz, .int .i64 dx, .int .i64 dy, .int .i64 dz, .int .i64 pt] 101)
  obtain ⟨y2, hy2⟩ : ∃ y, y1.alloc (.cells #[.int .i64 fx, .int .i64 fy, .int .i64 fz, .int .i64 dx, .int .i64 dy, .int .i64 dz, .int .i64 pt] 101) = y := ⟨_, rfl⟩
  have hs2 : y2.heap.size = y1.heap.size + 1 := by rw [← hy2]; simp
  rw [hy2] at hb2 hN ⊢
  clear hy2
  have hl2_0 := lt_heap hr1_0
  have hl2_1 := lt_heap hr1_1
  have hr2_0 := (hb2.block _ (lt_heap hr1_0)).trans hr1_0
  have hr2_1 := (hb2.block _ (lt_heap hr1_1)).trans hr1_1
  have HU2 := Lib.hid (HU1.out.trans (hb2.mono HU1.out.size))
  clear hr1_0 hr1_1 HU1
  have hr2_2 := hN
  clear hN
  go_upto_region 3 with fail
  have HWL0 := Lib.hid hr2_2
  have HWZ0 := Lib.hid (show (Try.prog.info? 101).map (·.size) = some (#[.int .i64 fx, .int .i64 fy, .int .i64 fz, .int .i64 dx, .int .i64 dy, .int .i64 dz, .int .i64 pt] : Array Value).size by kernel_rfl)
  go_wp2_with (first | (with_reducible refine wpList_load_row rfl 101 (.tmp 11) rfl (y1.heap.size) rfl 101 #[.int .i64 fx, .int .i64 fy, .int .i64 fz, .int .i64 dx, .int .i64 dy, .int .i64 dz, .int .i64 pt] (0, 0) _ HWL0.out Try.underlying101 rfl HWZ0.out ?_))
  clear HWL0 HWZ0
  refine (span_any _ _ _ _ _ _ _ _ _ _ ).mono ?_
  rintro e y3 ⟨rfl, hb3⟩
  have hr3_0 := (hb3.block _ (lt_heap hr2_0)).trans hr2_0
  have hr3_1 := (hb3.block _ (lt_heap hr2_1)).trans hr2_1
  have hr3_2 := (hb3.block _ (lt_heap hr2_2)).trans hr2_2
  have HU3 := Lib.hid (HU2.out.trans (hb3.mono HU2.out.size))
  clear hr2_0 hr2_1 hr2_2 HU2
  go_upto_region 4 with fail
  have hb4 := below_n1 y3 (.cells #[.int .i64 (min (Pl.add fx (Pl.mul dx lo)) (Pl.add fx (Pl.mul dx hi))), .int .i64 (min (Pl.add fy (Pl.mul dy lo)) (Pl.add fy (Pl.mul dy hi))), .int .i64 (min (Pl.add fz (Pl.mul dz lo)) (Pl.add fz (Pl.mul dz hi))), .int .i64 (max (Pl.add fx (Pl.mul dx lo)) (Pl.add fx (Pl.mul dx hi))), .int .i64 (max (Pl.add fy (Pl.mul dy lo)) (Pl.add fy (Pl.mul dy hi))), .int .i64 (max (Pl.add fz (Pl.mul dz lo)) (Pl.add fz (Pl.mul dz hi)))] 73)
  have hN := heap_alloc_last y3 (.cells #[.int .i64 (min (Pl.add fx (Pl.mul dx lo)) (Pl.add fx (Pl.mul dx hi))), .int .i64 (min (Pl.add fy (Pl.mul dy lo)) (Pl.add fy (Pl.mul dy hi))), .int .i64 (min (Pl.add fz (Pl.mul dz lo)) (Pl.add fz (Pl.mul dz hi))), .int .i64 (max (Pl.add fx (Pl.mul dx lo)) (Pl.add fx (Pl.mul dx hi))), .int .i64 (max (Pl.add fy (Pl.mul dy lo)) (Pl.add fy (Pl.mul dy hi))), .int .i64 (max (Pl.add fz (Pl.mul dz lo)) (Pl.add fz (Pl.mul dz hi)))] 73)
  obtain ⟨y4, hy4⟩ : ∃ y, y3.alloc (.cells #[.int .i64 (min (Pl.add fx (Pl.mul dx lo)) (Pl.add fx (Pl.mul dx hi))), .int .i64 (min (Pl.add fy (Pl.mul dy lo)) (Pl.add fy (Pl.mul dy hi))), .int .i64 (min (Pl.add fz (Pl.mul dz lo)) (Pl.add fz (Pl.mul dz hi))), .int .i64 (max (Pl.add fx (Pl.mul dx lo)) (Pl.add fx (Pl.mul dx hi))), .int .i64 (max (Pl.add fy (Pl.mul dy lo)) (Pl.add fy (Pl.mul dy hi))), .int .i64 (max (Pl.add fz (Pl.mul dz lo)) (Pl.add fz (Pl.mul dz hi)))] 73) = y := ⟨_, rfl⟩
  have hs4 : y4.heap.size = y3.heap.size + 1 := by rw [← hy4]; simp
  rw [hy4] at hb4 hN ⊢
  clear hy4
  have hl4_0 := lt_heap hr3_0
  have hl4_1 := lt_heap hr3_1
  have hl4_2 := lt_heap hr3_2
  have hr4_0 := (hb4.block _ (lt_heap hr3_0)).trans hr3_0
  have hr4_1 := (hb4.block _ (lt_heap hr3_1)).trans hr3_1
  have hr4_2 := (hb4.block _ (lt_heap hr3_2)).trans hr3_2
  have HU4 := Lib.hid (HU3.out.trans (hb4.mono HU3.out.size))
  clear hr3_0 hr3_1 hr3_2 HU3
  have hr4_3 := hN
  clear hN
  refine wp_region_held_drew (S := fun y => y.heap[w.heap.size]? = some (.cells #[.int .i64 fx, .int .i64 fy, .int .i64 fz, .int .i64 dx, .int .i64 dy, .int .i64 dz, .int .i64 pt] 97 (0, 0)) ∧ y.heap[w.heap.size + 1]? = some (.cells #[.int .i64 a0, .int .i64 a1, .int .i64 a2, .int .i64 a3, .int .i64 a4, .int .i64 a5, .int .i64 a6, .int .i64 a7, .int .i64 a8, .int .i64 a9, .int .i64 a10, .int .i64 a11, .int .i64 a12, .int .i64 a13, .int .i64 a14, .int .i64 a15, .int .i64 a16, .int .i64 a17, .int .i64 a18, .int .i64 a19, .int .i64 a20, .int .i64 a21, .int .i64 a22, .int .i64 a23] 64 (0, 0)) ∧ y.heap[y1.heap.size]? = some (.cells #[.int .i64 fx, .int .i64 fy, .int .i64 fz, .int .i64 dx, .int .i64 dy, .int .i64 dz, .int .i64 pt] 101 (0, 0)) ∧ y.heap[y3.heap.size]? = some (.cells #[.int .i64 (min (Pl.add fx (Pl.mul dx lo)) (Pl.add fx (Pl.mul dx hi))), .int .i64 (min (Pl.add fy (Pl.mul dy lo)) (Pl.add fy (Pl.mul dy hi))), .int .i64 (min (Pl.add fz (Pl.mul dz lo)) (Pl.add fz (Pl.mul dz hi))), .int .i64 (max (Pl.add fx (Pl.mul dx lo)) (Pl.add fx (Pl.mul dx hi))), .int .i64 (max (Pl.add fy (Pl.mul dy lo)) (Pl.add fy (Pl.mul dy hi))), .int .i64 (max (Pl.add fz (Pl.mul dz lo)) (Pl.add fz (Pl.mul dz hi)))] 73 (0, 0))) (by kernel_rfl) (⟨hr4_0, hr4_1, hr4_2, hr4_3⟩) (fun hS0 => ?_)
  obtain ⟨y5, hy5⟩ : ∃ y, y4.drew = y := ⟨_, rfl⟩
  have HU5 := Lib.hid (show Below w.heap.size w y5 by rw [← hy5]; exact HU4.out.drew)
  have hr5_0 : y5.heap[w.heap.size]? = some (.cells #[.int .i64 fx, .int .i64 fy, .int .i64 fz, .int .i64 dx, .int .i64 dy, .int .i64 dz, .int .i64 pt] 97 (0, 0)) := by rw [← hy5]; exact hr4_0
  have hr5_1 : y5.heap[w.heap.size + 1]? = some (.cells #[.int .i64 a0, .int .i64 a1, .int .i64 a2, .int .i64 a3, .int .i64 a4, .int .i64 a5, .int .i64 a6, .int .i64 a7, .int .i64 a8, .int .i64 a9, .int .i64 a10, .int .i64 a11, .int .i64 a12, .int .i64 a13, .int .i64 a14, .int .i64 a15, .int .i64 a16, .int .i64 a17, .int .i64 a18, .int .i64 a19, .int .i64 a20, .int .i64 a21, .int .i64 a22, .int .i64 a23] 64 (0, 0)) := by rw [← hy5]; exact hr4_1
  have hr5_2 : y5.heap[y1.heap.size]? = some (.cells #[.int .i64 fx, .int .i64 fy, .int .i64 fz, .int .i64 dx, .int .i64 dy, .int .i64 dz, .int .i64 pt] 101 (0, 0)) := by rw [← hy5]; exact hr4_2
  have hr5_3 : y5.heap[y3.heap.size]? = some (.cells #[.int .i64 (min (Pl.add fx (Pl.mul dx lo)) (Pl.add fx (Pl.mul dx hi))), .int .i64 (min (Pl.add fy (Pl.mul dy lo)) (Pl.add fy (Pl.mul dy hi))), .int .i64 (min (Pl.add fz (Pl.mul dz lo)) (Pl.add fz (Pl.mul dz hi))), .int .i64 (max (Pl.add fx (Pl.mul dx lo)) (Pl.add fx (Pl.mul dx hi))), .int .i64 (max (Pl.add fy (Pl.mul dy lo)) (Pl.add fy (Pl.mul dy hi))), .int .i64 (max (Pl.add fz (Pl.mul dz lo)) (Pl.add fz (Pl.mul dz hi)))] 73 (0, 0)) := by rw [← hy5]; exact hr4_3
  rw [hy5] at hS0 ⊢
  clear hy5
  refine wpAnyH_take (i := 0) (v := .agg #[.int .i64 (min (Pl.add fx (Pl.mul dx lo)) (Pl.add fx (Pl.mul dx hi))), .int .i64 (min (Pl.add fy (Pl.mul dy lo)) (Pl.add fy (Pl.mul dy hi))), .int .i64 (min (Pl.add fz (Pl.mul dz lo)) (Pl.add fz (Pl.mul dz hi))), .int .i64 (max (Pl.add fx (Pl.mul dx lo)) (Pl.add fx (Pl.mul dx hi))), .int .i64 (max (Pl.add fy (Pl.mul dy lo)) (Pl.add fy (Pl.mul dy hi))), .int .i64 (max (Pl.add fz (Pl.mul dz lo)) (Pl.add fz (Pl.mul dz hi)))]) rfl (by kernel_rfl) (by kernel_rfl) (by kernel_rfl) (fun _ _ _ h => h) (Lr.yieldsIf_load_row (by kernel_rfl) 73 (.tmp 15) rfl (y3.heap.size) rfl 73 #[.int .i64 (min (Pl.add fx (Pl.mul dx lo)) (Pl.add fx (Pl.mul dx hi))), .int .i64 (min (Pl.add fy (Pl.mul dy lo)) (Pl.add fy (Pl.mul dy hi))), .int .i64 (min (Pl.add fz (Pl.mul dz lo)) (Pl.add fz (Pl.mul dz hi))), .int .i64 (max (Pl.add fx (Pl.mul dx lo)) (Pl.add fx (Pl.mul dx hi))), .int .i64 (max (Pl.add fy (Pl.mul dy lo)) (Pl.add fy (Pl.mul dy hi))), .int .i64 (max (Pl.add fz (Pl.mul dz lo)) (Pl.add fz (Pl.mul dz hi)))] _ (fun yy hh => hh.2.2.2) Try.underlying73 rfl (by kernel_rfl)) hS0 ?_
  go_simp
  refine wpAnyH_take (i := 1) (v := .agg #[.int .i64 fx, .int .i64 fy, .int .i64 fz, .int .i64 dx, .int .i64 dy, .int .i64 dz, .int .i64 pt]) rfl (by kernel_rfl) (by kernel_rfl) (by kernel_rfl) (fun _ _ _ h => h) (Lr.yieldsIf_load_row (by kernel_rfl) 101 (.tmp 11) rfl (y1.heap.size) rfl 101 #[.int .i64 fx, .int .i64 fy, .int .i64 fz, .int .i64 dx, .int .i64 dy, .int .i64 dz, .int .i64 pt] _ (fun yy hh => hh.2.2.1) Try.underlying101 rfl (by kernel_rfl)) hS0 ?_
  go_simp
  refine wpAnyH_take (i := 2) (v := ?_) rfl (by kernel_rfl) (by kernel_rfl) (by kernel_rfl) (fun _ _ _ h => h) (Or.inl ⟨by kernel_rfl, by (intro wz hSz; go_simp; try with_reducible rfl)⟩) hS0 ?_
  go_simp
  refine wpAnyH_ready (rs := [3]) (by kernel_rfl) (by simp) ?_
  refine AllReadyH.cons rfl (fun K hK => ?_) AllReadyH.nil
  go_simp
  go_wp2_with (go_at_call 31; refine (ray_at _ _ _ _ _ _ _ _ _).mono ?_; rintro e y6 ⟨rfl, hb6⟩)
  have hr6_0 := (hb6.block _ (lt_heap hr5_0)).trans hr5_0
  have hr6_1 := (hb6.block _ (lt_heap hr5_1)).trans hr5_1
  have hr6_2 := (hb6.block _ (lt_heap hr5_2)).trans hr5_2
  have hr6_3 := (hb6.block _ (lt_heap hr5_3)).trans hr5_3
  have HU6 := Lib.hid (HU5.out.trans (hb6.mono HU5.out.size))
  refine hK.out _ _ (⟨(hb6.block _ (lt_heap hS0.1)).trans hS0.1, (hb6.block _ (lt_heap hS0.2.1)).trans hS0.2.1, (hb6.block _ (lt_heap hS0.2.2.1)).trans hS0.2.2.1, (hb6.block _ (lt_heap hS0.2.2.2)).trans hS0.2.2.2⟩) (fun hS6c => ?_)
  clear hK K
  refine wpAnyH_ready (rs := [4]) (by kernel_rfl) (by simp) ?_
  refine AllReadyH.cons rfl (fun K hK => ?_) AllReadyH.nil
  go_simp
  go_wp2_with (go_at_call 40; refine (bhas_any _ _ _ _ _ _ _ _ _ _ ).mono ?_; rintro e y7 ⟨rfl, hb7⟩)
  have hr7_0 := (hb7.block _ (lt_heap hr6_0)).trans hr6_0
  have hr7_1 := (hb7.block _ (lt_heap hr6_1)).trans hr6_1
  have hr7_2 := (hb7.block _ (lt_heap hr6_2)).trans hr6_2
  have hr7_3 := (hb7.block _ (lt_heap hr6_3)).trans hr6_3
  have HU7 := Lib.hid (HU6.out.trans (hb7.mono HU6.out.size))
  refine hK.out _ _ (⟨(hb7.block _ (lt_heap hS6c.1)).trans hS6c.1, (hb7.block _ (lt_heap hS6c.2.1)).trans hS6c.2.1, (hb7.block _ (lt_heap hS6c.2.2.1)).trans hS6c.2.2.1, (hb7.block _ (lt_heap hS6c.2.2.2)).trans hS6c.2.2.2⟩) (fun hS7c => ?_)
  clear hK K
  refine wpAnyH_take (i := 5) (v := ?_) rfl (by kernel_rfl) (by kernel_rfl) (by kernel_rfl) (fun _ _ _ h => h) (Or.inl ⟨by kernel_rfl, by (intro wz hSz; go_simp; try with_reducible rfl)⟩) hS7c ?_
  go_simp
  refine wpAnyH_done (by kernel_rfl) ?_ _
  have hlo := HLO.out
  have hhi := HHI.out
  rw [HH.out]
  rotate_left
  · omega
  · omega
  clear hlo hhi
  go_upto_region 6 with fail
  go_cut [16, 17] (fun s16 s17 wx => ∃ gh : Nat, s16 = .pointer (some ⟨gh, 0, none⟩) ∧ ((s17 = .bool false ∧ True) ∨ (∃ t, first cs (okB b0 b1 b2 b3 b4 b5 fx fy fz dx dy dz) lo hi = some t ∧ s17 = .bool true ∧ wx.heap[gh]? = some (.cells #[.int .i64 t, .int .i64 0, .int .i64 (at1 fx dx t), .int .i64 (at1 fy dy t), .int .i64 (at1 fz dz t), .int .i64 (n0 t), .int .i64 (n1 t), .int .i64 (n2 t)] 104 (0, 0)))) ∧ wx.heap[w.heap.size]? = some (.cells #[.int .i64 fx, .int .i64 fy, .int .i64 fz, .int .i64 dx, .int .i64 dy, .int .i64 dz, .int .i64 pt] 97 (0, 0)) ∧ wx.heap[w.heap.size + 1]? = some (.cells #[.int .i64 a0, .int .i64 a1, .int .i64 a2, .int .i64 a3, .int .i64 a4, .int .i64 a5, .int .i64 a6, .int .i64 a7, .int .i64 a8, .int .i64 a9, .int .i64 a10, .int .i64 a11, .int .i64 a12, .int .i64 a13, .int .i64 a14, .int .i64 a15, .int .i64 a16, .int .i64 a17, .int .i64 a18, .int .i64 a19, .int .i64 a20, .int .i64 a21, .int .i64 a22, .int .i64 a23] 64 (0, 0)) ∧ wx.heap[y1.heap.size]? = some (.cells #[.int .i64 fx, .int .i64 fy, .int .i64 fz, .int .i64 dx, .int .i64 dy, .int .i64 dz, .int .i64 pt] 101 (0, 0)) ∧ wx.heap[y3.heap.size]? = some (.cells #[.int .i64 (min (Pl.add fx (Pl.mul dx lo)) (Pl.add fx (Pl.mul dx hi))), .int .i64 (min (Pl.add fy (Pl.mul dy lo)) (Pl.add fy (Pl.mul dy hi))), .int .i64 (min (Pl.add fz (Pl.mul dz lo)) (Pl.add fz (Pl.mul dz hi))), .int .i64 (max (Pl.add fx (Pl.mul dx lo)) (Pl.add fx (Pl.mul dx hi))), .int .i64 (max (Pl.add fy (Pl.mul dy lo)) (Pl.add fy (Pl.mul dy hi))), .int .i64 (max (Pl.add fz (Pl.mul dz lo)) (Pl.add fz (Pl.mul dz hi)))] 73 (0, 0)) ∧ Hid (Below w.heap.size w wx))
  case first =>
    cases hf : first cs (okB b0 b1 b2 b3 b4 b5 fx fy fz dx dy dz) lo hi with
    | none =>
      refine wp_region_held_drew (S := fun y => y.heap[w.heap.size]? = some (.cells #[.int .i64 fx, .int .i64 fy, .int .i64 fz, .int .i64 dx, .int .i64 dy, .int .i64 dz, .int .i64 pt] 97 (0, 0)) ∧ y.heap[w.heap.size + 1]? = some (.cells #[.int .i64 a0, .int .i64 a1, .int .i64 a2, .int .i64 a3, .int .i64 a4, .int .i64 a5, .int .i64 a6, .int .i64 a7, .int .i64 a8, .int .i64 a9, .int .i64 a10, .int .i64 a11, .int .i64 a12, .int .i64 a13, .int .i64 a14, .int .i64 a15, .int .i64 a16, .int .i64 a17, .int .i64 a18, .int .i64 a19, .int .i64 a20, .int .i64 a21, .int .i64 a22, .int .i64 a23] 64 (0, 0)) ∧ y.heap[y1.heap.size]? = some (.cells #[.int .i64 fx, .int .i64 fy, .int .i64 fz, .int .i64 dx, .int .i64 dy, .int .i64 dz, .int .i64 pt] 101 (0, 0)) ∧ y.heap[y3.heap.size]? = some (.cells #[.int .i64 (min (Pl.add fx (Pl.mul dx lo)) (Pl.add fx (Pl.mul dx hi))), .int .i64 (min (Pl.add fy (Pl.mul dy lo)) (Pl.add fy (Pl.mul dy hi))), .int .i64 (min (Pl.add fz (Pl.mul dz lo)) (Pl.add fz (Pl.mul dz hi))), .int .i64 (max (Pl.add fx (Pl.mul dx lo)) (Pl.add fx (Pl.mul dx hi))), .int .i64 (max (Pl.add fy (Pl.mul dy lo)) (Pl.add fy (Pl.mul dy hi))), .int .i64 (max (Pl.add fz (Pl.mul dz lo)) (Pl.add fz (Pl.mul dz hi)))] 73 (0, 0))) (by kernel_rfl) (⟨hr7_0, hr7_1, hr7_2, hr7_3⟩) (fun hS0 => ?_)
      obtain ⟨y8, hy8⟩ : ∃ y, y7.drew = y := ⟨_, rfl⟩
      have HU8 := Lib.hid (show Below w.heap.size w y8 by rw [← hy8]; exact HU7.out.drew)
      have hr8_0 : y8.heap[w.heap.size]? = some (.cells #[.int .i64 fx, .int .i64 fy, .int .i64 fz, .int .i64 dx, .int .i64 dy, .int .i64 dz, .int .i64 pt] 97 (0, 0)) := by rw [← hy8]; exact hr7_0
      have hr8_1 : y8.heap[w.heap.size + 1]? = some (.cells #[.int .i64 a0, .int .i64 a1, .int .i64 a2, .int .i64 a3, .int .i64 a4, .int .i64 a5, .int .i64 a6, .int .i64 a7, .int .i64 a8, .int .i64 a9, .int .i64 a10, .int .i64 a11, .int .i64 a12, .int .i64 a13, .int .i64 a14, .int .i64 a15, .int .i64 a16, .int .i64 a17, .int .i64 a18, .int .i64 a19, .int .i64 a20, .int .i64 a21, .int .i64 a22, .int .i64 a23] 64 (0, 0)) := by rw [← hy8]; exact hr7_1
      have hr8_2 : y8.heap[y1.heap.size]? = some (.cells #[.int .i64 fx, .int .i64 fy, .int .i64 fz, .int .i64 dx, .int .i64 dy, .int .i64 dz, .int .i64 pt] 101 (0, 0)) := by rw [← hy8]; exact hr7_2
      have hr8_3 : y8.heap[y3.heap.size]? = some (.cells #[.int .i64 (min (Pl.add fx (Pl.mul dx lo)) (Pl.add fx (Pl.mul dx hi))), .int .i64 (min (Pl.add fy (Pl.mul dy lo)) (Pl.add fy (Pl.mul dy hi))), .int .i64 (min (Pl.add fz (Pl.mul dz lo)) (Pl.add fz (Pl.mul dz hi))), .int .i64 (max (Pl.add fx (Pl.mul dx lo)) (Pl.add fx (Pl.mul dx hi))), .int .i64 (max (Pl.add fy (Pl.mul dy lo)) (Pl.add fy (Pl.mul dy hi))), .int .i64 (max (Pl.add fz (Pl.mul dz lo)) (Pl.add fz (Pl.mul dz hi)))] 73 (0, 0)) := by rw [← hy8]; exact hr7_3
      rw [hy8] at hS0 ⊢
      clear hy8
      refine wpAnyH_take (i := 0) (v := .agg #[.int .i64 fx, .int .i64 fy, .int .i64 fz, .int .i64 dx, .int .i64 dy, .int .i64 dz, .int .i64 pt]) rfl (by kernel_rfl) (by kernel_rfl) (by kernel_rfl) (fun _ _ _ h => h) (Lr.yieldsIf_load_row (by kernel_rfl) 101 (.tmp 11) rfl (y1.heap.size) rfl 101 #[.int .i64 fx, .int .i64 fy, .int .i64 fz, .int .i64 dx, .int .i64 dy, .int .i64 dz, .int .i64 pt] _ (fun yy hh => hh.2.2.1) Try.underlying101 rfl (by kernel_rfl)) hS0 ?_
      go_simp
      refine wpAnyH_take (i := 1) (v := .agg #[.int .i64 a0, .int .i64 a1, .int .i64 a2, .int .i64 a3, .int .i64 a4, .int .i64 a5, .int .i64 a6, .int .i64 a7, .int .i64 a8, .int .i64 a9, .int .i64 a10, .int .i64 a11, .int .i64 a12, .int .i64 a13, .int .i64 a14, .int .i64 a15, .int .i64 a16, .int .i64 a17, .int .i64 a18, .int .i64 a19, .int .i64 a20, .int .i64 a21, .int .i64 a22, .int .i64 a23]) rfl (by kernel_rfl) (by kernel_rfl) (by kernel_rfl) (fun _ _ _ h => h) (Lr.yieldsIf_load_row (by kernel_rfl) 64 (.tmp 6) rfl (w.heap.size + 1) rfl 64 #[.int .i64 a0, .int .i64 a1, .int .i64 a2, .int .i64 a3, .int .i64 a4, .int .i64 a5, .int .i64 a6, .int .i64 a7, .int .i64 a8, .int .i64 a9, .int .i64 a10, .int .i64 a11, .int .i64 a12, .int .i64 a13, .int .i64 a14, .int .i64 a15, .int .i64 a16, .int .i64 a17, .int .i64 a18, .int .i64 a19, .int .i64 a20, .int .i64 a21, .int .i64 a22, .int .i64 a23] _ (fun yy hh => hh.2.1) Try.underlying64 rfl (by kernel_rfl)) hS0 ?_
      go_simp
      refine wpAnyH_take (i := 3) (v := ?_) rfl (by kernel_rfl) (by kernel_rfl) (by kernel_rfl) (fun _ _ _ h => h) (Or.inl ⟨by kernel_rfl, by (intro wz hSz; go_simp; try with_reducible rfl)⟩) hS0 ?_
      go_simp
      refine wpAnyH_take (i := 4) (v := ?_) rfl (by kernel_rfl) (by kernel_rfl) (by kernel_rfl) (fun _ _ _ h => h) (Or.inl ⟨by kernel_rfl, by (intro wz hSz; go_simp; try with_reducible rfl)⟩) hS0 ?_
      go_simp
      refine wpAnyH_ready (rs := [2, 9]) (by kernel_rfl) (by simp) ?_
      refine AllReadyH.cons rfl (fun K hK => ?_) (AllReadyH.cons rfl (fun K hK => ?_) AllReadyH.nil)
      · skip
        go_simp
        go_wp2_with (go_at_call 25; refine (lmoving_any _ _ _ _ _ _ _ _ _ _ _ _ _ _ _ _ _ _ _ _ _ _ _ _ _ ).mono ?_; rintro e y9 ⟨rfl, hb9⟩)
        have hr9_0 := (hb9.block _ (lt_heap hr8_0)).trans hr8_0
        have hr9_1 := (hb9.block _ (lt_heap hr8_1)).trans hr8_1
        have hr9_2 := (hb9.block _ (lt_heap hr8_2)).trans hr8_2
        have hr9_3 := (hb9.block _ (lt_heap hr8_3)).trans hr8_3
        have HU9 := Lib.hid (HU8.out.trans (hb9.mono HU8.out.size))
        refine hK.out _ _ (⟨(hb9.block _ (lt_heap hS0.1)).trans hS0.1, (hb9.block _ (lt_heap hS0.2.1)).trans hS0.2.1, (hb9.block _ (lt_heap hS0.2.2.1)).trans hS0.2.2.1, (hb9.block _ (lt_heap hS0.2.2.2)).trans hS0.2.2.2⟩) (fun hS9c => ?_)
        clear hK K
        refine wpAnyH_ready (rs := [5, 9]) (by kernel_rfl) (by simp) ?_
        refine AllReadyH.cons rfl (fun K hK => ?_) (AllReadyH.cons rfl (fun K hK => ?_) AllReadyH.nil)
        · skip
          go_simp
          go_wp2_with (go_at_call 41; refine (HT.out _ _ _).mono ?_; rintro e y10 ⟨rfl, hb10⟩; rw [hf, testR_none])
          have hr10_0 := (hb10.block _ (lt_heap hr9_0)).trans hr9_0
          have hr10_1 := (hb10.block _ (lt_heap hr9_1)).trans hr9_1
          have hr10_2 := (hb10.block _ (lt_heap hr9_2)).trans hr9_2
          have hr10_3 := (hb10.block _ (lt_heap hr9_3)).trans hr9_3
          have HU10 := Lib.hid (HU9.out.trans (hb10.mono HU9.out.size))
          refine hK.out _ _ (⟨(hb10.block _ (lt_heap hS9c.1)).trans hS9c.1, (hb10.block _ (lt_heap hS9c.2.1)).trans hS9c.2.1, (hb10.block _ (lt_heap hS9c.2.2.1)).trans hS9c.2.2.1, (hb10.block _ (lt_heap hS9c.2.2.2)).trans hS9c.2.2.2⟩) (fun hS10c => ?_)
          clear hK K
          refine wpAnyH_take (i := 6) (v := ?_) rfl (by kernel_rfl) (by kernel_rfl) (by kernel_rfl) (fun _ _ _ h => h) (Or.inl ⟨by kernel_rfl, by (intro wz hSz; go_simp; try with_reducible rfl)⟩) hS10c ?_
          go_simp
          refine wpAnyH_take (i := 7) (v := ?_) rfl (by kernel_rfl) (by kernel_rfl) (by kernel_rfl) (fun _ _ _ h => h) (Or.inl ⟨by kernel_rfl, by (intro wz hSz; go_simp; try with_reducible rfl)⟩) hS10c ?_
          go_simp
          refine wpAnyH_take (i := 8) (v := ?_) rfl (by kernel_rfl) (by kernel_rfl) (by kernel_rfl) (fun _ _ _ h => h) (Or.inl ⟨by kernel_rfl, by (intro wz hSz; go_simp; try with_reducible rfl)⟩) hS10c ?_
          go_simp
          refine wpAnyH_ready (rs := [9]) (by kernel_rfl) (by simp) ?_
          refine AllReadyH.cons rfl (fun K hK => ?_) AllReadyH.nil
          go_simp
          have hb11 := below_n1 y10 (.cells #[.int .i64 0, .int .i64 0, .int .i64 0, .int .i64 0, .int .i64 0, .int .i64 0, .int .i64 0, .int .i64 0] 104)
          have hN := heap_alloc_last y10 (.cells #[.int .i64 0, .int .i64 0, .int .i64 0, .int .i64 0, .int .i64 0, .int .i64 0, .int .i64 0, .int .i64 0] 104)
          obtain ⟨y11, hy11⟩ : ∃ y, y10.alloc (.cells #[.int .i64 0, .int .i64 0, .int .i64 0, .int .i64 0, .int .i64 0, .int .i64 0, .int .i64 0, .int .i64 0] 104) = y := ⟨_, rfl⟩
          rw [hy11] at hb11 hN ⊢
          clear hy11
          have hl11_0 := lt_heap hr10_0
          have hr11_0 := (hb11.block _ (lt_heap hr10_0)).trans hr10_0
          have hl11_1 := lt_heap hr10_1
          have hr11_1 := (hb11.block _ (lt_heap hr10_1)).trans hr10_1
          have hl11_2 := lt_heap hr10_2
          have hr11_2 := (hb11.block _ (lt_heap hr10_2)).trans hr10_2
          have hl11_3 := lt_heap hr10_3
          have hr11_3 := (hb11.block _ (lt_heap hr10_3)).trans hr10_3
          have hr11_4 := hN
          clear hN
          have HU11 := Lib.hid (HU10.out.trans (hb11.mono HU10.out.size))
          refine hK.out _ _ (⟨(hb11.block _ (lt_heap hS10c.1)).trans hS10c.1, (hb11.block _ (lt_heap hS10c.2.1)).trans hS10c.2.1, (hb11.block _ (lt_heap hS10c.2.2.1)).trans hS10c.2.2.1, (hb11.block _ (lt_heap hS10c.2.2.2)).trans hS10c.2.2.2⟩) (fun hS11a => ?_)
          clear hK K
          refine wpAnyH_ready (rs := [10]) (by kernel_rfl) (by simp) ?_
          refine AllReadyH.cons rfl (fun K hK => ?_) AllReadyH.nil
          refine step_store_row rfl 104 (.tmp 16) (.tmp 55) rfl #[.int .i64 0, .int .i64 0, .int .i64 0, .int .i64 0, .int .i64 0, .int .i64 0, .int .i64 0, .int .i64 0] #[.int .i64 0, .int .i64 0, .int .i64 0, .int .i64 0, .int .i64 0, .int .i64 0, .int .i64 0, .int .i64 0] _ 104 hr11_4 rfl (by first | rfl | (go_simp; done) | (go_simp; rfl)) (by kernel_rfl) rfl (by simp [Value.oneCell']) ?_
          have hN := setRow_heap _ (y10.heap.size) _ #[.int .i64 0, .int .i64 0, .int .i64 0, .int .i64 0, .int .i64 0, .int .i64 0, .int .i64 0, .int .i64 0] _ _ hr11_4
          have hsz := HU11.out.size
          have HUx := below_setRow (g := y10.heap.size) HU11.out (by first | omega | (simp at *; omega)) #[.int .i64 0, .int .i64 0, .int .i64 0, .int .i64 0, .int .i64 0, .int .i64 0, .int .i64 0, .int .i64 0]
          obtain ⟨y12, hy12⟩ : ∃ y, y11.setRow (y10.heap.size) #[.int .i64 0, .int .i64 0, .int .i64 0, .int .i64 0, .int .i64 0, .int .i64 0, .int .i64 0, .int .i64 0] = y := ⟨_, rfl⟩
          have hO : ∀ k, k ≠ y10.heap.size → y12.heap[k]? = y11.heap[k]? := fun k hk => by rw [← hy12]; exact setRow_other _ _ _ _ hk
          rw [hy12] at hN HUx ⊢
          clear hy12
          have HU12 := Lib.hid HUx
          clear HUx
          have hr12_0 := (hO _ (by omega)).trans hr11_0
          have hr12_1 := (hO _ (by omega)).trans hr11_1
          have hr12_2 := (hO _ (by omega)).trans hr11_2
          have hr12_3 := (hO _ (by omega)).trans hr11_3
          have hr12_4 := hN
          clear hN
          refine hK.out _ _ (⟨(hO _ (by omega)).trans hS11a.1, (hO _ (by omega)).trans hS11a.2.1, (hO _ (by omega)).trans hS11a.2.2.1, (hO _ (by omega)).trans hS11a.2.2.2⟩) (fun hS12s => ?_)
          clear hK K
          refine wpAnyH_take (i := 11) (v := ?_) rfl (by kernel_rfl) (by kernel_rfl) (by kernel_rfl) (fun _ _ _ h => h) (Or.inl ⟨by kernel_rfl, by (intro wz hSz; go_simp; try with_reducible rfl)⟩) hS12s ?_
          go_simp
          refine wpAnyH_done (by kernel_rfl) ?_ _
          go_wp2_with fail
          go_meet
          exact ⟨_, rfl, .inl ⟨rfl, trivial⟩, hr12_0, hr12_1, hr12_2, hr12_3, HU12⟩
        · skip
          go_simp
          have hb10 := below_n1 y9 (.cells #[.int .i64 0, .int .i64 0, .int .i64 0, .int .i64 0, .int .i64 0, .int .i64 0, .int .i64 0, .int .i64 0] 104)
          have hN := heap_alloc_last y9 (.cells #[.int .i64 0, .int .i64 0, .int .i64 0, .int .i64 0, .int .i64 0, .int .i64 0, .int .i64 0, .int .i64 0] 104)
          obtain ⟨y10, hy10⟩ : ∃ y, y9.alloc (.cells #[.int .i64 0, .int .i64 0, .int .i64 0, .int .i64 0, .int .i64 0, .int .i64 0, .int .i64 0, .int .i64 0] 104) = y := ⟨_, rfl⟩
          rw [hy10] at hb10 hN ⊢
          clear hy10
          have hl10_0 := lt_heap hr9_0
          have hr10_0 := (hb10.block _ (lt_heap hr9_0)).trans hr9_0
          have hl10_1 := lt_heap hr9_1
          have hr10_1 := (hb10.block _ (lt_heap hr9_1)).trans hr9_1
          have hl10_2 := lt_heap hr9_2
          have hr10_2 := (hb10.block _ (lt_heap hr9_2)).trans hr9_2
          have hl10_3 := lt_heap hr9_3
          have hr10_3 := (hb10.block _ (lt_heap hr9_3)).trans hr9_3
          have hr10_4 := hN
          clear hN
          have HU10 := Lib.hid (HU9.out.trans (hb10.mono HU9.out.size))
          refine hK.out _ _ (⟨(hb10.block _ (lt_heap hS9c.1)).trans hS9c.1, (hb10.block _ (lt_heap hS9c.2.1)).trans hS9c.2.1, (hb10.block _ (lt_heap hS9c.2.2.1)).trans hS9c.2.2.1, (hb10.block _ (lt_heap hS9c.2.2.2)).trans hS9c.2.2.2⟩) (fun hS10a => ?_)
          clear hK K
          refine wpAnyH_ready (rs := [5]) (by kernel_rfl) (by simp) ?_
          refine AllReadyH.cons rfl (fun K hK => ?_) AllReadyH.nil
          go_simp
          go_wp2_with (go_at_call 41; refine (HT.out _ _ _).mono ?_; rintro e y11 ⟨rfl, hb11⟩; rw [hf, testR_none])
          have hr11_0 := (hb11.block _ (lt_heap hr10_0)).trans hr10_0
          have hr11_1 := (hb11.block _ (lt_heap hr10_1)).trans hr10_1
          have hr11_2 := (hb11.block _ (lt_heap hr10_2)).trans hr10_2
          have hr11_3 := (hb11.block _ (lt_heap hr10_3)).trans hr10_3
          have hr11_4 := (hb11.block _ (lt_heap hr10_4)).trans hr10_4
          have HU11 := Lib.hid (HU10.out.trans (hb11.mono HU10.out.size))
          refine hK.out _ _ (⟨(hb11.block _ (lt_heap hS10a.1)).trans hS10a.1, (hb11.block _ (lt_heap hS10a.2.1)).trans hS10a.2.1, (hb11.block _ (lt_heap hS10a.2.2.1)).trans hS10a.2.2.1, (hb11.block _ (lt_heap hS10a.2.2.2)).trans hS10a.2.2.2⟩) (fun hS11c => ?_)
          clear hK K
          refine wpAnyH_take (i := 6) (v := ?_) rfl (by kernel_rfl) (by kernel_rfl) (by kernel_rfl) (fun _ _ _ h => h) (Or.inl ⟨by kernel_rfl, by (intro wz hSz; go_simp; try with_reducible rfl)⟩) hS11c ?_
          go_simp
          refine wpAnyH_take (i := 7) (v := ?_) rfl (by kernel_rfl) (by kernel_rfl) (by kernel_rfl) (fun _ _ _ h => h) (Or.inl ⟨by kernel_rfl, by (intro wz hSz; go_simp; try with_reducible rfl)⟩) hS11c ?_
          go_simp
          refine wpAnyH_take (i := 8) (v := ?_) rfl (by kernel_rfl) (by kernel_rfl) (by kernel_rfl) (fun _ _ _ h => h) (Or.inl ⟨by kernel_rfl, by (intro wz hSz; go_simp; try with_reducible rfl)⟩) hS11c ?_
          go_simp
          refine wpAnyH_ready (rs := [10]) (by kernel_rfl) (by simp) ?_
          refine AllReadyH.cons rfl (fun K hK => ?_) AllReadyH.nil
          refine step_store_row rfl 104 (.tmp 16) (.tmp 55) rfl #[.int .i64 0, .int .i64 0, .int .i64 0, .int .i64 0, .int .i64 0, .int .i64 0, .int .i64 0, .int .i64 0] #[.int .i64 0, .int .i64 0, .int .i64 0, .int .i64 0, .int .i64 0, .int .i64 0, .int .i64 0, .int .i64 0] _ 104 hr11_4 rfl (by first | rfl | (go_simp; done) | (go_simp; rfl)) (by kernel_rfl) rfl (by simp [Value.oneCell']) ?_
          have hN := setRow_heap _ (y9.heap.size) _ #[.int .i64 0, .int .i64 0, .int .i64 0, .int .i64 0, .int .i64 0, .int .i64 0, .int .i64 0, .int .i64 0] _ _ hr11_4
          have hsz := HU11.out.size
          have HUx := below_setRow (g := y9.heap.size) HU11.out (by first | omega | (simp at *; omega)) #[.int .i64 0, .int .i64 0, .int .i64 0, .int .i64 0, .int .i64 0, .int .i64 0, .int .i64 0, .int .i64 0]
          obtain ⟨y12, hy12⟩ : ∃ y, y11.setRow (y9.heap.size) #[.int .i64 0, .int .i64 0, .int .i64 0, .int .i64 0, .int .i64 0, .int .i64 0, .int .i64 0, .int .i64 0] = y := ⟨_, rfl⟩
          have hO : ∀ k, k ≠ y9.heap.size → y12.heap[k]? = y11.heap[k]? := fun k hk => by rw [← hy12]; exact setRow_other _ _ _ _ hk
          rw [hy12] at hN HUx ⊢
          clear hy12
          have HU12 := Lib.hid HUx
          clear HUx
          have hr12_0 := (hO _ (by omega)).trans hr11_0
          have hr12_1 := (hO _ (by omega)).trans hr11_1
          have hr12_2 := (hO _ (by omega)).trans hr11_2
          have hr12_3 := (hO _ (by omega)).trans hr11_3
          have hr12_4 := hN
          clear hN
          refine hK.out _ _ (⟨(hO _ (by omega)).trans hS11c.1, (hO _ (by omega)).trans hS11c.2.1, (hO _ (by omega)).trans hS11c.2.2.1, (hO _ (by omega)).trans hS11c.2.2.2⟩) (fun hS12s => ?_)
          clear hK K
          refine wpAnyH_take (i := 11) (v := ?_) rfl (by kernel_rfl) (by kernel_rfl) (by kernel_rfl) (fun _ _ _ h => h) (Or.inl ⟨by kernel_rfl, by (intro wz hSz; go_simp; try with_reducible rfl)⟩) hS12s ?_
          go_simp
          refine wpAnyH_done (by kernel_rfl) ?_ _
          go_wp2_with fail
          go_meet
          exact ⟨_, rfl, .inl ⟨rfl, trivial⟩, hr12_0, hr12_1, hr12_2, hr12_3, HU12⟩
      · skip
        go_simp
        have hb9 := below_n1 y8 (.cells #[.int .i64 0, .int .i64 0, .int .i64 0, .int .i64 0, .int .i64 0, .int .i64 0, .int .i64 0, .int .i64 0] 104)
        have hN := heap_alloc_last y8 (.cells #[.int .i64 0, .int .i64 0, .int .i64 0, .int .i64 0, .int .i64 0, .int .i64 0, .int .i64 0, .int .i64 0] 104)
        obtain ⟨y9, hy9⟩ : ∃ y, y8.alloc (.cells #[.int .i64 0, .int .i64 0, .int .i64 0, .int .i64 0, .int .i64 0, .int .i64 0, .int .i64 0, .int .i64 0] 104) = y := ⟨_, rfl⟩
        rw [hy9] at hb9 hN ⊢
        clear hy9
        have hl9_0 := lt_heap hr8_0
        have hr9_0 := (hb9.block _ (lt_heap hr8_0)).trans hr8_0
        have hl9_1 := lt_heap hr8_1
        have hr9_1 := (hb9.block _ (lt_heap hr8_1)).trans hr8_1
        have hl9_2 := lt_heap hr8_2
        have hr9_2 := (hb9.block _ (lt_heap hr8_2)).trans hr8_2
        have hl9_3 := lt_heap hr8_3
        have hr9_3 := (hb9.block _ (lt_heap hr8_3)).trans hr8_3
        have hr9_4 := hN
        clear hN
        have HU9 := Lib.hid (HU8.out.trans (hb9.mono HU8.out.size))
        refine hK.out _ _ (⟨(hb9.block _ (lt_heap hS0.1)).trans hS0.1, (hb9.block _ (lt_heap hS0.2.1)).trans hS0.2.1, (hb9.block _ (lt_heap hS0.2.2.1)).trans hS0.2.2.1, (hb9.block _ (lt_heap hS0.2.2.2)).trans hS0.2.2.2⟩) (fun hS9a => ?_)
        clear hK K
        refine wpAnyH_ready (rs := [2]) (by kernel_rfl) (by simp) ?_
        refine AllReadyH.cons rfl (fun K hK => ?_) AllReadyH.nil
        go_simp
        go_wp2_with (go_at_call 25; refine (lmoving_any _ _ _ _ _ _ _ _ _ _ _ _ _ _ _ _ _ _ _ _ _ _ _ _ _ ).mono ?_; rintro e y10 ⟨rfl, hb10⟩)
        have hr10_0 := (hb10.block _ (lt_heap hr9_0)).trans hr9_0
        have hr10_1 := (hb10.block _ (lt_heap hr9_1)).trans hr9_1
        have hr10_2 := (hb10.block _ (lt_heap hr9_2)).trans hr9_2
        have hr10_3 := (hb10.block _ (lt_heap hr9_3)).trans hr9_3
        have hr10_4 := (hb10.block _ (lt_heap hr9_4)).trans hr9_4
        have HU10 := Lib.hid (HU9.out.trans (hb10.mono HU9.out.size))
        refine hK.out _ _ (⟨(hb10.block _ (lt_heap hS9a.1)).trans hS9a.1, (hb10.block _ (lt_heap hS9a.2.1)).trans hS9a.2.1, (hb10.block _ (lt_heap hS9a.2.2.1)).trans hS9a.2.2.1, (hb10.block _ (lt_heap hS9a.2.2.2)).trans hS9a.2.2.2⟩) (fun hS10c => ?_)
        clear hK K
        refine wpAnyH_ready (rs := [5]) (by kernel_rfl) (by simp) ?_
        refine AllReadyH.cons rfl (fun K hK => ?_) AllReadyH.nil
        go_simp
        go_wp2_with (go_at_call 41; refine (HT.out _ _ _).mono ?_; rintro e y11 ⟨rfl, hb11⟩; rw [hf, testR_none])
        have hr11_0 := (hb11.block _ (lt_heap hr10_0)).trans hr10_0
        have hr11_1 := (hb11.block _ (lt_heap hr10_1)).trans hr10_1
        have hr11_2 := (hb11.block _ (lt_heap hr10_2)).trans hr10_2
        have hr11_3 := (hb11.block _ (lt_heap hr10_3)).trans hr10_3
        have hr11_4 := (hb11.block _ (lt_heap hr10_4)).trans hr10_4
        have HU11 := Lib.hid (HU10.out.trans (hb11.mono HU10.out.size))
        refine hK.out _ _ (⟨(hb11.block _ (lt_heap hS10c.1)).trans hS10c.1, (hb11.block _ (lt_heap hS10c.2.1)).trans hS10c.2.1, (hb11.block _ (lt_heap hS10c.2.2.1)).trans hS10c.2.2.1, (hb11.block _ (lt_heap hS10c.2.2.2)).trans hS10c.2.2.2⟩) (fun hS11c => ?_)
        clear hK K
        refine wpAnyH_take (i := 6) (v := ?_) rfl (by kernel_rfl) (by kernel_rfl) (by kernel_rfl) (fun _ _ _ h => h) (Or.inl ⟨by kernel_rfl, by (intro wz hSz; go_simp; try with_reducible rfl)⟩) hS11c ?_
        go_simp
        refine wpAnyH_take (i := 7) (v := ?_) rfl (by kernel_rfl) (by kernel_rfl) (by kernel_rfl) (fun _ _ _ h => h) (Or.inl ⟨by kernel_rfl, by (intro wz hSz; go_simp; try with_reducible rfl)⟩) hS11c ?_
        go_simp
        refine wpAnyH_take (i := 8) (v := ?_) rfl (by kernel_rfl) (by kernel_rfl) (by kernel_rfl) (fun _ _ _ h => h) (Or.inl ⟨by kernel_rfl, by (intro wz hSz; go_simp; try with_reducible rfl)⟩) hS11c ?_
        go_simp
        refine wpAnyH_ready (rs := [10]) (by kernel_rfl) (by simp) ?_
        refine AllReadyH.cons rfl (fun K hK => ?_) AllReadyH.nil
        refine step_store_row rfl 104 (.tmp 16) (.tmp 55) rfl #[.int .i64 0, .int .i64 0, .int .i64 0, .int .i64 0, .int .i64 0, .int .i64 0, .int .i64 0, .int .i64 0] #[.int .i64 0, .int .i64 0, .int .i64 0, .int .i64 0, .int .i64 0, .int .i64 0, .int .i64 0, .int .i64 0] _ 104 hr11_4 rfl (by first | rfl | (go_simp; done) | (go_simp; rfl)) (by kernel_rfl) rfl (by simp [Value.oneCell']) ?_
        have hN := setRow_heap _ (y8.heap.size) _ #[.int .i64 0, .int .i64 0, .int .i64 0, .int .i64 0, .int .i64 0, .int .i64 0, .int .i64 0, .int .i64 0] _ _ hr11_4
        have hsz := HU11.out.size
        have HUx := below_setRow (g := y8.heap.size) HU11.out (by first | omega | (simp at *; omega)) #[.int .i64 0, .int .i64 0, .int .i64 0, .int .i64 0, .int .i64 0, .int .i64 0, .int .i64 0, .int .i64 0]
        obtain ⟨y12, hy12⟩ : ∃ y, y11.setRow (y8.heap.size) #[.int .i64 0, .int .i64 0, .int .i64 0, .int .i64 0, .int .i64 0, .int .i64 0, .int .i64 0, .int .i64 0] = y := ⟨_, rfl⟩
        have hO : ∀ k, k ≠ y8.heap.size → y12.heap[k]? = y11.heap[k]? := fun k hk => by rw [← hy12]; exact setRow_other _ _ _ _ hk
        rw [hy12] at hN HUx ⊢
        clear hy12
        have HU12 := Lib.hid HUx
        clear HUx
        have hr12_0 := (hO _ (by omega)).trans hr11_0
        have hr12_1 := (hO _ (by omega)).trans hr11_1
        have hr12_2 := (hO _ (by omega)).trans hr11_2
        have hr12_3 := (hO _ (by omega)).trans hr11_3
        have hr12_4 := hN
        clear hN
        refine hK.out _ _ (⟨(hO _ (by omega)).trans hS11c.1, (hO _ (by omega)).trans hS11c.2.1, (hO _ (by omega)).trans hS11c.2.2.1, (hO _ (by omega)).trans hS11c.2.2.2⟩) (fun hS12s => ?_)
        clear hK K
        refine wpAnyH_take (i := 11) (v := ?_) rfl (by kernel_rfl) (by kernel_rfl) (by kernel_rfl) (fun _ _ _ h => h) (Or.inl ⟨by kernel_rfl, by (intro wz hSz; go_simp; try with_reducible rfl)⟩) hS12s ?_
        go_simp
        refine wpAnyH_done (by kernel_rfl) ?_ _
        go_wp2_with fail
        go_meet
        exact ⟨_, rfl, .inl ⟨rfl, trivial⟩, hr12_0, hr12_1, hr12_2, hr12_3, HU12⟩
    | some t =>
      refine wp_region_held_drew (S := fun y => y.heap[w.heap.size]? = some (.cells #[.int .i64 fx, .int .i64 fy, .int .i64 fz, .int .i64 dx, .int .i64 dy, .int .i64 dz, .int .i64 pt] 97 (0, 0)) ∧ y.heap[w.heap.size + 1]? = some (.cells #[.int .i64 a0, .int .i64 a1, .int .i64 a2, .int .i64 a3, .int .i64 a4, .int .i64 a5, .int .i64 a6, .int .i64 a7, .int .i64 a8, .int .i64 a9, .int .i64 a10, .int .i64 a11, .int .i64 a12, .int .i64 a13, .int .i64 a14, .int .i64 a15, .int .i64 a16, .int .i64 a17, .int .i64 a18, .int .i64 a19, .int .i64 a20, .int .i64 a21, .int .i64 a22, .int .i64 a23] 64 (0, 0)) ∧ y.heap[y1.heap.size]? = some (.cells #[.int .i64 fx, .int .i64 fy, .int .i64 fz, .int .i64 dx, .int .i64 dy, .int .i64 dz, .int .i64 pt] 101 (0, 0)) ∧ y.heap[y3.heap.size]? = some (.cells #[.int .i64 (min (Pl.add fx (Pl.mul dx lo)) (Pl.add fx (Pl.mul dx hi))), .int .i64 (min (Pl.add fy (Pl.mul dy lo)) (Pl.add fy (Pl.mul dy hi))), .int .i64 (min (Pl.add fz (Pl.mul dz lo)) (Pl.add fz (Pl.mul dz hi))), .int .i64 (max (Pl.add fx (Pl.mul dx lo)) (Pl.add fx (Pl.mul dx hi))), .int .i64 (max (Pl.add fy (Pl.mul dy lo)) (Pl.add fy (Pl.mul dy hi))), .int .i64 (max (Pl.add fz (Pl.mul dz lo)) (Pl.add fz (Pl.mul dz hi)))] 73 (0, 0))) (by kernel_rfl) (⟨hr7_0, hr7_1, hr7_2, hr7_3⟩) (fun hS0 => ?_)
      obtain ⟨y8, hy8⟩ : ∃ y, y7.drew = y := ⟨_, rfl⟩
      have HU8 := Lib.hid (show Below w.heap.size w y8 by rw [← hy8]; exact HU7.out.drew)
      have hr8_0 : y8.heap[w.heap.size]? = some (.cells #[.int .i64 fx, .int .i64 fy, .int .i64 fz, .int .i64 dx, .int .i64 dy, .int .i64 dz, .int .i64 pt] 97 (0, 0)) := by rw [← hy8]; exact hr7_0
      have hr8_1 : y8.heap[w.heap.size + 1]? = some (.cells #[.int .i64 a0, .int .i64 a1, .int .i64 a2, .int .i64 a3, .int .i64 a4, .int .i64 a5, .int .i64 a6, .int .i64 a7, .int .i64 a8, .int .i64 a9, .int .i64 a10, .int .i64 a11, .int .i64 a12, .int .i64 a13, .int .i64 a14, .int .i64 a15, .int .i64 a16, .int .i64 a17, .int .i64 a18, .int .i64 a19, .int .i64 a20, .int .i64 a21, .int .i64 a22, .int .i64 a23] 64 (0, 0)) := by rw [← hy8]; exact hr7_1
      have hr8_2 : y8.heap[y1.heap.size]? = some (.cells #[.int .i64 fx, .int .i64 fy, .int .i64 fz, .int .i64 dx, .int .i64 dy, .int .i64 dz, .int .i64 pt] 101 (0, 0)) := by rw [← hy8]; exact hr7_2
      have hr8_3 : y8.heap[y3.heap.size]? = some (.cells #[.int .i64 (min (Pl.add fx (Pl.mul dx lo)) (Pl.add fx (Pl.mul dx hi))), .int .i64 (min (Pl.add fy (Pl.mul dy lo)) (Pl.add fy (Pl.mul dy hi))), .int .i64 (min (Pl.add fz (Pl.mul dz lo)) (Pl.add fz (Pl.mul dz hi))), .int .i64 (max (Pl.add fx (Pl.mul dx lo)) (Pl.add fx (Pl.mul dx hi))), .int .i64 (max (Pl.add fy (Pl.mul dy lo)) (Pl.add fy (Pl.mul dy hi))), .int .i64 (max (Pl.add fz (Pl.mul dz lo)) (Pl.add fz (Pl.mul dz hi)))] 73 (0, 0)) := by rw [← hy8]; exact hr7_3
      rw [hy8] at hS0 ⊢
      clear hy8
      refine wpAnyH_take (i := 0) (v := .agg #[.int .i64 fx, .int .i64 fy, .int .i64 fz, .int .i64 dx, .int .i64 dy, .int .i64 dz, .int .i64 pt]) rfl (by kernel_rfl) (by kernel_rfl) (by kernel_rfl) (fun _ _ _ h => h) (Lr.yieldsIf_load_row (by kernel_rfl) 101 (.tmp 11) rfl (y1.heap.size) rfl 101 #[.int .i64 fx, .int .i64 fy, .int .i64 fz, .int .i64 dx, .int .i64 dy, .int .i64 dz, .int .i64 pt] _ (fun yy hh => hh.2.2.1) Try.underlying101 rfl (by kernel_rfl)) hS0 ?_
      go_simp
      refine wpAnyH_take (i := 1) (v := .agg #[.int .i64 a0, .int .i64 a1, .int .i64 a2, .int .i64 a3, .int .i64 a4, .int .i64 a5, .int .i64 a6, .int .i64 a7, .int .i64 a8, .int .i64 a9, .int .i64 a10, .int .i64 a11, .int .i64 a12, .int .i64 a13, .int .i64 a14, .int .i64 a15, .int .i64 a16, .int .i64 a17, .int .i64 a18, .int .i64 a19, .int .i64 a20, .int .i64 a21, .int .i64 a22, .int .i64 a23]) rfl (by kernel_rfl) (by kernel_rfl) (by kernel_rfl) (fun _ _ _ h => h) (Lr.yieldsIf_load_row (by kernel_rfl) 64 (.tmp 6) rfl (w.heap.size + 1) rfl 64 #[.int .i64 a0, .int .i64 a1, .int .i64 a2, .int .i64 a3, .int .i64 a4, .int .i64 a5, .int .i64 a6, .int .i64 a7, .int .i64 a8, .int .i64 a9, .int .i64 a10, .int .i64 a11, .int .i64 a12, .int .i64 a13, .int .i64 a14, .int .i64 a15, .int .i64 a16, .int .i64 a17, .int .i64 a18, .int .i64 a19, .int .i64 a20, .int .i64 a21, .int .i64 a22, .int .i64 a23] _ (fun yy hh => hh.2.1) Try.underlying64 rfl (by kernel_rfl)) hS0 ?_
      go_simp
      refine wpAnyH_take (i := 3) (v := ?_) rfl (by kernel_rfl) (by kernel_rfl) (by kernel_rfl) (fun _ _ _ h => h) (Or.inl ⟨by kernel_rfl, by (intro wz hSz; go_simp; try with_reducible rfl)⟩) hS0 ?_
      go_simp
      refine wpAnyH_take (i := 4) (v := ?_) rfl (by kernel_rfl) (by kernel_rfl) (by kernel_rfl) (fun _ _ _ h => h) (Or.inl ⟨by kernel_rfl, by (intro wz hSz; go_simp; try with_reducible rfl)⟩) hS0 ?_
      go_simp
      refine wpAnyH_ready (rs := [2, 9]) (by kernel_rfl) (by simp) ?_
      refine AllReadyH.cons rfl (fun K hK => ?_) (AllReadyH.cons rfl (fun K hK => ?_) AllReadyH.nil)
      · skip
        go_simp
        go_wp2_with (go_at_call 25; refine (lmoving_any _ _ _ _ _ _ _ _ _ _ _ _ _ _ _ _ _ _ _ _ _ _ _ _ _ ).mono ?_; rintro e y9 ⟨rfl, hb9⟩)
        have hr9_0 := (hb9.block _ (lt_heap hr8_0)).trans hr8_0
        have hr9_1 := (hb9.block _ (lt_heap hr8_1)).trans hr8_1
        have hr9_2 := (hb9.block _ (lt_heap hr8_2)).trans hr8_2
        have hr9_3 := (hb9.block _ (lt_heap hr8_3)).trans hr8_3
        have HU9 := Lib.hid (HU8.out.trans (hb9.mono HU8.out.size))
        refine hK.out _ _ (⟨(hb9.block _ (lt_heap hS0.1)).trans hS0.1, (hb9.block _ (lt_heap hS0.2.1)).trans hS0.2.1, (hb9.block _ (lt_heap hS0.2.2.1)).trans hS0.2.2.1, (hb9.block _ (lt_heap hS0.2.2.2)).trans hS0.2.2.2⟩) (fun hS9c => ?_)
        clear hK K
        refine wpAnyH_ready (rs := [5, 9]) (by kernel_rfl) (by simp) ?_
        refine AllReadyH.cons rfl (fun K hK => ?_) (AllReadyH.cons rfl (fun K hK => ?_) AllReadyH.nil)
        · skip
          go_simp
          go_wp2_with (go_at_call 41; refine (HT.out _ _ _).mono ?_; rintro e y10 ⟨rfl, hb10⟩; rw [hf, testR_some])
          have hr10_0 := (hb10.block _ (lt_heap hr9_0)).trans hr9_0
          have hr10_1 := (hb10.block _ (lt_heap hr9_1)).trans hr9_1
          have hr10_2 := (hb10.block _ (lt_heap hr9_2)).trans hr9_2
          have hr10_3 := (hb10.block _ (lt_heap hr9_3)).trans hr9_3
          have HU10 := Lib.hid (HU9.out.trans (hb10.mono HU9.out.size))
          refine hK.out _ _ (⟨(hb10.block _ (lt_heap hS9c.1)).trans hS9c.1, (hb10.block _ (lt_heap hS9c.2.1)).trans hS9c.2.1, (hb10.block _ (lt_heap hS9c.2.2.1)).trans hS9c.2.2.1, (hb10.block _ (lt_heap hS9c.2.2.2)).trans hS9c.2.2.2⟩) (fun hS10c => ?_)
          clear hK K
          refine wpAnyH_take (i := 6) (v := ?_) rfl (by kernel_rfl) (by kernel_rfl) (by kernel_rfl) (fun _ _ _ h => h) (Or.inl ⟨by kernel_rfl, by (intro wz hSz; go_simp; try with_reducible rfl)⟩) hS10c ?_
          go_simp
          refine wpAnyH_take (i := 7) (v := ?_) rfl (by kernel_rfl) (by kernel_rfl) (by kernel_rfl) (fun _ _ _ h => h) (Or.inl ⟨by kernel_rfl, by (intro wz hSz; go_simp; try with_reducible rfl)⟩) hS10c ?_
          go_simp
          refine wpAnyH_take (i := 8) (v := ?_) rfl (by kernel_rfl) (by kernel_rfl) (by kernel_rfl) (fun _ _ _ h => h) (Or.inl ⟨by kernel_rfl, by (intro wz hSz; go_simp; try with_reducible rfl)⟩) hS10c ?_
          go_simp
          refine wpAnyH_ready (rs := [9]) (by kernel_rfl) (by simp) ?_
          refine AllReadyH.cons rfl (fun K hK => ?_) AllReadyH.nil
          go_simp
          have hb11 := below_n1 y10 (.cells #[.int .i64 0, .int .i64 0, .int .i64 0, .int .i64 0, .int .i64 0, .int .i64 0, .int .i64 0, .int .i64 0] 104)
          have hN := heap_alloc_last y10 (.cells #[.int .i64 0, .int .i64 0, .int .i64 0, .int .i64 0, .int .i64 0, .int .i64 0, .int .i64 0, .int .i64 0] 104)
          obtain ⟨y11, hy11⟩ : ∃ y, y10.alloc (.cells #[.int .i64 0, .int .i64 0, .int .i64 0, .int .i64 0, .int .i64 0, .int .i64 0, .int .i64 0, .int .i64 0] 104) = y := ⟨_, rfl⟩
          rw [hy11] at hb11 hN ⊢
          clear hy11
          have hl11_0 := lt_heap hr10_0
          have hr11_0 := (hb11.block _ (lt_heap hr10_0)).trans hr10_0
          have hl11_1 := lt_heap hr10_1
          have hr11_1 := (hb11.block _ (lt_heap hr10_1)).trans hr10_1
          have hl11_2 := lt_heap hr10_2
          have hr11_2 := (hb11.block _ (lt_heap hr10_2)).trans hr10_2
          have hl11_3 := lt_heap hr10_3
          have hr11_3 := (hb11.block _ (lt_heap hr10_3)).trans hr10_3
          have hr11_4 := hN
          clear hN
          have HU11 := Lib.hid (HU10.out.trans (hb11.mono HU10.out.size))
          refine hK.out _ _ (⟨(hb11.block _ (lt_heap hS10c.1)).trans hS10c.1, (hb11.block _ (lt_heap hS10c.2.1)).trans hS10c.2.1, (hb11.block _ (lt_heap hS10c.2.2.1)).trans hS10c.2.2.1, (hb11.block _ (lt_heap hS10c.2.2.2)).trans hS10c.2.2.2⟩) (fun hS11a => ?_)
          clear hK K
          refine wpAnyH_ready (rs := [10]) (by kernel_rfl) (by simp) ?_
          refine AllReadyH.cons rfl (fun K hK => ?_) AllReadyH.nil
          refine step_store_row rfl 104 (.tmp 16) (.tmp 55) rfl #[.int .i64 0, .int .i64 0, .int .i64 0, .int .i64 0, .int .i64 0, .int .i64 0, .int .i64 0, .int .i64 0] #[.int .i64 t, .int .i64 0, .int .i64 (at1 fx dx t), .int .i64 (at1 fy dy t), .int .i64 (at1 fz dz t), .int .i64 (n0 t), .int .i64 (n1 t), .int .i64 (n2 t)] _ 104 hr11_4 rfl (by first | rfl | (go_simp; done) | (go_simp; rfl)) (by kernel_rfl) rfl (by simp [Value.oneCell']) ?_
          have hN := setRow_heap _ (y10.heap.size) _ #[.int .i64 t, .int .i64 0, .int .i64 (at1 fx dx t), .int .i64 (at1 fy dy t), .int .i64 (at1 fz dz t), .int .i64 (n0 t), .int .i64 (n1 t), .int .i64 (n2 t)] _ _ hr11_4
          have hsz := HU11.out.size
          have HUx := below_setRow (g := y10.heap.size) HU11.out (by first | omega | (simp at *; omega)) #[.int .i64 t, .int .i64 0, .int .i64 (at1 fx dx t), .int .i64 (at1 fy dy t), .int .i64 (at1 fz dz t), .int .i64 (n0 t), .int .i64 (n1 t), .int .i64 (n2 t)]
          obtain ⟨y12, hy12⟩ : ∃ y, y11.setRow (y10.heap.size) #[.int .i64 t, .int .i64 0, .int .i64 (at1 fx dx t), .int .i64 (at1 fy dy t), .int .i64 (at1 fz dz t), .int .i64 (n0 t), .int .i64 (n1 t), .int .i64 (n2 t)] = y := ⟨_, rfl⟩
          have hO : ∀ k, k ≠ y10.heap.size → y12.heap[k]? = y11.heap[k]? := fun k hk => by rw [← hy12]; exact setRow_other _ _ _ _ hk
          rw [hy12] at hN HUx ⊢
          clear hy12
          have HU12 := Lib.hid HUx
          clear HUx
          have hr12_0 := (hO _ (by omega)).trans hr11_0
          have hr12_1 := (hO _ (by omega)).trans hr11_1
          have hr12_2 := (hO _ (by omega)).trans hr11_2
          have hr12_3 := (hO _ (by omega)).trans hr11_3
          have hr12_4 := hN
          clear hN
          refine hK.out _ _ (⟨(hO _ (by omega)).trans hS11a.1, (hO _ (by omega)).trans hS11a.2.1, (hO _ (by omega)).trans hS11a.2.2.1, (hO _ (by omega)).trans hS11a.2.2.2⟩) (fun hS12s => ?_)
          clear hK K
          refine wpAnyH_take (i := 11) (v := ?_) rfl (by kernel_rfl) (by kernel_rfl) (by kernel_rfl) (fun _ _ _ h => h) (Or.inl ⟨by kernel_rfl, by (intro wz hSz; go_simp; try with_reducible rfl)⟩) hS12s ?_
          go_simp
          refine wpAnyH_done (by kernel_rfl) ?_ _
          go_wp2_with fail
          go_meet
          exact ⟨_, rfl, .inr ⟨t, hf, rfl, hr12_4⟩, hr12_0, hr12_1, hr12_2, hr12_3, HU12⟩
        · skip
          go_simp
          have hb10 := below_n1 y9 (.cells #[.int .i64 0, .int .i64 0, .int .i64 0, .int .i64 0, .int .i64 0, .int .i64 0, .int .i64 0, .int .i64 0] 104)
          have hN := heap_alloc_last y9 (.cells #[.int .i64 0, .int .i64 0, .int .i64 0, .int .i64 0, .int .i64 0, .int .i64 0, .int .i64 0, .int .i64 0] 104)
          obtain ⟨y10, hy10⟩ : ∃ y, y9.alloc (.cells #[.int .i64 0, .int .i64 0, .int .i64 0, .int .i64 0, .int .i64 0, .int .i64 0, .int .i64 0, .int .i64 0] 104) = y := ⟨_, rfl⟩
          rw [hy10] at hb10 hN ⊢
          clear hy10
          have hl10_0 := lt_heap hr9_0
          have hr10_0 := (hb10.block _ (lt_heap hr9_0)).trans hr9_0
          have hl10_1 := lt_heap hr9_1
          have hr10_1 := (hb10.block _ (lt_heap hr9_1)).trans hr9_1
          have hl10_2 := lt_heap hr9_2
          have hr10_2 := (hb10.block _ (lt_heap hr9_2)).trans hr9_2
          have hl10_3 := lt_heap hr9_3
          have hr10_3 := (hb10.block _ (lt_heap hr9_3)).trans hr9_3
          have hr10_4 := hN
          clear hN
          have HU10 := Lib.hid (HU9.out.trans (hb10.mono HU9.out.size))
          refine hK.out _ _ (⟨(hb10.block _ (lt_heap hS9c.1)).trans hS9c.1, (hb10.block _ (lt_heap hS9c.2.1)).trans hS9c.2.1, (hb10.block _ (lt_heap hS9c.2.2.1)).trans hS9c.2.2.1, (hb10.block _ (lt_heap hS9c.2.2.2)).trans hS9c.2.2.2⟩) (fun hS10a => ?_)
          clear hK K
          refine wpAnyH_ready (rs := [5]) (by kernel_rfl) (by simp) ?_
          refine AllReadyH.cons rfl (fun K hK => ?_) AllReadyH.nil
          go_simp
          go_wp2_with (go_at_call 41; refine (HT.out _ _ _).mono ?_; rintro e y11 ⟨rfl, hb11⟩; rw [hf, testR_some])
          have hr11_0 := (hb11.block _ (lt_heap hr10_0)).trans hr10_0
          have hr11_1 := (hb11.block _ (lt_heap hr10_1)).trans hr10_1
          have hr11_2 := (hb11.block _ (lt_heap hr10_2)).trans hr10_2
          have hr11_3 := (hb11.block _ (lt_heap hr10_3)).trans hr10_3
          have hr11_4 := (hb11.block _ (lt_heap hr10_4)).trans hr10_4
          have HU11 := Lib.hid (HU10.out.trans (hb11.mono HU10.out.size))
          refine hK.out _ _ (⟨(hb11.block _ (lt_heap hS10a.1)).trans hS10a.1, (hb11.block _ (lt_heap hS10a.2.1)).trans hS10a.2.1, (hb11.block _ (lt_heap hS10a.2.2.1)).trans hS10a.2.2.1, (hb11.block _ (lt_heap hS10a.2.2.2)).trans hS10a.2.2.2⟩) (fun hS11c => ?_)
          clear hK K
          refine wpAnyH_take (i := 6) (v := ?_) rfl (by kernel_rfl) (by kernel_rfl) (by kernel_rfl) (fun _ _ _ h => h) (Or.inl ⟨by kernel_rfl, by (intro wz hSz; go_simp; try with_reducible rfl)⟩) hS11c ?_
          go_simp
          refine wpAnyH_take (i := 7) (v := ?_) rfl (by kernel_rfl) (by kernel_rfl) (by kernel_rfl) (fun _ _ _ h => h) (Or.inl ⟨by kernel_rfl, by (intro wz hSz; go_simp; try with_reducible rfl)⟩) hS11c ?_
          go_simp
          refine wpAnyH_take (i := 8) (v := ?_) rfl (by kernel_rfl) (by kernel_rfl) (by kernel_rfl) (fun _ _ _ h => h) (Or.inl ⟨by kernel_rfl, by (intro wz hSz; go_simp; try with_reducible rfl)⟩) hS11c ?_
          go_simp
          refine wpAnyH_ready (rs := [10]) (by kernel_rfl) (by simp) ?_
          refine AllReadyH.cons rfl (fun K hK => ?_) AllReadyH.nil
          refine step_store_row rfl 104 (.tmp 16) (.tmp 55) rfl #[.int .i64 0, .int .i64 0, .int .i64 0, .int .i64 0, .int .i64 0, .int .i64 0, .int .i64 0, .int .i64 0] #[.int .i64 t, .int .i64 0, .int .i64 (at1 fx dx t), .int .i64 (at1 fy dy t), .int .i64 (at1 fz dz t), .int .i64 (n0 t), .int .i64 (n1 t), .int .i64 (n2 t)] _ 104 hr11_4 rfl (by first | rfl | (go_simp; done) | (go_simp; rfl)) (by kernel_rfl) rfl (by simp [Value.oneCell']) ?_
          have hN := setRow_heap _ (y9.heap.size) _ #[.int .i64 t, .int .i64 0, .int .i64 (at1 fx dx t), .int .i64 (at1 fy dy t), .int .i64 (at1 fz dz t), .int .i64 (n0 t), .int .i64 (n1 t), .int .i64 (n2 t)] _ _ hr11_4
          have hsz := HU11.out.size
          have HUx := below_setRow (g := y9.heap.size) HU11.out (by first | omega | (simp at *; omega)) #[.int .i64 t, .int .i64 0, .int .i64 (at1 fx dx t), .int .i64 (at1 fy dy t), .int .i64 (at1 fz dz t), .int .i64 (n0 t), .int .i64 (n1 t), .int .i64 (n2 t)]
          obtain ⟨y12, hy12⟩ : ∃ y, y11.setRow (y9.heap.size) #[.int .i64 t, .int .i64 0, .int .i64 (at1 fx dx t), .int .i64 (at1 fy dy t), .int .i64 (at1 fz dz t), .int .i64 (n0 t), .int .i64 (n1 t), .int .i64 (n2 t)] = y := ⟨_, rfl⟩
          have hO : ∀ k, k ≠ y9.heap.size → y12.heap[k]? = y11.heap[k]? := fun k hk => by rw [← hy12]; exact setRow_other _ _ _ _ hk
          rw [hy12] at hN HUx ⊢
          clear hy12
          have HU12 := Lib.hid HUx
          clear HUx
          have hr12_0 := (hO _ (by omega)).trans hr11_0
          have hr12_1 := (hO _ (by omega)).trans hr11_1
          have hr12_2 := (hO _ (by omega)).trans hr11_2
          have hr12_3 := (hO _ (by omega)).trans hr11_3
          have hr12_4 := hN
          clear hN
          refine hK.out _ _ (⟨(hO _ (by omega)).trans hS11c.1, (hO _ (by omega)).trans hS11c.2.1, (hO _ (by omega)).trans hS11c.2.2.1, (hO _ (by omega)).trans hS11c.2.2.2⟩) (fun hS12s => ?_)
          clear hK K
          refine wpAnyH_take (i := 11) (v := ?_) rfl (by kernel_rfl) (by kernel_rfl) (by kernel_rfl) (fun _ _ _ h => h) (Or.inl ⟨by kernel_rfl, by (intro wz hSz; go_simp; try with_reducible rfl)⟩) hS12s ?_
          go_simp
          refine wpAnyH_done (by kernel_rfl) ?_ _
          go_wp2_with fail
          go_meet
          exact ⟨_, rfl, .inr ⟨t, hf, rfl, hr12_4⟩, hr12_0, hr12_1, hr12_2, hr12_3, HU12⟩
      · skip
        go_simp
        have hb9 := below_n1 y8 (.cells #[.int .i64 0, .int .i64 0, .int .i64 0, .int .i64 0, .int .i64 0, .int .i64 0, .int .i64 0, .int .i64 0] 104)
        have hN := heap_alloc_last y8 (.cells #[.int .i64 0, .int .i64 0, .int .i64 0, .int .i64 0, .int .i64 0, .int .i64 0, .int .i64 0, .int .i64 0] 104)
        obtain ⟨y9, hy9⟩ : ∃ y, y8.alloc (.cells #[.int .i64 0, .int .i64 0, .int .i64 0, .int .i64 0, .int .i64 0, .int .i64 0, .int .i64 0, .int .i64 0] 104) = y := ⟨_, rfl⟩
        rw [hy9] at hb9 hN ⊢
        clear hy9
        have hl9_0 := lt_heap hr8_0
        have hr9_0 := (hb9.block _ (lt_heap hr8_0)).trans hr8_0
        have hl9_1 := lt_heap hr8_1
        have hr9_1 := (hb9.block _ (lt_heap hr8_1)).trans hr8_1
        have hl9_2 := lt_heap hr8_2
        have hr9_2 := (hb9.block _ (lt_heap hr8_2)).trans hr8_2
        have hl9_3 := lt_heap hr8_3
        have hr9_3 := (hb9.block _ (lt_heap hr8_3)).trans hr8_3
        have hr9_4 := hN
        clear hN
        have HU9 := Lib.hid (HU8.out.trans (hb9.mono HU8.out.size))
        refine hK.out _ _ (⟨(hb9.block _ (lt_heap hS0.1)).trans hS0.1, (hb9.block _ (lt_heap hS0.2.1)).trans hS0.2.1, (hb9.block _ (lt_heap hS0.2.2.1)).trans hS0.2.2.1, (hb9.block _ (lt_heap hS0.2.2.2)).trans hS0.2.2.2⟩) (fun hS9a => ?_)
        clear hK K
        refine wpAnyH_ready (rs := [2]) (by kernel_rfl) (by simp) ?_
        refine AllReadyH.cons rfl (fun K hK => ?_) AllReadyH.nil
        go_simp
        go_wp2_with (go_at_call 25; refine (lmoving_any _ _ _ _ _ _ _ _ _ _ _ _ _ _ _ _ _ _ _ _ _ _ _ _ _ ).mono ?_; rintro e y10 ⟨rfl, hb10⟩)
        have hr10_0 := (hb10.block _ (lt_heap hr9_0)).trans hr9_0
        have hr10_1 := (hb10.block _ (lt_heap hr9_1)).trans hr9_1
        have hr10_2 := (hb10.block _ (lt_heap hr9_2)).trans hr9_2
        have hr10_3 := (hb10.block _ (lt_heap hr9_3)).trans hr9_3
        have hr10_4 := (hb10.block _ (lt_heap hr9_4)).trans hr9_4
        have HU10 := Lib.hid (HU9.out.trans (hb10.mono HU9.out.size))
        refine hK.out _ _ (⟨(hb10.block _ (lt_heap hS9a.1)).trans hS9a.1, (hb10.block _ (lt_heap hS9a.2.1)).trans hS9a.2.1, (hb10.block _ (lt_heap hS9a.2.2.1)).trans hS9a.2.2.1, (hb10.block _ (lt_heap hS9a.2.2.2)).trans hS9a.2.2.2⟩) (fun hS10c => ?_)
        clear hK K
        refine wpAnyH_ready (rs := [5]) (by kernel_rfl) (by simp) ?_
        refine AllReadyH.cons rfl (fun K hK => ?_) AllReadyH.nil
        go_simp
        go_wp2_with (go_at_call 41; refine (HT.out _ _ _).mono ?_; rintro e y11 ⟨rfl, hb11⟩; rw [hf, testR_some])
        have hr11_0 := (hb11.block _ (lt_heap hr10_0)).trans hr10_0
        have hr11_1 := (hb11.block _ (lt_heap hr10_1)).trans hr10_1
        have hr11_2 := (hb11.block _ (lt_heap hr10_2)).trans hr10_2
        have hr11_3 := (hb11.block _ (lt_heap hr10_3)).trans hr10_3
        have hr11_4 := (hb11.block _ (lt_heap hr10_4)).trans hr10_4
        have HU11 := Lib.hid (HU10.out.trans (hb11.mono HU10.out.size))
        refine hK.out _ _ (⟨(hb11.block _ (lt_heap hS10c.1)).trans hS10c.1, (hb11.block _ (lt_heap hS10c.2.1)).trans hS10c.2.1, (hb11.block _ (lt_heap hS10c.2.2.1)).trans hS10c.2.2.1, (hb11.block _ (lt_heap hS10c.2.2.2)).trans hS10c.2.2.2⟩) (fun hS11c => ?_)
        clear hK K
        refine wpAnyH_take (i := 6) (v := ?_) rfl (by kernel_rfl) (by kernel_rfl) (by kernel_rfl) (fun _ _ _ h => h) (Or.inl ⟨by kernel_rfl, by (intro wz hSz; go_simp; try with_reducible rfl)⟩) hS11c ?_
        go_simp
        refine wpAnyH_take (i := 7) (v := ?_) rfl (by kernel_rfl) (by kernel_rfl) (by kernel_rfl) (fun _ _ _ h => h) (Or.inl ⟨by kernel_rfl, by (intro wz hSz; go_simp; try with_reducible rfl)⟩) hS11c ?_
        go_simp
        refine wpAnyH_take (i := 8) (v := ?_) rfl (by kernel_rfl) (by kernel_rfl) (by kernel_rfl) (fun _ _ _ h => h) (Or.inl ⟨by kernel_rfl, by (intro wz hSz; go_simp; try with_reducible rfl)⟩) hS11c ?_
        go_simp
        refine wpAnyH_ready (rs := [10]) (by kernel_rfl) (by simp) ?_
        refine AllReadyH.cons rfl (fun K hK => ?_) AllReadyH.nil
        refine step_store_row rfl 104 (.tmp 16) (.tmp 55) rfl #[.int .i64 0, .int .i64 0, .int .i64 0, .int .i64 0, .int .i64 0, .int .i64 0, .int .i64 0, .int .i64 0] #[.int .i64 t, .int .i64 0, .int .i64 (at1 fx dx t), .int .i64 (at1 fy dy t), .int .i64 (at1 fz dz t), .int .i64 (n0 t), .int .i64 (n1 t), .int .i64 (n2 t)] _ 104 hr11_4 rfl (by first | rfl | (go_simp; done) | (go_simp; rfl)) (by kernel_rfl) rfl (by simp [Value.oneCell']) ?_
        have hN := setRow_heap _ (y8.heap.size) _ #[.int .i64 t, .int .i64 0, .int .i64 (at1 fx dx t), .int .i64 (at1 fy dy t), .int .i64 (at1 fz dz t), .int .i64 (n0 t), .int .i64 (n1 t), .int .i64 (n2 t)] _ _ hr11_4
        have hsz := HU11.out.size
        have HUx := below_setRow (g := y8.heap.size) HU11.out (by first | omega | (simp at *; omega)) #[.int .i64 t, .int .i64 0, .int .i64 (at1 fx dx t), .int .i64 (at1 fy dy t), .int .i64 (at1 fz dz t), .int .i64 (n0 t), .int .i64 (n1 t), .int .i64 (n2 t)]
        obtain ⟨y12, hy12⟩ : ∃ y, y11.setRow (y8.heap.size) #[.int .i64 t, .int .i64 0, .int .i64 (at1 fx dx t), .int .i64 (at1 fy dy t), .int .i64 (at1 fz dz t), .int .i64 (n0 t), .int .i64 (n1 t), .int .i64 (n2 t)] = y := ⟨_, rfl⟩
        have hO : ∀ k, k ≠ y8.heap.size → y12.heap[k]? = y11.heap[k]? := fun k hk => by rw [← hy12]; exact setRow_other _ _ _ _ hk
        rw [hy12] at hN HUx ⊢
        clear hy12
        have HU12 := Lib.hid HUx
        clear HUx
        have hr12_0 := (hO _ (by omega)).trans hr11_0
        have hr12_1 := (hO _ (by omega)).trans hr11_1
        have hr12_2 := (hO _ (by omega)).trans hr11_2
        have hr12_3 := (hO _ (by omega)).trans hr11_3
        have hr12_4 := hN
        clear hN
        refine hK.out _ _ (⟨(hO _ (by omega)).trans hS11c.1, (hO _ (by omega)).trans hS11c.2.1, (hO _ (by omega)).trans hS11c.2.2.1, (hO _ (by omega)).trans hS11c.2.2.2⟩) (fun hS12s => ?_)
        clear hK K
        refine wpAnyH_take (i := 11) (v := ?_) rfl (by kernel_rfl) (by kernel_rfl) (by kernel_rfl) (fun _ _ _ h => h) (Or.inl ⟨by kernel_rfl, by (intro wz hSz; go_simp; try with_reducible rfl)⟩) hS12s ?_
        go_simp
        refine wpAnyH_done (by kernel_rfl) ?_ _
        go_wp2_with fail
        go_meet
        exact ⟨_, rfl, .inr ⟨t, hf, rfl, hr12_4⟩, hr12_0, hr12_1, hr12_2, hr12_3, HU12⟩
  case rest =>
    obtain ⟨gh, rfl, hcase, hr30_0, hr30_1, hr30_2, hr30_3, HU30⟩ := hcut
    rename World => y30
    rcases hcase with ⟨rfl, -⟩ | ⟨t, hf, rfl, hr30_4⟩
    · skip
      go_wp2_with fail
      refine (awake_any12 _).mono ?_
      rintro e y31 ⟨rfl, hb31⟩
      have hr31_0 := (hb31.block _ (lt_heap hr30_0)).trans hr30_0
      have hr31_1 := (hb31.block _ (lt_heap hr30_1)).trans hr30_1
      have hr31_2 := (hb31.block _ (lt_heap hr30_2)).trans hr30_2
      have hr31_3 := (hb31.block _ (lt_heap hr30_3)).trans hr30_3
      have HU31 := Lib.hid (HU30.out.trans (hb31.mono HU30.out.size))
      clear hr30_0 hr30_1 hr30_2 hr30_3 HU30
      go_wp2
      go_ret
      exact ⟨rfl, HU31.out⟩
    · skip
      obtain ⟨-, h1, h2, h3⟩ := first_some hf
      have HP := Lib.hid (show has6 b0 b1 b2 b3 b4 b5 (at1 fx dx t) (at1 fy dy t) (at1 fz dz t) = true from h3)
      have HS := Lib.hid (HH.out t (Int.le_of_lt h1) h2)
      have d1 := decide_eq_true h1
      have d2 := decide_eq_true h2
      clear h1 h2 h3 hf
      go_upto_region 9 with fail
      refine wp_region_held_drew (S := fun y => y.heap[w.heap.size]? = some (.cells #[.int .i64 fx, .int .i64 fy, .int .i64 fz, .int .i64 dx, .int .i64 dy, .int .i64 dz, .int .i64 pt] 97 (0, 0)) ∧ y.heap[w.heap.size + 1]? = some (.cells #[.int .i64 a0, .int .i64 a1, .int .i64 a2, .int .i64 a3, .int .i64 a4, .int .i64 a5, .int .i64 a6, .int .i64 a7, .int .i64 a8, .int .i64 a9, .int .i64 a10, .int .i64 a11, .int .i64 a12, .int .i64 a13, .int .i64 a14, .int .i64 a15, .int .i64 a16, .int .i64 a17, .int .i64 a18, .int .i64 a19, .int .i64 a20, .int .i64 a21, .int .i64 a22, .int .i64 a23] 64 (0, 0)) ∧ y.heap[y1.heap.size]? = some (.cells #[.int .i64 fx, .int .i64 fy, .int .i64 fz, .int .i64 dx, .int .i64 dy, .int .i64 dz, .int .i64 pt] 101 (0, 0)) ∧ y.heap[y3.heap.size]? = some (.cells #[.int .i64 (min (Pl.add fx (Pl.mul dx lo)) (Pl.add fx (Pl.mul dx hi))), .int .i64 (min (Pl.add fy (Pl.mul dy lo)) (Pl.add fy (Pl.mul dy hi))), .int .i64 (min (Pl.add fz (Pl.mul dz lo)) (Pl.add fz (Pl.mul dz hi))), .int .i64 (max (Pl.add fx (Pl.mul dx lo)) (Pl.add fx (Pl.mul dx hi))), .int .i64 (max (Pl.add fy (Pl.mul dy lo)) (Pl.add fy (Pl.mul dy hi))), .int .i64 (max (Pl.add fz (Pl.mul dz lo)) (Pl.add fz (Pl.mul dz hi)))] 73 (0, 0)) ∧ y.heap[gh]? = some (.cells #[.int .i64 t, .int .i64 0, .int .i64 (at1 fx dx t), .int .i64 (at1 fy dy t), .int .i64 (at1 fz dz t), .int .i64 (n0 t), .int .i64 (n1 t), .int .i64 (n2 t)] 104 (0, 0))) (by kernel_rfl) (⟨hr30_0, hr30_1, hr30_2, hr30_3, hr30_4⟩) (fun hS0 => ?_)
      obtain ⟨y31, hy31⟩ : ∃ y, y30.drew = y := ⟨_, rfl⟩
      have HU31 := Lib.hid (show Below w.heap.size w y31 by rw [← hy31]; exact HU30.out.drew)
      have hr31_0 : y31.heap[w.heap.size]? = some (.cells #[.int .i64 fx, .int .i64 fy, .int .i64 fz, .int .i64 dx, .int .i64 dy, .int .i64 dz, .int .i64 pt] 97 (0, 0)) := by rw [← hy31]; exact hr30_0
      have hr31_1 : y31.heap[w.heap.size + 1]? = some (.cells #[.int .i64 a0, .int .i64 a1, .int .i64 a2, .int .i64 a3, .int .i64 a4, .int .i64 a5, .int .i64 a6, .int .i64 a7, .int .i64 a8, .int .i64 a9, .int .i64 a10, .int .i64 a11, .int .i64 a12, .int .i64 a13, .int .i64 a14, .int .i64 a15, .int .i64 a16, .int .i64 a17, .int .i64 a18, .int .i64 a19, .int .i64 a20, .int .i64 a21, .int .i64 a22, .int .i64 a23] 64 (0, 0)) := by rw [← hy31]; exact hr30_1
      have hr31_2 : y31.heap[y1.heap.size]? = some (.cells #[.int .i64 fx, .int .i64 fy, .int .i64 fz, .int .i64 dx, .int .i64 dy, .int .i64 dz, .int .i64 pt] 101 (0, 0)) := by rw [← hy31]; exact hr30_2
      have hr31_3 : y31.heap[y3.heap.size]? = some (.cells #[.int .i64 (min (Pl.add fx (Pl.mul dx lo)) (Pl.add fx (Pl.mul dx hi))), .int .i64 (min (Pl.add fy (Pl.mul dy lo)) (Pl.add fy (Pl.mul dy hi))), .int .i64 (min (Pl.add fz (Pl.mul dz lo)) (Pl.add fz (Pl.mul dz hi))), .int .i64 (max (Pl.add fx (Pl.mul dx lo)) (Pl.add fx (Pl.mul dx hi))), .int .i64 (max (Pl.add fy (Pl.mul dy lo)) (Pl.add fy (Pl.mul dy hi))), .int .i64 (max (Pl.add fz (Pl.mul dz lo)) (Pl.add fz (Pl.mul dz hi)))] 73 (0, 0)) := by rw [← hy31]; exact hr30_3
      have hr31_4 : y31.heap[gh]? = some (.cells #[.int .i64 t, .int .i64 0, .int .i64 (at1 fx dx t), .int .i64 (at1 fy dy t), .int .i64 (at1 fz dz t), .int .i64 (n0 t), .int .i64 (n1 t), .int .i64 (n2 t)] 104 (0, 0)) := by rw [← hy31]; exact hr30_4
      rw [hy31] at hS0 ⊢
      clear hy31
      refine wpAnyH_take (i := 0) (v := .agg #[.int .i64 a0, .int .i64 a1, .int .i64 a2, .int .i64 a3, .int .i64 a4, .int .i64 a5, .int .i64 a6, .int .i64 a7, .int .i64 a8, .int .i64 a9, .int .i64 a10, .int .i64 a11, .int .i64 a12, .int .i64 a13, .int .i64 a14, .int .i64 a15, .int .i64 a16, .int .i64 a17, .int .i64 a18, .int .i64 a19, .int .i64 a20, .int .i64 a21, .int .i64 a22, .int .i64 a23]) rfl (by kernel_rfl) (by kernel_rfl) (by kernel_rfl) (fun _ _ _ h => h) (Lr.yieldsIf_load_row (by kernel_rfl) 64 (.tmp 6) rfl (w.heap.size + 1) rfl 64 #[.int .i64 a0, .int .i64 a1, .int .i64 a2, .int .i64 a3, .int .i64 a4, .int .i64 a5, .int .i64 a6, .int .i64 a7, .int .i64 a8, .int .i64 a9, .int .i64 a10, .int .i64 a11, .int .i64 a12, .int .i64 a13, .int .i64 a14, .int .i64 a15, .int .i64 a16, .int .i64 a17, .int .i64 a18, .int .i64 a19, .int .i64 a20, .int .i64 a21, .int .i64 a22, .int .i64 a23] _ (fun yy hh => hh.2.1) Try.underlying64 rfl (by kernel_rfl)) hS0 ?_
      go_simp
      refine wpAnyH_take (i := 2) (v := ?_) rfl (by kernel_rfl) (by kernel_rfl) (by kernel_rfl) (fun _ _ _ h => h) (Or.inl ⟨by kernel_rfl, by (intro wz hSz; go_simp; try with_reducible rfl)⟩) hS0 ?_
      go_simp
      refine wpAnyH_take (i := 3) (v := ?_) rfl (by kernel_rfl) (by kernel_rfl) (by kernel_rfl) (fun _ _ _ h => h) (Or.inl ⟨by kernel_rfl, by (intro wz hSz; have c2_0 := cell_of_row _ _ 0 _ _ _ hSz.2.2.1; have c2_1 := cell_of_row _ _ 1 _ _ _ hSz.2.2.1; have c2_2 := cell_of_row _ _ 2 _ _ _ hSz.2.2.1; have c2_3 := cell_of_row _ _ 3 _ _ _ hSz.2.2.1; have c2_4 := cell_of_row _ _ 4 _ _ _ hSz.2.2.1; have c2_5 := cell_of_row _ _ 5 _ _ _ hSz.2.2.1; have c2_6 := cell_of_row _ _ 6 _ _ _ hSz.2.2.1; simp at c2_0 c2_1 c2_2 c2_3 c2_4 c2_5 c2_6; go_simp; try with_reducible rfl)⟩) hS0 ?_
      go_simp
      refine wpAnyH_ready (rs := [1, 6]) (by kernel_rfl) (by simp) ?_
      refine AllReadyH.cons rfl (fun K hK => ?_) (AllReadyH.cons rfl (fun K hK => ?_) AllReadyH.nil)
      · skip
        go_simp
        go_wp2_with (go_at_call 25; refine (lmoving_any _ _ _ _ _ _ _ _ _ _ _ _ _ _ _ _ _ _ _ _ _ _ _ _ _ ).mono ?_; rintro e y32 ⟨rfl, hb32⟩)
        have hr32_0 := (hb32.block _ (lt_heap hr31_0)).trans hr31_0
        have hr32_1 := (hb32.block _ (lt_heap hr31_1)).trans hr31_1
        have hr32_2 := (hb32.block _ (lt_heap hr31_2)).trans hr31_2
        have hr32_3 := (hb32.block _ (lt_heap hr31_3)).trans hr31_3
        have hr32_4 := (hb32.block _ (lt_heap hr31_4)).trans hr31_4
        have HU32 := Lib.hid (HU31.out.trans (hb32.mono HU31.out.size))
        refine hK.out _ _ (⟨(hb32.block _ (lt_heap hS0.1)).trans hS0.1, (hb32.block _ (lt_heap hS0.2.1)).trans hS0.2.1, (hb32.block _ (lt_heap hS0.2.2.1)).trans hS0.2.2.1, (hb32.block _ (lt_heap hS0.2.2.2.1)).trans hS0.2.2.2.1, (hb32.block _ (lt_heap hS0.2.2.2.2)).trans hS0.2.2.2.2⟩) (fun hS32c => ?_)
        clear hK K
        refine wpAnyH_ready (rs := [4, 6]) (by kernel_rfl) (by simp) ?_
        refine AllReadyH.cons rfl (fun K hK => ?_) (AllReadyH.cons rfl (fun K hK => ?_) AllReadyH.nil)
        · skip
          go_simp
          go_wp2_with (go_at_call 43; refine (HM.out _).mono ?_; rintro e y33 ⟨rfl, hb33⟩)
          have hr33_0 := (hb33.block _ (lt_heap hr32_0)).trans hr32_0
          have hr33_1 := (hb33.block _ (lt_heap hr32_1)).trans hr32_1
          have hr33_2 := (hb33.block _ (lt_heap hr32_2)).trans hr32_2
          have hr33_3 := (hb33.block _ (lt_heap hr32_3)).trans hr32_3
          have hr33_4 := (hb33.block _ (lt_heap hr32_4)).trans hr32_4
          have HU33 := Lib.hid (HU32.out.trans (hb33.mono HU32.out.size))
          refine hK.out _ _ (⟨(hb33.block _ (lt_heap hS32c.1)).trans hS32c.1, (hb33.block _ (lt_heap hS32c.2.1)).trans hS32c.2.1, (hb33.block _ (lt_heap hS32c.2.2.1)).trans hS32c.2.2.1, (hb33.block _ (lt_heap hS32c.2.2.2.1)).trans hS32c.2.2.2.1, (hb33.block _ (lt_heap hS32c.2.2.2.2)).trans hS32c.2.2.2.2⟩) (fun hS33c => ?_)
          clear hK K
          refine wpAnyH_ready (rs := [5, 6]) (by kernel_rfl) (by simp) ?_
          refine AllReadyH.cons rfl (fun K hK => ?_) (AllReadyH.cons rfl (fun K hK => ?_) AllReadyH.nil)
          · skip
            go_simp
            go_wp2_with (go_at_call 42; refine (HA.out _).mono ?_; rintro e y34 ⟨rfl, hb34⟩)
            have hr34_0 := (hb34.block _ (lt_heap hr33_0)).trans hr33_0
            have hr34_1 := (hb34.block _ (lt_heap hr33_1)).trans hr33_1
            have hr34_2 := (hb34.block _ (lt_heap hr33_2)).trans hr33_2
            have hr34_3 := (hb34.block _ (lt_heap hr33_3)).trans hr33_3
            have hr34_4 := (hb34.block _ (lt_heap hr33_4)).trans hr33_4
            have HU34 := Lib.hid (HU33.out.trans (hb34.mono HU33.out.size))
            refine hK.out _ _ (⟨(hb34.block _ (lt_heap hS33c.1)).trans hS33c.1, (hb34.block _ (lt_heap hS33c.2.1)).trans hS33c.2.1, (hb34.block _ (lt_heap hS33c.2.2.1)).trans hS33c.2.2.1, (hb34.block _ (lt_heap hS33c.2.2.2.1)).trans hS33c.2.2.2.1, (hb34.block _ (lt_heap hS33c.2.2.2.2)).trans hS33c.2.2.2.2⟩) (fun hS34c => ?_)
            clear hK K
            refine wpAnyH_ready (rs := [6]) (by kernel_rfl) (by simp) ?_
            refine AllReadyH.cons rfl (fun K hK => ?_) AllReadyH.nil
            go_simp
            have hb35 := below_n1 y34 (.cells #[.int .i64 0, .int .i64 0, .int .i64 0, .int .i64 0, .int .i64 0, .int .i64 0] 73)
            have hN := heap_alloc_last y34 (.cells #[.int .i64 0, .int .i64 0, .int .i64 0, .int .i64 0, .int .i64 0, .int .i64 0] 73)
            obtain ⟨y35, hy35⟩ : ∃ y, y34.alloc (.cells #[.int .i64 0, .int .i64 0, .int .i64 0, .int .i64 0, .int .i64 0, .int .i64 0] 73) = y := ⟨_, rfl⟩
            rw [hy35] at hb35 hN ⊢
            clear hy35
            have hl35_0 := lt_heap hr34_0
            have hr35_0 := (hb35.block _ (lt_heap hr34_0)).trans hr34_0
            have hl35_1 := lt_heap hr34_1
            have hr35_1 := (hb35.block _ (lt_heap hr34_1)).trans hr34_1
            have hl35_2 := lt_heap hr34_2
            have hr35_2 := (hb35.block _ (lt_heap hr34_2)).trans hr34_2
            have hl35_3 := lt_heap hr34_3
            have hr35_3 := (hb35.block _ (lt_heap hr34_3)).trans hr34_3
            have hl35_4 := lt_heap hr34_4
            have hr35_4 := (hb35.block _ (lt_heap hr34_4)).trans hr34_4
            have hr35_5 := hN
            clear hN
            have HU35 := Lib.hid (HU34.out.trans (hb35.mono HU34.out.size))
            refine hK.out _ _ (⟨(hb35.block _ (lt_heap hS34c.1)).trans hS34c.1, (hb35.block _ (lt_heap hS34c.2.1)).trans hS34c.2.1, (hb35.block _ (lt_heap hS34c.2.2.1)).trans hS34c.2.2.1, (hb35.block _ (lt_heap hS34c.2.2.2.1)).trans hS34c.2.2.2.1, (hb35.block _ (lt_heap hS34c.2.2.2.2)).trans hS34c.2.2.2.2⟩) (fun hS35a => ?_)
            clear hK K
            refine wpAnyH_ready (rs := [7]) (by kernel_rfl) (by simp) ?_
            refine AllReadyH.cons rfl (fun K hK => ?_) AllReadyH.nil
            refine step_store_row rfl 73 (.tmp 18) (.tmp 65) rfl #[.int .i64 0, .int .i64 0, .int .i64 0, .int .i64 0, .int .i64 0, .int .i64 0] #[.int .i64 b0, .int .i64 b1, .int .i64 b2, .int .i64 b3, .int .i64 b4, .int .i64 b5] _ 73 hr35_5 rfl (by first | rfl | (go_simp; done) | (go_simp; rfl)) (by kernel_rfl) rfl (by simp [Value.oneCell']) ?_
            have hN := setRow_heap _ (y34.heap.size) _ #[.int .i64 b0, .int .i64 b1, .int .i64 b2, .int .i64 b3, .int .i64 b4, .int .i64 b5] _ _ hr35_5
            have hsz := HU35.out.size
            have HUx := below_setRow (g := y34.heap.size) HU35.out (by first | omega | (simp at *; omega)) #[.int .i64 b0, .int .i64 b1, .int .i64 b2, .int .i64 b3, .int .i64 b4, .int .i64 b5]
            obtain ⟨y36, hy36⟩ : ∃ y, y35.setRow (y34.heap.size) #[.int .i64 b0, .int .i64 b1, .int .i64 b2, .int .i64 b3, .int .i64 b4, .int .i64 b5] = y := ⟨_, rfl⟩
            have hO : ∀ k, k ≠ y34.heap.size → y36.heap[k]? = y35.heap[k]? := fun k hk => by rw [← hy36]; exact setRow_other _ _ _ _ hk
            rw [hy36] at hN HUx ⊢
            clear hy36
            have HU36 := Lib.hid HUx
            clear HUx
            have hr36_0 := (hO _ (by omega)).trans hr35_0
            have hr36_1 := (hO _ (by omega)).trans hr35_1
            have hr36_2 := (hO _ (by omega)).trans hr35_2
            have hr36_3 := (hO _ (by omega)).trans hr35_3
            have hr36_4 := (hO _ (by omega)).trans hr35_4
            have hr36_5 := hN
            clear hN
            refine hK.out _ _ (⟨(hO _ (by omega)).trans hS35a.1, (hO _ (by omega)).trans hS35a.2.1, (hO _ (by omega)).trans hS35a.2.2.1, (hO _ (by omega)).trans hS35a.2.2.2.1, (hO _ (by omega)).trans hS35a.2.2.2.2⟩) (fun hS36s => ?_)
            clear hK K
            refine wpAnyH_done (by kernel_rfl) ?_ _
            have c3_0 := cell_of_row _ _ 0 _ _ _ hr36_3
            have c3_1 := cell_of_row _ _ 1 _ _ _ hr36_3
            have c3_2 := cell_of_row _ _ 2 _ _ _ hr36_3
            have c3_3 := cell_of_row _ _ 3 _ _ _ hr36_3
            have c3_4 := cell_of_row _ _ 4 _ _ _ hr36_3
            have c3_5 := cell_of_row _ _ 5 _ _ _ hr36_3
            have c4_0 := cell_of_row _ _ 0 _ _ _ hr36_4
            have c4_1 := cell_of_row _ _ 1 _ _ _ hr36_4
            have c4_2 := cell_of_row _ _ 2 _ _ _ hr36_4
            have c4_3 := cell_of_row _ _ 3 _ _ _ hr36_4
            have c4_4 := cell_of_row _ _ 4 _ _ _ hr36_4
            have c4_5 := cell_of_row _ _ 5 _ _ _ hr36_4
            have c4_6 := cell_of_row _ _ 6 _ _ _ hr36_4
            have c4_7 := cell_of_row _ _ 7 _ _ _ hr36_4
            have c5_0 := cell_of_row _ _ 0 _ _ _ hr36_5
            have c5_1 := cell_of_row _ _ 1 _ _ _ hr36_5
            have c5_2 := cell_of_row _ _ 2 _ _ _ hr36_5
            have c5_3 := cell_of_row _ _ 3 _ _ _ hr36_5
            have c5_4 := cell_of_row _ _ 4 _ _ _ hr36_5
            have c5_5 := cell_of_row _ _ 5 _ _ _ hr36_5
            simp at c3_0 c3_1 c3_2 c3_3 c3_4 c3_5 c4_0 c4_1 c4_2 c4_3 c4_4 c4_5 c4_6 c4_7 c5_0 c5_1 c5_2 c5_3 c5_4 c5_5
            go_wp2_with fail
            refine (awake_any12 _).mono ?_
            rintro e y37 ⟨rfl, hb37⟩
            clear c3_0 c3_1 c3_2 c3_3 c3_4 c3_5 c4_0 c4_1 c4_2 c4_3 c4_4 c4_5 c4_6 c4_7 c5_0 c5_1 c5_2 c5_3 c5_4 c5_5
            have hr37_0 := (hb37.block _ (lt_heap hr36_0)).trans hr36_0
            have hr37_1 := (hb37.block _ (lt_heap hr36_1)).trans hr36_1
            have hr37_2 := (hb37.block _ (lt_heap hr36_2)).trans hr36_2
            have hr37_3 := (hb37.block _ (lt_heap hr36_3)).trans hr36_3
            have hr37_4 := (hb37.block _ (lt_heap hr36_4)).trans hr36_4
            have hr37_5 := (hb37.block _ (lt_heap hr36_5)).trans hr36_5
            have HU37 := Lib.hid (HU36.out.trans (hb37.mono HU36.out.size))
            clear hr36_0 hr36_1 hr36_2 hr36_3 hr36_4 hr36_5 HU36
            have c3_0 := cell_of_row _ _ 0 _ _ _ hr37_3
            have c3_1 := cell_of_row _ _ 1 _ _ _ hr37_3
            have c3_2 := cell_of_row _ _ 2 _ _ _ hr37_3
            have c3_3 := cell_of_row _ _ 3 _ _ _ hr37_3
            have c3_4 := cell_of_row _ _ 4 _ _ _ hr37_3
            have c3_5 := cell_of_row _ _ 5 _ _ _ hr37_3
            have c4_0 := cell_of_row _ _ 0 _ _ _ hr37_4
            have c4_1 := cell_of_row _ _ 1 _ _ _ hr37_4
            have c4_2 := cell_of_row _ _ 2 _ _ _ hr37_4
            have c4_3 := cell_of_row _ _ 3 _ _ _ hr37_4
            have c4_4 := cell_of_row _ _ 4 _ _ _ hr37_4
            have c4_5 := cell_of_row _ _ 5 _ _ _ hr37_4
            have c4_6 := cell_of_row _ _ 6 _ _ _ hr37_4
            have c4_7 := cell_of_row _ _ 7 _ _ _ hr37_4
            have c5_0 := cell_of_row _ _ 0 _ _ _ hr37_5
            have c5_1 := cell_of_row _ _ 1 _ _ _ hr37_5
            have c5_2 := cell_of_row _ _ 2 _ _ _ hr37_5
            have c5_3 := cell_of_row _ _ 3 _ _ _ hr37_5
            have c5_4 := cell_of_row _ _ 4 _ _ _ hr37_5
            have c5_5 := cell_of_row _ _ 5 _ _ _ hr37_5
            simp at c3_0 c3_1 c3_2 c3_3 c3_4 c3_5 c4_0 c4_1 c4_2 c4_3 c4_4 c4_5 c4_6 c4_7 c5_0 c5_1 c5_2 c5_3 c5_4 c5_5
            go_wp2_with fail
            refine (bhas_any _ _ _ _ _ _ _ _ _ _ ).mono ?_
            rintro e y38 ⟨rfl, hb38⟩
            clear c3_0 c3_1 c3_2 c3_3 c3_4 c3_5 c4_0 c4_1 c4_2 c4_3 c4_4 c4_5 c4_6 c4_7 c5_0 c5_1 c5_2 c5_3 c5_4 c5_5
            have hr38_0 := (hb38.block _ (lt_heap hr37_0)).trans hr37_0
            have hr38_1 := (hb38.block _ (lt_heap hr37_1)).trans hr37_1
            have hr38_2 := (hb38.block _ (lt_heap hr37_2)).trans hr37_2
            have hr38_3 := (hb38.block _ (lt_heap hr37_3)).trans hr37_3
            have hr38_4 := (hb38.block _ (lt_heap hr37_4)).trans hr37_4
            have hr38_5 := (hb38.block _ (lt_heap hr37_5)).trans hr37_5
            have HU38 := Lib.hid (HU37.out.trans (hb38.mono HU37.out.size))
            clear hr37_0 hr37_1 hr37_2 hr37_3 hr37_4 hr37_5 HU37
            rw [HP.out]
            have c3_0 := cell_of_row _ _ 0 _ _ _ hr38_3
            have c3_1 := cell_of_row _ _ 1 _ _ _ hr38_3
            have c3_2 := cell_of_row _ _ 2 _ _ _ hr38_3
            have c3_3 := cell_of_row _ _ 3 _ _ _ hr38_3
            have c3_4 := cell_of_row _ _ 4 _ _ _ hr38_3
            have c3_5 := cell_of_row _ _ 5 _ _ _ hr38_3
            have c4_0 := cell_of_row _ _ 0 _ _ _ hr38_4
            have c4_1 := cell_of_row _ _ 1 _ _ _ hr38_4
            have c4_2 := cell_of_row _ _ 2 _ _ _ hr38_4
            have c4_3 := cell_of_row _ _ 3 _ _ _ hr38_4
            have c4_4 := cell_of_row _ _ 4 _ _ _ hr38_4
            have c4_5 := cell_of_row _ _ 5 _ _ _ hr38_4
            have c4_6 := cell_of_row _ _ 6 _ _ _ hr38_4
            have c4_7 := cell_of_row _ _ 7 _ _ _ hr38_4
            have c5_0 := cell_of_row _ _ 0 _ _ _ hr38_5
            have c5_1 := cell_of_row _ _ 1 _ _ _ hr38_5
            have c5_2 := cell_of_row _ _ 2 _ _ _ hr38_5
            have c5_3 := cell_of_row _ _ 3 _ _ _ hr38_5
            have c5_4 := cell_of_row _ _ 4 _ _ _ hr38_5
            have c5_5 := cell_of_row _ _ 5 _ _ _ hr38_5
            simp at c3_0 c3_1 c3_2 c3_3 c3_4 c3_5 c4_0 c4_1 c4_2 c4_3 c4_4 c4_5 c4_6 c4_7 c5_0 c5_1 c5_2 c5_3 c5_4 c5_5
            go_wp2_with fail
            refine (bhas_any _ _ _ _ _ _ _ _ _ _ ).mono ?_
            rintro e y39 ⟨rfl, hb39⟩
            clear c3_0 c3_1 c3_2 c3_3 c3_4 c3_5 c4_0 c4_1 c4_2 c4_3 c4_4 c4_5 c4_6 c4_7 c5_0 c5_1 c5_2 c5_3 c5_4 c5_5
            have hr39_0 := (hb39.block _ (lt_heap hr38_0)).trans hr38_0
            have hr39_1 := (hb39.block _ (lt_heap hr38_1)).trans hr38_1
            have hr39_2 := (hb39.block _ (lt_heap hr38_2)).trans hr38_2
            have hr39_3 := (hb39.block _ (lt_heap hr38_3)).trans hr38_3
            have hr39_4 := (hb39.block _ (lt_heap hr38_4)).trans hr38_4
            have hr39_5 := (hb39.block _ (lt_heap hr38_5)).trans hr38_5
            have HU39 := Lib.hid (HU38.out.trans (hb39.mono HU38.out.size))
            clear hr38_0 hr38_1 hr38_2 hr38_3 hr38_4 hr38_5 HU38
            rw [show has6 (min (Pl.add fx (Pl.mul dx lo)) (Pl.add fx (Pl.mul dx hi))) (min (Pl.add fy (Pl.mul dy lo)) (Pl.add fy (Pl.mul dy hi))) (min (Pl.add fz (Pl.mul dz lo)) (Pl.add fz (Pl.mul dz hi))) (max (Pl.add fx (Pl.mul dx lo)) (Pl.add fx (Pl.mul dx hi))) (max (Pl.add fy (Pl.mul dy lo)) (Pl.add fy (Pl.mul dy hi))) (max (Pl.add fz (Pl.mul dz lo)) (Pl.add fz (Pl.mul dz hi))) (at1 fx dx t) (at1 fy dy t) (at1 fz dz t) = true from HS.out]
            have c3_0 := cell_of_row _ _ 0 _ _ _ hr39_3
            have c3_1 := cell_of_row _ _ 1 _ _ _ hr39_3
            have c3_2 := cell_of_row _ _ 2 _ _ _ hr39_3
            have c3_3 := cell_of_row _ _ 3 _ _ _ hr39_3
            have c3_4 := cell_of_row _ _ 4 _ _ _ hr39_3
            have c3_5 := cell_of_row _ _ 5 _ _ _ hr39_3
            have c5_0 := cell_of_row _ _ 0 _ _ _ hr39_5
            have c5_1 := cell_of_row _ _ 1 _ _ _ hr39_5
            have c5_2 := cell_of_row _ _ 2 _ _ _ hr39_5
            have c5_3 := cell_of_row _ _ 3 _ _ _ hr39_5
            have c5_4 := cell_of_row _ _ 4 _ _ _ hr39_5
            have c5_5 := cell_of_row _ _ 5 _ _ _ hr39_5
            simp at c3_0 c3_1 c3_2 c3_3 c3_4 c3_5 c5_0 c5_1 c5_2 c5_3 c5_4 c5_5
            go_wp2_with fail
            refine (bmeets_any _ _ _ _ _ _ _ _ _ _ _ _ _ ).mono ?_
            rintro e y40 ⟨rfl, hb40⟩
            clear c3_0 c3_1 c3_2 c3_3 c3_4 c3_5 c5_0 c5_1 c5_2 c5_3 c5_4 c5_5
            have hr40_0 := (hb40.block _ (lt_heap hr39_0)).trans hr39_0
            have hr40_1 := (hb40.block _ (lt_heap hr39_1)).trans hr39_1
            have hr40_2 := (hb40.block _ (lt_heap hr39_2)).trans hr39_2
            have hr40_3 := (hb40.block _ (lt_heap hr39_3)).trans hr39_3
            have hr40_4 := (hb40.block _ (lt_heap hr39_4)).trans hr39_4
            have hr40_5 := (hb40.block _ (lt_heap hr39_5)).trans hr39_5
            have HU40 := Lib.hid (HU39.out.trans (hb40.mono HU39.out.size))
            clear hr39_0 hr39_1 hr39_2 hr39_3 hr39_4 hr39_5 HU39
            rw [meets_of HP.out HS.out]
            go_wp2
            go_ret
            exact ⟨by simp, HU40.out⟩
          · skip
            go_simp
            have hb34 := below_n1 y33 (.cells #[.int .i64 0, .int .i64 0, .int .i64 0, .int .i64 0, .int .i64 0, .int .i64 0] 73)
            have hN := heap_alloc_last y33 (.cells #[.int .i64 0, .int .i64 0, .int .i64 0, .int .i64 0, .int .i64 0, .int .i64 0] 73)
            obtain ⟨y34, hy34⟩ : ∃ y, y33.alloc (.cells #[.int .i64 0, .int .i64 0, .int .i64 0, .int .i64 0, .int .i64 0, .int .i64 0] 73) = y := ⟨_, rfl⟩
            rw [hy34] at hb34 hN ⊢
            clear hy34
            have hl34_0 := lt_heap hr33_0
            have hr34_0 := (hb34.block _ (lt_heap hr33_0)).trans hr33_0
            have hl34_1 := lt_heap hr33_1
            have hr34_1 := (hb34.block _ (lt_heap hr33_1)).trans hr33_1
            have hl34_2 := lt_heap hr33_2
            have hr34_2 := (hb34.block _ (lt_heap hr33_2)).trans hr33_2
            have hl34_3 := lt_heap hr33_3
            have hr34_3 := (hb34.block _ (lt_heap hr33_3)).trans hr33_3
            have hl34_4 := lt_heap hr33_4
            have hr34_4 := (hb34.block _ (lt_heap hr33_4)).trans hr33_4
            have hr34_5 := hN
            clear hN
            have HU34 := Lib.hid (HU33.out.trans (hb34.mono HU33.out.size))
            refine hK.out _ _ (⟨(hb34.block _ (lt_heap hS33c.1)).trans hS33c.1, (hb34.block _ (lt_heap hS33c.2.1)).trans hS33c.2.1, (hb34.block _ (lt_heap hS33c.2.2.1)).trans hS33c.2.2.1, (hb34.block _ (lt_heap hS33c.2.2.2.1)).trans hS33c.2.2.2.1, (hb34.block _ (lt_heap hS33c.2.2.2.2)).trans hS33c.2.2.2.2⟩) (fun hS34a => ?_)
            clear hK K
            refine wpAnyH_ready (rs := [5]) (by kernel_rfl) (by simp) ?_
            refine AllReadyH.cons rfl (fun K hK => ?_) AllReadyH.nil
            go_simp
            go_wp2_with (go_at_call 42; refine (HA.out _).mono ?_; rintro e y35 ⟨rfl, hb35⟩)
            have hr35_0 := (hb35.block _ (lt_heap hr34_0)).trans hr34_0
            have hr35_1 := (hb35.block _ (lt_heap hr34_1)).trans hr34_1
            have hr35_2 := (hb35.block _ (lt_heap hr34_2)).trans hr34_2
            have hr35_3 := (hb35.block _ (lt_heap hr34_3)).trans hr34_3
            have hr35_4 := (hb35.block _ (lt_heap hr34_4)).trans hr34_4
            have hr35_5 := (hb35.block _ (lt_heap hr34_5)).trans hr34_5
            have HU35 := Lib.hid (HU34.out.trans (hb35.mono HU34.out.size))
            refine hK.out _ _ (⟨(hb35.block _ (lt_heap hS34a.1)).trans hS34a.1, (hb35.block _ (lt_heap hS34a.2.1)).trans hS34a.2.1, (hb35.block _ (lt_heap hS34a.2.2.1)).trans hS34a.2.2.1, (hb35.block _ (lt_heap hS34a.2.2.2.1)).trans hS34a.2.2.2.1, (hb35.block _ (lt_heap hS34a.2.2.2.2)).trans hS34a.2.2.2.2⟩) (fun hS35c => ?_)
            clear hK K
            refine wpAnyH_ready (rs := [7]) (by kernel_rfl) (by simp) ?_
            refine AllReadyH.cons rfl (fun K hK => ?_) AllReadyH.nil
            refine step_store_row rfl 73 (.tmp 18) (.tmp 65) rfl #[.int .i64 0, .int .i64 0, .int .i64 0, .int .i64 0, .int .i64 0, .int .i64 0] #[.int .i64 b0, .int .i64 b1, .int .i64 b2, .int .i64 b3, .int .i64 b4, .int .i64 b5] _ 73 hr35_5 rfl (by first | rfl | (go_simp; done) | (go_simp; rfl)) (by kernel_rfl) rfl (by simp [Value.oneCell']) ?_
            have hN := setRow_heap _ (y33.heap.size) _ #[.int .i64 b0, .int .i64 b1, .int .i64 b2, .int .i64 b3, .int .i64 b4, .int .i64 b5] _ _ hr35_5
            have hsz := HU35.out.size
            have HUx := below_setRow (g := y33.heap.size) HU35.out (by first | omega | (simp at *; omega)) #[.int .i64 b0, .int .i64 b1, .int .i64 b2, .int .i64 b3, .int .i64 b4, .int .i64 b5]
            obtain ⟨y36, hy36⟩ : ∃ y, y35.setRow (y33.heap.size) #[.int .i64 b0, .int .i64 b1, .int .i64 b2, .int .i64 b3, .int .i64 b4, .int .i64 b5] = y := ⟨_, rfl⟩
            have hO : ∀ k, k ≠ y33.heap.size → y36.heap[k]? = y35.heap[k]? := fun k hk => by rw [← hy36]; exact setRow_other _ _ _ _ hk
            rw [hy36] at hN HUx ⊢
            clear hy36
            have HU36 := Lib.hid HUx
            clear HUx
            have hr36_0 := (hO _ (by omega)).trans hr35_0
            have hr36_1 := (hO _ (by omega)).trans hr35_1
            have hr36_2 := (hO _ (by omega)).trans hr35_2
            have hr36_3 := (hO _ (by omega)).trans hr35_3
            have hr36_4 := (hO _ (by omega)).trans hr35_4
            have hr36_5 := hN
            clear hN
            refine hK.out _ _ (⟨(hO _ (by omega)).trans hS35c.1, (hO _ (by omega)).trans hS35c.2.1, (hO _ (by omega)).trans hS35c.2.2.1, (hO _ (by omega)).trans hS35c.2.2.2.1, (hO _ (by omega)).trans hS35c.2.2.2.2⟩) (fun hS36s => ?_)
            clear hK K
            refine wpAnyH_done (by kernel_rfl) ?_ _
            have c3_0 := cell_of_row _ _ 0 _ _ _ hr36_3
            have c3_1 := cell_of_row _ _ 1 _ _ _ hr36_3
            have c3_2 := cell_of_row _ _ 2 _ _ _ hr36_3
            have c3_3 := cell_of_row _ _ 3 _ _ _ hr36_3
            have c3_4 := cell_of_row _ _ 4 _ _ _ hr36_3
            have c3_5 := cell_of_row _ _ 5 _ _ _ hr36_3
            have c4_0 := cell_of_row _ _ 0 _ _ _ hr36_4
            have c4_1 := cell_of_row _ _ 1 _ _ _ hr36_4
            have c4_2 := cell_of_row _ _ 2 _ _ _ hr36_4
            have c4_3 := cell_of_row _ _ 3 _ _ _ hr36_4
            have c4_4 := cell_of_row _ _ 4 _ _ _ hr36_4
            have c4_5 := cell_of_row _ _ 5 _ _ _ hr36_4
            have c4_6 := cell_of_row _ _ 6 _ _ _ hr36_4
            have c4_7 := cell_of_row _ _ 7 _ _ _ hr36_4
            have c5_0 := cell_of_row _ _ 0 _ _ _ hr36_5
            have c5_1 := cell_of_row _ _ 1 _ _ _ hr36_5
            have c5_2 := cell_of_row _ _ 2 _ _ _ hr36_5
            have c5_3 := cell_of_row _ _ 3 _ _ _ hr36_5
            have c5_4 := cell_of_row _ _ 4 _ _ _ hr36_5
            have c5_5 := cell_of_row _ _ 5 _ _ _ hr36_5
            simp at c3_0 c3_1 c3_2 c3_3 c3_4 c3_5 c4_0 c4_1 c4_2 c4_3 c4_4 c4_5 c4_6 c4_7 c5_0 c5_1 c5_2 c5_3 c5_4 c5_5
            go_wp2_with fail
            refine (awake_any12 _).mono ?_
            rintro e y37 ⟨rfl, hb37⟩
            clear c3_0 c3_1 c3_2 c3_3 c3_4 c3_5 c4_0 c4_1 c4_2 c4_3 c4_4 c4_5 c4_6 c4_7 c5_0 c5_1 c5_2 c5_3 c5_4 c5_5
            have hr37_0 := (hb37.block _ (lt_heap hr36_0)).trans hr36_0
            have hr37_1 := (hb37.block _ (lt_heap hr36_1)).trans hr36_1
            have hr37_2 := (hb37.block _ (lt_heap hr36_2)).trans hr36_2
            have hr37_3 := (hb37.block _ (lt_heap hr36_3)).trans hr36_3
            have hr37_4 := (hb37.block _ (lt_heap hr36_4)).trans hr36_4
            have hr37_5 := (hb37.block _ (lt_heap hr36_5)).trans hr36_5
            have HU37 := Lib.hid (HU36.out.trans (hb37.mono HU36.out.size))
            clear hr36_0 hr36_1 hr36_2 hr36_3 hr36_4 hr36_5 HU36
            have c3_0 := cell_of_row _ _ 0 _ _ _ hr37_3
            have c3_1 := cell_of_row _ _ 1 _ _ _ hr37_3
            have c3_2 := cell_of_row _ _ 2 _ _ _ hr37_3
            have c3_3 := cell_of_row _ _ 3 _ _ _ hr37_3
            have c3_4 := cell_of_row _ _ 4 _ _ _ hr37_3
            have c3_5 := cell_of_row _ _ 5 _ _ _ hr37_3
            have c4_0 := cell_of_row _ _ 0 _ _ _ hr37_4
            have c4_1 := cell_of_row _ _ 1 _ _ _ hr37_4
            have c4_2 := cell_of_row _ _ 2 _ _ _ hr37_4
            have c4_3 := cell_of_row _ _ 3 _ _ _ hr37_4
            have c4_4 := cell_of_row _ _ 4 _ _ _ hr37_4
            have c4_5 := cell_of_row _ _ 5 _ _ _ hr37_4
            have c4_6 := cell_of_row _ _ 6 _ _ _ hr37_4
            have c4_7 := cell_of_row _ _ 7 _ _ _ hr37_4
            have c5_0 := cell_of_row _ _ 0 _ _ _ hr37_5
            have c5_1 := cell_of_row _ _ 1 _ _ _ hr37_5
            have c5_2 := cell_of_row _ _ 2 _ _ _ hr37_5
            have c5_3 := cell_of_row _ _ 3 _ _ _ hr37_5
            have c5_4 := cell_of_row _ _ 4 _ _ _ hr37_5
            have c5_5 := cell_of_row _ _ 5 _ _ _ hr37_5
            simp at c3_0 c3_1 c3_2 c3_3 c3_4 c3_5 c4_0 c4_1 c4_2 c4_3 c4_4 c4_5 c4_6 c4_7 c5_0 c5_1 c5_2 c5_3 c5_4 c5_5
            go_wp2_with fail
            refine (bhas_any _ _ _ _ _ _ _ _ _ _ ).mono ?_
            rintro e y38 ⟨rfl, hb38⟩
            clear c3_0 c3_1 c3_2 c3_3 c3_4 c3_5 c4_0 c4_1 c4_2 c4_3 c4_4 c4_5 c4_6 c4_7 c5_0 c5_1 c5_2 c5_3 c5_4 c5_5
            have hr38_0 := (hb38.block _ (lt_heap hr37_0)).trans hr37_0
            have hr38_1 := (hb38.block _ (lt_heap hr37_1)).trans hr37_1
            have hr38_2 := (hb38.block _ (lt_heap hr37_2)).trans hr37_2
            have hr38_3 := (hb38.block _ (lt_heap hr37_3)).trans hr37_3
            have hr38_4 := (hb38.block _ (lt_heap hr37_4)).trans hr37_4
            have hr38_5 := (hb38.block _ (lt_heap hr37_5)).trans hr37_5
            have HU38 := Lib.hid (HU37.out.trans (hb38.mono HU37.out.size))
            clear hr37_0 hr37_1 hr37_2 hr37_3 hr37_4 hr37_5 HU37
            rw [HP.out]
            have c3_0 := cell_of_row _ _ 0 _ _ _ hr38_3
            have c3_1 := cell_of_row _ _ 1 _ _ _ hr38_3
            have c3_2 := cell_of_row _ _ 2 _ _ _ hr38_3
            have c3_3 := cell_of_row _ _ 3 _ _ _ hr38_3
            have c3_4 := cell_of_row _ _ 4 _ _ _ hr38_3
            have c3_5 := cell_of_row _ _ 5 _ _ _ hr38_3
            have c4_0 := cell_of_row _ _ 0 _ _ _ hr38_4
            have c4_1 := cell_of_row _ _ 1 _ _ _ hr38_4
            have c4_2 := cell_of_row _ _ 2 _ _ _ hr38_4
            have c4_3 := cell_of_row _ _ 3 _ _ _ hr38_4
            have c4_4 := cell_of_row _ _ 4 _ _ _ hr38_4
            have c4_5 := cell_of_row _ _ 5 _ _ _ hr38_4
            have c4_6 := cell_of_row _ _ 6 _ _ _ hr38_4
            have c4_7 := cell_of_row _ _ 7 _ _ _ hr38_4
            have c5_0 := cell_of_row _ _ 0 _ _ _ hr38_5
            have c5_1 := cell_of_row _ _ 1 _ _ _ hr38_5
            have c5_2 := cell_of_row _ _ 2 _ _ _ hr38_5
            have c5_3 := cell_of_row _ _ 3 _ _ _ hr38_5
            have c5_4 := cell_of_row _ _ 4 _ _ _ hr38_5
            have c5_5 := cell_of_row _ _ 5 _ _ _ hr38_5
            simp at c3_0 c3_1 c3_2 c3_3 c3_4 c3_5 c4_0 c4_1 c4_2 c4_3 c4_4 c4_5 c4_6 c4_7 c5_0 c5_1 c5_2 c5_3 c5_4 c5_5
            go_wp2_with fail
            refine (bhas_any _ _ _ _ _ _ _ _ _ _ ).mono ?_
            rintro e y39 ⟨rfl, hb39⟩
            clear c3_0 c3_1 c3_2 c3_3 c3_4 c3_5 c4_0 c4_1 c4_2 c4_3 c4_4 c4_5 c4_6 c4_7 c5_0 c5_1 c5_2 c5_3 c5_4 c5_5
            have hr39_0 := (hb39.block _ (lt_heap hr38_0)).trans hr38_0
            have hr39_1 := (hb39.block _ (lt_heap hr38_1)).trans hr38_1
            have hr39_2 := (hb39.block _ (lt_heap hr38_2)).trans hr38_2
            have hr39_3 := (hb39.block _ (lt_heap hr38_3)).trans hr38_3
            have hr39_4 := (hb39.block _ (lt_heap hr38_4)).trans hr38_4
            have hr39_5 := (hb39.block _ (lt_heap hr38_5)).trans hr38_5
            have HU39 := Lib.hid (HU38.out.trans (hb39.mono HU38.out.size))
            clear hr38_0 hr38_1 hr38_2 hr38_3 hr38_4 hr38_5 HU38
            rw [show has6 (min (Pl.add fx (Pl.mul dx lo)) (Pl.add fx (Pl.mul dx hi))) (min (Pl.add fy (Pl.mul dy lo)) (Pl.add fy (Pl.mul dy hi))) (min (Pl.add fz (Pl.mul dz lo)) (Pl.add fz (Pl.mul dz hi))) (max (Pl.add fx (Pl.mul dx lo)) (Pl.add fx (Pl.mul dx hi))) (max (Pl.add fy (Pl.mul dy lo)) (Pl.add fy (Pl.mul dy hi))) (max (Pl.add fz (Pl.mul dz lo)) (Pl.add fz (Pl.mul dz hi))) (at1 fx dx t) (at1 fy dy t) (at1 fz dz t) = true from HS.out]
            have c3_0 := cell_of_row _ _ 0 _ _ _ hr39_3
            have c3_1 := cell_of_row _ _ 1 _ _ _ hr39_3
            have c3_2 := cell_of_row _ _ 2 _ _ _ hr39_3
            have c3_3 := cell_of_row _ _ 3 _ _ _ hr39_3
            have c3_4 := cell_of_row _ _ 4 _ _ _ hr39_3
            have c3_5 := cell_of_row _ _ 5 _ _ _ hr39_3
            have c5_0 := cell_of_row _ _ 0 _ _ _ hr39_5
            have c5_1 := cell_of_row _ _ 1 _ _ _ hr39_5
            have c5_2 := cell_of_row _ _ 2 _ _ _ hr39_5
            have c5_3 := cell_of_row _ _ 3 _ _ _ hr39_5
            have c5_4 := cell_of_row _ _ 4 _ _ _ hr39_5
            have c5_5 := cell_of_row _ _ 5 _ _ _ hr39_5
            simp at c3_0 c3_1 c3_2 c3_3 c3_4 c3_5 c5_0 c5_1 c5_2 c5_3 c5_4 c5_5
            go_wp2_with fail
            refine (bmeets_any _ _ _ _ _ _ _ _ _ _ _ _ _ ).mono ?_
            rintro e y40 ⟨rfl, hb40⟩
            clear c3_0 c3_1 c3_2 c3_3 c3_4 c3_5 c5_0 c5_1 c5_2 c5_3 c5_4 c5_5
            have hr40_0 := (hb40.block _ (lt_heap hr39_0)).trans hr39_0
            have hr40_1 := (hb40.block _ (lt_heap hr39_1)).trans hr39_1
            have hr40_2 := (hb40.block _ (lt_heap hr39_2)).trans hr39_2
            have hr40_3 := (hb40.block _ (lt_heap hr39_3)).trans hr39_3
            have hr40_4 := (hb40.block _ (lt_heap hr39_4)).trans hr39_4
            have hr40_5 := (hb40.block _ (lt_heap hr39_5)).trans hr39_5
            have HU40 := Lib.hid (HU39.out.trans (hb40.mono HU39.out.size))
            clear hr39_0 hr39_1 hr39_2 hr39_3 hr39_4 hr39_5 HU39
            rw [meets_of HP.out HS.out]
            go_wp2
            go_ret
            exact ⟨by simp, HU40.out⟩
        · skip
          go_simp
          have hb33 := below_n1 y32 (.cells #[.int .i64 0, .int .i64 0, .int .i64 0, .int .i64 0, .int .i64 0, .int .i64 0] 73)
          have hN := heap_alloc_last y32 (.cells #[.int .i64 0, .int .i64 0, .int .i64 0, .int .i64 0, .int .i64 0, .int .i64 0] 73)
          obtain ⟨y33, hy33⟩ : ∃ y, y32.alloc (.cells #[.int .i64 0, .int .i64 0, .int .i64 0, .int .i64 0, .int .i64 0, .int .i64 0] 73) = y := ⟨_, rfl⟩
          rw [hy33] at hb33 hN ⊢
          clear hy33
          have hl33_0 := lt_heap hr32_0
          have hr33_0 := (hb33.block _ (lt_heap hr32_0)).trans hr32_0
          have hl33_1 := lt_heap hr32_1
          have hr33_1 := (hb33.block _ (lt_heap hr32_1)).trans hr32_1
          have hl33_2 := lt_heap hr32_2
          have hr33_2 := (hb33.block _ (lt_heap hr32_2)).trans hr32_2
          have hl33_3 := lt_heap hr32_3
          have hr33_3 := (hb33.block _ (lt_heap hr32_3)).trans hr32_3
          have hl33_4 := lt_heap hr32_4
          have hr33_4 := (hb33.block _ (lt_heap hr32_4)).trans hr32_4
          have hr33_5 := hN
          clear hN
          have HU33 := Lib.hid (HU32.out.trans (hb33.mono HU32.out.size))
          refine hK.out _ _ (⟨(hb33.block _ (lt_heap hS32c.1)).trans hS32c.1, (hb33.block _ (lt_heap hS32c.2.1)).trans hS32c.2.1, (hb33.block _ (lt_heap hS32c.2.2.1)).trans hS32c.2.2.1, (hb33.block _ (lt_heap hS32c.2.2.2.1)).trans hS32c.2.2.2.1, (hb33.block _ (lt_heap hS32c.2.2.2.2)).trans hS32c.2.2.2.2⟩) (fun hS33a => ?_)
          clear hK K
          refine wpAnyH_ready (rs := [4]) (by kernel_rfl) (by simp) ?_
          refine AllReadyH.cons rfl (fun K hK => ?_) AllReadyH.nil
          go_simp
          go_wp2_with (go_at_call 43; refine (HM.out _).mono ?_; rintro e y34 ⟨rfl, hb34⟩)
          have hr34_0 := (hb34.block _ (lt_heap hr33_0)).trans hr33_0
          have hr34_1 := (hb34.block _ (lt_heap hr33_1)).trans hr33_1
          have hr34_2 := (hb34.block _ (lt_heap hr33_2)).trans hr33_2
          have hr34_3 := (hb34.block _ (lt_heap hr33_3)).trans hr33_3
          have hr34_4 := (hb34.block _ (lt_heap hr33_4)).trans hr33_4
          have hr34_5 := (hb34.block _ (lt_heap hr33_5)).trans hr33_5
          have HU34 := Lib.hid (HU33.out.trans (hb34.mono HU33.out.size))
          refine hK.out _ _ (⟨(hb34.block _ (lt_heap hS33a.1)).trans hS33a.1, (hb34.block _ (lt_heap hS33a.2.1)).trans hS33a.2.1, (hb34.block _ (lt_heap hS33a.2.2.1)).trans hS33a.2.2.1, (hb34.block _ (lt_heap hS33a.2.2.2.1)).trans hS33a.2.2.2.1, (hb34.block _ (lt_heap hS33a.2.2.2.2)).trans hS33a.2.2.2.2⟩) (fun hS34c => ?_)
          clear hK K
          refine wpAnyH_ready (rs := [5]) (by kernel_rfl) (by simp) ?_
          refine AllReadyH.cons rfl (fun K hK => ?_) AllReadyH.nil
          go_simp
          go_wp2_with (go_at_call 42; refine (HA.out _).mono ?_; rintro e y35 ⟨rfl, hb35⟩)
          have hr35_0 := (hb35.block _ (lt_heap hr34_0)).trans hr34_0
          have hr35_1 := (hb35.block _ (lt_heap hr34_1)).trans hr34_1
          have hr35_2 := (hb35.block _ (lt_heap hr34_2)).trans hr34_2
          have hr35_3 := (hb35.block _ (lt_heap hr34_3)).trans hr34_3
          have hr35_4 := (hb35.block _ (lt_heap hr34_4)).trans hr34_4
          have hr35_5 := (hb35.block _ (lt_heap hr34_5)).trans hr34_5
          have HU35 := Lib.hid (HU34.out.trans (hb35.mono HU34.out.size))
          refine hK.out _ _ (⟨(hb35.block _ (lt_heap hS34c.1)).trans hS34c.1, (hb35.block _ (lt_heap hS34c.2.1)).trans hS34c.2.1, (hb35.block _ (lt_heap hS34c.2.2.1)).trans hS34c.2.2.1, (hb35.block _ (lt_heap hS34c.2.2.2.1)).trans hS34c.2.2.2.1, (hb35.block _ (lt_heap hS34c.2.2.2.2)).trans hS34c.2.2.2.2⟩) (fun hS35c => ?_)
          clear hK K
          refine wpAnyH_ready (rs := [7]) (by kernel_rfl) (by simp) ?_
          refine AllReadyH.cons rfl (fun K hK => ?_) AllReadyH.nil
          refine step_store_row rfl 73 (.tmp 18) (.tmp 65) rfl #[.int .i64 0, .int .i64 0, .int .i64 0, .int .i64 0, .int .i64 0, .int .i64 0] #[.int .i64 b0, .int .i64 b1, .int .i64 b2, .int .i64 b3, .int .i64 b4, .int .i64 b5] _ 73 hr35_5 rfl (by first | rfl | (go_simp; done) | (go_simp; rfl)) (by kernel_rfl) rfl (by simp [Value.oneCell']) ?_
          have hN := setRow_heap _ (y32.heap.size) _ #[.int .i64 b0, .int .i64 b1, .int .i64 b2, .int .i64 b3, .int .i64 b4, .int .i64 b5] _ _ hr35_5
          have hsz := HU35.out.size
          have HUx := below_setRow (g := y32.heap.size) HU35.out (by first | omega | (simp at *; omega)) #[.int .i64 b0, .int .i64 b1, .int .i64 b2, .int .i64 b3, .int .i64 b4, .int .i64 b5]
          obtain ⟨y36, hy36⟩ : ∃ y, y35.setRow (y32.heap.size) #[.int .i64 b0, .int .i64 b1, .int .i64 b2, .int .i64 b3, .int .i64 b4, .int .i64 b5] = y := ⟨_, rfl⟩
          have hO : ∀ k, k ≠ y32.heap.size → y36.heap[k]? = y35.heap[k]? := fun k hk => by rw [← hy36]; exact setRow_other _ _ _ _ hk
          rw [hy36] at hN HUx ⊢
          clear hy36
          have HU36 := Lib.hid HUx
          clear HUx
          have hr36_0 := (hO _ (by omega)).trans hr35_0
          have hr36_1 := (hO _ (by omega)).trans hr35_1
          have hr36_2 := (hO _ (by omega)).trans hr35_2
          have hr36_3 := (hO _ (by omega)).trans hr35_3
          have hr36_4 := (hO _ (by omega)).trans hr35_4
          have hr36_5 := hN
          clear hN
          refine hK.out _ _ (⟨(hO _ (by omega)).trans hS35c.1, (hO _ (by omega)).trans hS35c.2.1, (hO _ (by omega)).trans hS35c.2.2.1, (hO _ (by omega)).trans hS35c.2.2.2.1, (hO _ (by omega)).trans hS35c.2.2.2.2⟩) (fun hS36s => ?_)
          clear hK K
          refine wpAnyH_done (by kernel_rfl) ?_ _
          have c3_0 := cell_of_row _ _ 0 _ _ _ hr36_3
          have c3_1 := cell_of_row _ _ 1 _ _ _ hr36_3
          have c3_2 := cell_of_row _ _ 2 _ _ _ hr36_3
          have c3_3 := cell_of_row _ _ 3 _ _ _ hr36_3
          have c3_4 := cell_of_row _ _ 4 _ _ _ hr36_3
          have c3_5 := cell_of_row _ _ 5 _ _ _ hr36_3
          have c4_0 := cell_of_row _ _ 0 _ _ _ hr36_4
          have c4_1 := cell_of_row _ _ 1 _ _ _ hr36_4
          have c4_2 := cell_of_row _ _ 2 _ _ _ hr36_4
          have c4_3 := cell_of_row _ _ 3 _ _ _ hr36_4
          have c4_4 := cell_of_row _ _ 4 _ _ _ hr36_4
          have c4_5 := cell_of_row _ _ 5 _ _ _ hr36_4
          have c4_6 := cell_of_row _ _ 6 _ _ _ hr36_4
          have c4_7 := cell_of_row _ _ 7 _ _ _ hr36_4
          have c5_0 := cell_of_row _ _ 0 _ _ _ hr36_5
          have c5_1 := cell_of_row _ _ 1 _ _ _ hr36_5
          have c5_2 := cell_of_row _ _ 2 _ _ _ hr36_5
          have c5_3 := cell_of_row _ _ 3 _ _ _ hr36_5
          have c5_4 := cell_of_row _ _ 4 _ _ _ hr36_5
          have c5_5 := cell_of_row _ _ 5 _ _ _ hr36_5
          simp at c3_0 c3_1 c3_2 c3_3 c3_4 c3_5 c4_0 c4_1 c4_2 c4_3 c4_4 c4_5 c4_6 c4_7 c5_0 c5_1 c5_2 c5_3 c5_4 c5_5
          go_wp2_with fail
          refine (awake_any12 _).mono ?_
          rintro e y37 ⟨rfl, hb37⟩
          clear c3_0 c3_1 c3_2 c3_3 c3_4 c3_5 c4_0 c4_1 c4_2 c4_3 c4_4 c4_5 c4_6 c4_7 c5_0 c5_1 c5_2 c5_3 c5_4 c5_5
          have hr37_0 := (hb37.block _ (lt_heap hr36_0)).trans hr36_0
          have hr37_1 := (hb37.block _ (lt_heap hr36_1)).trans hr36_1
          have hr37_2 := (hb37.block _ (lt_heap hr36_2)).trans hr36_2
          have hr37_3 := (hb37.block _ (lt_heap hr36_3)).trans hr36_3
          have hr37_4 := (hb37.block _ (lt_heap hr36_4)).trans hr36_4
          have hr37_5 := (hb37.block _ (lt_heap hr36_5)).trans hr36_5
          have HU37 := Lib.hid (HU36.out.trans (hb37.mono HU36.out.size))
          clear hr36_0 hr36_1 hr36_2 hr36_3 hr36_4 hr36_5 HU36
          have c3_0 := cell_of_row _ _ 0 _ _ _ hr37_3
          have c3_1 := cell_of_row _ _ 1 _ _ _ hr37_3
          have c3_2 := cell_of_row _ _ 2 _ _ _ hr37_3
          have c3_3 := cell_of_row _ _ 3 _ _ _ hr37_3
          have c3_4 := cell_of_row _ _ 4 _ _ _ hr37_3
          have c3_5 := cell_of_row _ _ 5 _ _ _ hr37_3
          have c4_0 := cell_of_row _ _ 0 _ _ _ hr37_4
          have c4_1 := cell_of_row _ _ 1 _ _ _ hr37_4
          have c4_2 := cell_of_row _ _ 2 _ _ _ hr37_4
          have c4_3 := cell_of_row _ _ 3 _ _ _ hr37_4
          have c4_4 := cell_of_row _ _ 4 _ _ _ hr37_4
          have c4_5 := cell_of_row _ _ 5 _ _ _ hr37_4
          have c4_6 := cell_of_row _ _ 6 _ _ _ hr37_4
          have c4_7 := cell_of_row _ _ 7 _ _ _ hr37_4
          have c5_0 := cell_of_row _ _ 0 _ _ _ hr37_5
          have c5_1 := cell_of_row _ _ 1 _ _ _ hr37_5
          have c5_2 := cell_of_row _ _ 2 _ _ _ hr37_5
          have c5_3 := cell_of_row _ _ 3 _ _ _ hr37_5
          have c5_4 := cell_of_row _ _ 4 _ _ _ hr37_5
          have c5_5 := cell_of_row _ _ 5 _ _ _ hr37_5
          simp at c3_0 c3_1 c3_2 c3_3 c3_4 c3_5 c4_0 c4_1 c4_2 c4_3 c4_4 c4_5 c4_6 c4_7 c5_0 c5_1 c5_2 c5_3 c5_4 c5_5
          go_wp2_with fail
          refine (bhas_any _ _ _ _ _ _ _ _ _ _ ).mono ?_
          rintro e y38 ⟨rfl, hb38⟩
          clear c3_0 c3_1 c3_2 c3_3 c3_4 c3_5 c4_0 c4_1 c4_2 c4_3 c4_4 c4_5 c4_6 c4_7 c5_0 c5_1 c5_2 c5_3 c5_4 c5_5
          have hr38_0 := (hb38.block _ (lt_heap hr37_0)).trans hr37_0
          have hr38_1 := (hb38.block _ (lt_heap hr37_1)).trans hr37_1
          have hr38_2 := (hb38.block _ (lt_heap hr37_2)).trans hr37_2
          have hr38_3 := (hb38.block _ (lt_heap hr37_3)).trans hr37_3
          have hr38_4 := (hb38.block _ (lt_heap hr37_4)).trans hr37_4
          have hr38_5 := (hb38.block _ (lt_heap hr37_5)).trans hr37_5
          have HU38 := Lib.hid (HU37.out.trans (hb38.mono HU37.out.size))
          clear hr37_0 hr37_1 hr37_2 hr37_3 hr37_4 hr37_5 HU37
          rw [HP.out]
          have c3_0 := cell_of_row _ _ 0 _ _ _ hr38_3
          have c3_1 := cell_of_row _ _ 1 _ _ _ hr38_3
          have c3_2 := cell_of_row _ _ 2 _ _ _ hr38_3
          have c3_3 := cell_of_row _ _ 3 _ _ _ hr38_3
          have c3_4 := cell_of_row _ _ 4 _ _ _ hr38_3
          have c3_5 := cell_of_row _ _ 5 _ _ _ hr38_3
          have c4_0 := cell_of_row _ _ 0 _ _ _ hr38_4
          have c4_1 := cell_of_row _ _ 1 _ _ _ hr38_4
          have c4_2 := cell_of_row _ _ 2 _ _ _ hr38_4
          have c4_3 := cell_of_row _ _ 3 _ _ _ hr38_4
          have c4_4 := cell_of_row _ _ 4 _ _ _ hr38_4
          have c4_5 := cell_of_row _ _ 5 _ _ _ hr38_4
          have c4_6 := cell_of_row _ _ 6 _ _ _ hr38_4
          have c4_7 := cell_of_row _ _ 7 _ _ _ hr38_4
          have c5_0 := cell_of_row _ _ 0 _ _ _ hr38_5
          have c5_1 := cell_of_row _ _ 1 _ _ _ hr38_5
          have c5_2 := cell_of_row _ _ 2 _ _ _ hr38_5
          have c5_3 := cell_of_row _ _ 3 _ _ _ hr38_5
          have c5_4 := cell_of_row _ _ 4 _ _ _ hr38_5
          have c5_5 := cell_of_row _ _ 5 _ _ _ hr38_5
          simp at c3_0 c3_1 c3_2 c3_3 c3_4 c3_5 c4_0 c4_1 c4_2 c4_3 c4_4 c4_5 c4_6 c4_7 c5_0 c5_1 c5_2 c5_3 c5_4 c5_5
          go_wp2_with fail
          refine (bhas_any _ _ _ _ _ _ _ _ _ _ ).mono ?_
          rintro e y39 ⟨rfl, hb39⟩
          clear c3_0 c3_1 c3_2 c3_3 c3_4 c3_5 c4_0 c4_1 c4_2 c4_3 c4_4 c4_5 c4_6 c4_7 c5_0 c5_1 c5_2 c5_3 c5_4 c5_5
          have hr39_0 := (hb39.block _ (lt_heap hr38_0)).trans hr38_0
          have hr39_1 := (hb39.block _ (lt_heap hr38_1)).trans hr38_1
          have hr39_2 := (hb39.block _ (lt_heap hr38_2)).trans hr38_2
          have hr39_3 := (hb39.block _ (lt_heap hr38_3)).trans hr38_3
          have hr39_4 := (hb39.block _ (lt_heap hr38_4)).trans hr38_4
          have hr39_5 := (hb39.block _ (lt_heap hr38_5)).trans hr38_5
          have HU39 := Lib.hid (HU38.out.trans (hb39.mono HU38.out.size))
          clear hr38_0 hr38_1 hr38_2 hr38_3 hr38_4 hr38_5 HU38
          rw [show has6 (min (Pl.add fx (Pl.mul dx lo)) (Pl.add fx (Pl.mul dx hi))) (min (Pl.add fy (Pl.mul dy lo)) (Pl.add fy (Pl.mul dy hi))) (min (Pl.add fz (Pl.mul dz lo)) (Pl.add fz (Pl.mul dz hi))) (max (Pl.add fx (Pl.mul dx lo)) (Pl.add fx (Pl.mul dx hi))) (max (Pl.add fy (Pl.mul dy lo)) (Pl.add fy (Pl.mul dy hi))) (max (Pl.add fz (Pl.mul dz lo)) (Pl.add fz (Pl.mul dz hi))) (at1 fx dx t) (at1 fy dy t) (at1 fz dz t) = true from HS.out]
          have c3_0 := cell_of_row _ _ 0 _ _ _ hr39_3
          have c3_1 := cell_of_row _ _ 1 _ _ _ hr39_3
          have c3_2 := cell_of_row _ _ 2 _ _ _ hr39_3
          have c3_3 := cell_of_row _ _ 3 _ _ _ hr39_3
          have c3_4 := cell_of_row _ _ 4 _ _ _ hr39_3
          have c3_5 := cell_of_row _ _ 5 _ _ _ hr39_3
          have c5_0 := cell_of_row _ _ 0 _ _ _ hr39_5
          have c5_1 := cell_of_row _ _ 1 _ _ _ hr39_5
          have c5_2 := cell_of_row _ _ 2 _ _ _ hr39_5
          have c5_3 := cell_of_row _ _ 3 _ _ _ hr39_5
          have c5_4 := cell_of_row _ _ 4 _ _ _ hr39_5
          have c5_5 := cell_of_row _ _ 5 _ _ _ hr39_5
          simp at c3_0 c3_1 c3_2 c3_3 c3_4 c3_5 c5_0 c5_1 c5_2 c5_3 c5_4 c5_5
          go_wp2_with fail
          refine (bmeets_any _ _ _ _ _ _ _ _ _ _ _ _ _ ).mono ?_
          rintro e y40 ⟨rfl, hb40⟩
          clear c3_0 c3_1 c3_2 c3_3 c3_4 c3_5 c5_0 c5_1 c5_2 c5_3 c5_4 c5_5
          have hr40_0 := (hb40.block _ (lt_heap hr39_0)).trans hr39_0
          have hr40_1 := (hb40.block _ (lt_heap hr39_1)).trans hr39_1
          have hr40_2 := (hb40.block _ (lt_heap hr39_2)).trans hr39_2
          have hr40_3 := (hb40.block _ (lt_heap hr39_3)).trans hr39_3
          have hr40_4 := (hb40.block _ (lt_heap hr39_4)).trans hr39_4
          have hr40_5 := (hb40.block _ (lt_heap hr39_5)).trans hr39_5
          have HU40 := Lib.hid (HU39.out.trans (hb40.mono HU39.out.size))
          clear hr39_0 hr39_1 hr39_2 hr39_3 hr39_4 hr39_5 HU39
          rw [meets_of HP.out HS.out]
          go_wp2
          go_ret
          exact ⟨by simp, HU40.out⟩
      · skip
        go_simp
        have hb32 := below_n1 y31 (.cells #[.int .i64 0, .int .i64 0, .int .i64 0, .int .i64 0, .int .i64 0, .int .i64 0] 73)
        have hN := heap_alloc_last y31 (.cells #[.int .i64 0, .int .i64 0, .int .i64 0, .int .i64 0, .int .i64 0, .int .i64 0] 73)
        obtain ⟨y32, hy32⟩ : ∃ y, y31.alloc (.cells #[.int .i64 0, .int .i64 0, .int .i64 0, .int .i64 0, .int .i64 0, .int .i64 0] 73) = y := ⟨_, rfl⟩
        rw [hy32] at hb32 hN ⊢
        clear hy32
        have hl32_0 := lt_heap hr31_0
        have hr32_0 := (hb32.block _ (lt_heap hr31_0)).trans hr31_0
        have hl32_1 := lt_heap hr31_1
        have hr32_1 := (hb32.block _ (lt_heap hr31_1)).trans hr31_1
        have hl32_2 := lt_heap hr31_2
        have hr32_2 := (hb32.block _ (lt_heap hr31_2)).trans hr31_2
        have hl32_3 := lt_heap hr31_3
        have hr32_3 := (hb32.block _ (lt_heap hr31_3)).trans hr31_3
        have hl32_4 := lt_heap hr31_4
        have hr32_4 := (hb32.block _ (lt_heap hr31_4)).trans hr31_4
        have hr32_5 := hN
        clear hN
        have HU32 := Lib.hid (HU31.out.trans (hb32.mono HU31.out.size))
        refine hK.out _ _ (⟨(hb32.block _ (lt_heap hS0.1)).trans hS0.1, (hb32.block _ (lt_heap hS0.2.1)).trans hS0.2.1, (hb32.block _ (lt_heap hS0.2.2.1)).trans hS0.2.2.1, (hb32.block _ (lt_heap hS0.2.2.2.1)).trans hS0.2.2.2.1, (hb32.block _ (lt_heap hS0.2.2.2.2)).trans hS0.2.2.2.2⟩) (fun hS32a => ?_)
        clear hK K
        refine wpAnyH_ready (rs := [1]) (by kernel_rfl) (by simp) ?_
        refine AllReadyH.cons rfl (fun K hK => ?_) AllReadyH.nil
        go_simp
        go_wp2_with (go_at_call 25; refine (lmoving_any _ _ _ _ _ _ _ _ _ _ _ _ _ _ _ _ _ _ _ _ _ _ _ _ _ ).mono ?_; rintro e y33 ⟨rfl, hb33⟩)
        have hr33_0 := (hb33.block _ (lt_heap hr32_0)).trans hr32_0
        have hr33_1 := (hb33.block _ (lt_heap hr32_1)).trans hr32_1
        have hr33_2 := (hb33.block _ (lt_heap hr32_2)).trans hr32_2
        have hr33_3 := (hb33.block _ (lt_heap hr32_3)).trans hr32_3
        have hr33_4 := (hb33.block _ (lt_heap hr32_4)).trans hr32_4
        have hr33_5 := (hb33.block _ (lt_heap hr32_5)).trans hr32_5
        have HU33 := Lib.hid (HU32.out.trans (hb33.mono HU32.out.size))
        refine hK.out _ _ (⟨(hb33.block _ (lt_heap hS32a.1)).trans hS32a.1, (hb33.block _ (lt_heap hS32a.2.1)).trans hS32a.2.1, (hb33.block _ (lt_heap hS32a.2.2.1)).trans hS32a.2.2.1, (hb33.block _ (lt_heap hS32a.2.2.2.1)).trans hS32a.2.2.2.1, (hb33.block _ (lt_heap hS32a.2.2.2.2)).trans hS32a.2.2.2.2⟩) (fun hS33c => ?_)
        clear hK K
        refine wpAnyH_ready (rs := [4]) (by kernel_rfl) (by simp) ?_
        refine AllReadyH.cons rfl (fun K hK => ?_) AllReadyH.nil
        go_simp
        go_wp2_with (go_at_call 43; refine (HM.out _).mono ?_; rintro e y34 ⟨rfl, hb34⟩)
        have hr34_0 := (hb34.block _ (lt_heap hr33_0)).trans hr33_0
        have hr34_1 := (hb34.block _ (lt_heap hr33_1)).trans hr33_1
        have hr34_2 := (hb34.block _ (lt_heap hr33_2)).trans hr33_2
        have hr34_3 := (hb34.block _ (lt_heap hr33_3)).trans hr33_3
        have hr34_4 := (hb34.block _ (lt_heap hr33_4)).trans hr33_4
        have hr34_5 := (hb34.block _ (lt_heap hr33_5)).trans hr33_5
        have HU34 := Lib.hid (HU33.out.trans (hb34.mono HU33.out.size))
        refine hK.out _ _ (⟨(hb34.block _ (lt_heap hS33c.1)).trans hS33c.1, (hb34.block _ (lt_heap hS33c.2.1)).trans hS33c.2.1, (hb34.block _ (lt_heap hS33c.2.2.1)).trans hS33c.2.2.1, (hb34.block _ (lt_heap hS33c.2.2.2.1)).trans hS33c.2.2.2.1, (hb34.block _ (lt_heap hS33c.2.2.2.2)).trans hS33c.2.2.2.2⟩) (fun hS34c => ?_)
        clear hK K
        refine wpAnyH_ready (rs := [5]) (by kernel_rfl) (by simp) ?_
        refine AllReadyH.cons rfl (fun K hK => ?_) AllReadyH.nil
        go_simp
        go_wp2_with (go_at_call 42; refine (HA.out _).mono ?_; rintro e y35 ⟨rfl, hb35⟩)
        have hr35_0 := (hb35.block _ (lt_heap hr34_0)).trans hr34_0
        have hr35_1 := (hb35.block _ (lt_heap hr34_1)).trans hr34_1
        have hr35_2 := (hb35.block _ (lt_heap hr34_2)).trans hr34_2
        have hr35_3 := (hb35.block _ (lt_heap hr34_3)).trans hr34_3
        have hr35_4 := (hb35.block _ (lt_heap hr34_4)).trans hr34_4
        have hr35_5 := (hb35.block _ (lt_heap hr34_5)).trans hr34_5
        have HU35 := Lib.hid (HU34.out.trans (hb35.mono HU34.out.size))
        refine hK.out _ _ (⟨(hb35.block _ (lt_heap hS34c.1)).trans hS34c.1, (hb35.block _ (lt_heap hS34c.2.1)).trans hS34c.2.1, (hb35.block _ (lt_heap hS34c.2.2.1)).trans hS34c.2.2.1, (hb35.block _ (lt_heap hS34c.2.2.2.1)).trans hS34c.2.2.2.1, (hb35.block _ (lt_heap hS34c.2.2.2.2)).trans hS34c.2.2.2.2⟩) (fun hS35c => ?_)
        clear hK K
        refine wpAnyH_ready (rs := [7]) (by kernel_rfl) (by simp) ?_
        refine AllReadyH.cons rfl (fun K hK => ?_) AllReadyH.nil
        refine step_store_row rfl 73 (.tmp 18) (.tmp 65) rfl #[.int .i64 0, .int .i64 0, .int .i64 0, .int .i64 0, .int .i64 0, .int .i64 0] #[.int .i64 b0, .int .i64 b1, .int .i64 b2, .int .i64 b3, .int .i64 b4, .int .i64 b5] _ 73 hr35_5 rfl (by first | rfl | (go_simp; done) | (go_simp; rfl)) (by kernel_rfl) rfl (by simp [Value.oneCell']) ?_
        have hN := setRow_heap _ (y31.heap.size) _ #[.int .i64 b0, .int .i64 b1, .int .i64 b2, .int .i64 b3, .int .i64 b4, .int .i64 b5] _ _ hr35_5
        have hsz := HU35.out.size
        have HUx := below_setRow (g := y31.heap.size) HU35.out (by first | omega | (simp at *; omega)) #[.int .i64 b0, .int .i64 b1, .int .i64 b2, .int .i64 b3, .int .i64 b4, .int .i64 b5]
        obtain ⟨y36, hy36⟩ : ∃ y, y35.setRow (y31.heap.size) #[.int .i64 b0, .int .i64 b1, .int .i64 b2, .int .i64 b3, .int .i64 b4, .int .i64 b5] = y := ⟨_, rfl⟩
        have hO : ∀ k, k ≠ y31.heap.size → y36.heap[k]? = y35.heap[k]? := fun k hk => by rw [← hy36]; exact setRow_other _ _ _ _ hk
        rw [hy36] at hN HUx ⊢
        clear hy36
        have HU36 := Lib.hid HUx
        clear HUx
        have hr36_0 := (hO _ (by omega)).trans hr35_0
        have hr36_1 := (hO _ (by omega)).trans hr35_1
        have hr36_2 := (hO _ (by omega)).trans hr35_2
        have hr36_3 := (hO _ (by omega)).trans hr35_3
        have hr36_4 := (hO _ (by omega)).trans hr35_4
        have hr36_5 := hN
        clear hN
        refine hK.out _ _ (⟨(hO _ (by omega)).trans hS35c.1, (hO _ (by omega)).trans hS35c.2.1, (hO _ (by omega)).trans hS35c.2.2.1, (hO _ (by omega)).trans hS35c.2.2.2.1, (hO _ (by omega)).trans hS35c.2.2.2.2⟩) (fun hS36s => ?_)
        clear hK K
        refine wpAnyH_done (by kernel_rfl) ?_ _
        have c3_0 := cell_of_row _ _ 0 _ _ _ hr36_3
        have c3_1 := cell_of_row _ _ 1 _ _ _ hr36_3
        have c3_2 := cell_of_row _ _ 2 _ _ _ hr36_3
        have c3_3 := cell_of_row _ _ 3 _ _ _ hr36_3
        have c3_4 := cell_of_row _ _ 4 _ _ _ hr36_3
        have c3_5 := cell_of_row _ _ 5 _ _ _ hr36_3
        have c4_0 := cell_of_row _ _ 0 _ _ _ hr36_4
        have c4_1 := cell_of_row _ _ 1 _ _ _ hr36_4
        have c4_2 := cell_of_row _ _ 2 _ _ _ hr36_4
        have c4_3 := cell_of_row _ _ 3 _ _ _ hr36_4
        have c4_4 := cell_of_row _ _ 4 _ _ _ hr36_4
        have c4_5 := cell_of_row _ _ 5 _ _ _ hr36_4
        have c4_6 := cell_of_row _ _ 6 _ _ _ hr36_4
        have c4_7 := cell_of_row _ _ 7 _ _ _ hr36_4
        have c5_0 := cell_of_row _ _ 0 _ _ _ hr36_5
        have c5_1 := cell_of_row _ _ 1 _ _ _ hr36_5
        have c5_2 := cell_of_row _ _ 2 _ _ _ hr36_5
        have c5_3 := cell_of_row _ _ 3 _ _ _ hr36_5
        have c5_4 := cell_of_row _ _ 4 _ _ _ hr36_5
        have c5_5 := cell_of_row _ _ 5 _ _ _ hr36_5
        simp at c3_0 c3_1 c3_2 c3_3 c3_4 c3_5 c4_0 c4_1 c4_2 c4_3 c4_4 c4_5 c4_6 c4_7 c5_0 c5_1 c5_2 c5_3 c5_4 c5_5
        go_wp2_with fail
        refine (awake_any12 _).mono ?_
        rintro e y37 ⟨rfl, hb37⟩
        clear c3_0 c3_1 c3_2 c3_3 c3_4 c3_5 c4_0 c4_1 c4_2 c4_3 c4_4 c4_5 c4_6 c4_7 c5_0 c5_1 c5_2 c5_3 c5_4 c5_5
        have hr37_0 := (hb37.block _ (lt_heap hr36_0)).trans hr36_0
        have hr37_1 := (hb37.block _ (lt_heap hr36_1)).trans hr36_1
        have hr37_2 := (hb37.block _ (lt_heap hr36_2)).trans hr36_2
        have hr37_3 := (hb37.block _ (lt_heap hr36_3)).trans hr36_3
        have hr37_4 := (hb37.block _ (lt_heap hr36_4)).trans hr36_4
        have hr37_5 := (hb37.block _ (lt_heap hr36_5)).trans hr36_5
        have HU37 := Lib.hid (HU36.out.trans (hb37.mono HU36.out.size))
        clear hr36_0 hr36_1 hr36_2 hr36_3 hr36_4 hr36_5 HU36
        have c3_0 := cell_of_row _ _ 0 _ _ _ hr37_3
        have c3_1 := cell_of_row _ _ 1 _ _ _ hr37_3
        have c3_2 := cell_of_row _ _ 2 _ _ _ hr37_3
        have c3_3 := cell_of_row _ _ 3 _ _ _ hr37_3
        have c3_4 := cell_of_row _ _ 4 _ _ _ hr37_3
        have c3_5 := cell_of_row _ _ 5 _ _ _ hr37_3
        have c4_0 := cell_of_row _ _ 0 _ _ _ hr37_4
        have c4_1 := cell_of_row _ _ 1 _ _ _ hr37_4
        have c4_2 := cell_of_row _ _ 2 _ _ _ hr37_4
        have c4_3 := cell_of_row _ _ 3 _ _ _ hr37_4
        have c4_4 := cell_of_row _ _ 4 _ _ _ hr37_4
        have c4_5 := cell_of_row _ _ 5 _ _ _ hr37_4
        have c4_6 := cell_of_row _ _ 6 _ _ _ hr37_4
        have c4_7 := cell_of_row _ _ 7 _ _ _ hr37_4
        have c5_0 := cell_of_row _ _ 0 _ _ _ hr37_5
        have c5_1 := cell_of_row _ _ 1 _ _ _ hr37_5
        have c5_2 := cell_of_row _ _ 2 _ _ _ hr37_5
        have c5_3 := cell_of_row _ _ 3 _ _ _ hr37_5
        have c5_4 := cell_of_row _ _ 4 _ _ _ hr37_5
        have c5_5 := cell_of_row _ _ 5 _ _ _ hr37_5
        simp at c3_0 c3_1 c3_2 c3_3 c3_4 c3_5 c4_0 c4_1 c4_2 c4_3 c4_4 c4_5 c4_6 c4_7 c5_0 c5_1 c5_2 c5_3 c5_4 c5_5
        go_wp2_with fail
        refine (bhas_any _ _ _ _ _ _ _ _ _ _ ).mono ?_
        rintro e y38 ⟨rfl, hb38⟩
        clear c3_0 c3_1 c3_2 c3_3 c3_4 c3_5 c4_0 c4_1 c4_2 c4_3 c4_4 c4_5 c4_6 c4_7 c5_0 c5_1 c5_2 c5_3 c5_4 c5_5
        have hr38_0 := (hb38.block _ (lt_heap hr37_0)).trans hr37_0
        have hr38_1 := (hb38.block _ (lt_heap hr37_1)).trans hr37_1
        have hr38_2 := (hb38.block _ (lt_heap hr37_2)).trans hr37_2
        have hr38_3 := (hb38.block _ (lt_heap hr37_3)).trans hr37_3
        have hr38_4 := (hb38.block _ (lt_heap hr37_4)).trans hr37_4
        have hr38_5 := (hb38.block _ (lt_heap hr37_5)).trans hr37_5
        have HU38 := Lib.hid (HU37.out.trans (hb38.mono HU37.out.size))
        clear hr37_0 hr37_1 hr37_2 hr37_3 hr37_4 hr37_5 HU37
        rw [HP.out]
        have c3_0 := cell_of_row _ _ 0 _ _ _ hr38_3
        have c3_1 := cell_of_row _ _ 1 _ _ _ hr38_3
        have c3_2 := cell_of_row _ _ 2 _ _ _ hr38_3
        have c3_3 := cell_of_row _ _ 3 _ _ _ hr38_3
        have c3_4 := cell_of_row _ _ 4 _ _ _ hr38_3
        have c3_5 := cell_of_row _ _ 5 _ _ _ hr38_3
        have c4_0 := cell_of_row _ _ 0 _ _ _ hr38_4
        have c4_1 := cell_of_row _ _ 1 _ _ _ hr38_4
        have c4_2 := cell_of_row _ _ 2 _ _ _ hr38_4
        have c4_3 := cell_of_row _ _ 3 _ _ _ hr38_4
        have c4_4 := cell_of_row _ _ 4 _ _ _ hr38_4
        have c4_5 := cell_of_row _ _ 5 _ _ _ hr38_4
        have c4_6 := cell_of_row _ _ 6 _ _ _ hr38_4
        have c4_7 := cell_of_row _ _ 7 _ _ _ hr38_4
        have c5_0 := cell_of_row _ _ 0 _ _ _ hr38_5
        have c5_1 := cell_of_row _ _ 1 _ _ _ hr38_5
        have c5_2 := cell_of_row _ _ 2 _ _ _ hr38_5
        have c5_3 := cell_of_row _ _ 3 _ _ _ hr38_5
        have c5_4 := cell_of_row _ _ 4 _ _ _ hr38_5
        have c5_5 := cell_of_row _ _ 5 _ _ _ hr38_5
        simp at c3_0 c3_1 c3_2 c3_3 c3_4 c3_5 c4_0 c4_1 c4_2 c4_3 c4_4 c4_5 c4_6 c4_7 c5_0 c5_1 c5_2 c5_3 c5_4 c5_5
        go_wp2_with fail
        refine (bhas_any _ _ _ _ _ _ _ _ _ _ ).mono ?_
        rintro e y39 ⟨rfl, hb39⟩
        clear c3_0 c3_1 c3_2 c3_3 c3_4 c3_5 c4_0 c4_1 c4_2 c4_3 c4_4 c4_5 c4_6 c4_7 c5_0 c5_1 c5_2 c5_3 c5_4 c5_5
        have hr39_0 := (hb39.block _ (lt_heap hr38_0)).trans hr38_0
        have hr39_1 := (hb39.block _ (lt_heap hr38_1)).trans hr38_1
        have hr39_2 := (hb39.block _ (lt_heap hr38_2)).trans hr38_2
        have hr39_3 := (hb39.block _ (lt_heap hr38_3)).trans hr38_3
        have hr39_4 := (hb39.block _ (lt_heap hr38_4)).trans hr38_4
        have hr39_5 := (hb39.block _ (lt_heap hr38_5)).trans hr38_5
        have HU39 := Lib.hid (HU38.out.trans (hb39.mono HU38.out.size))
        clear hr38_0 hr38_1 hr38_2 hr38_3 hr38_4 hr38_5 HU38
        rw [show has6 (min (Pl.add fx (Pl.mul dx lo)) (Pl.add fx (Pl.mul dx hi))) (min (Pl.add fy (Pl.mul dy lo)) (Pl.add fy (Pl.mul dy hi))) (min (Pl.add fz (Pl.mul dz lo)) (Pl.add fz (Pl.mul dz hi))) (max (Pl.add fx (Pl.mul dx lo)) (Pl.add fx (Pl.mul dx hi))) (max (Pl.add fy (Pl.mul dy lo)) (Pl.add fy (Pl.mul dy hi))) (max (Pl.add fz (Pl.mul dz lo)) (Pl.add fz (Pl.mul dz hi))) (at1 fx dx t) (at1 fy dy t) (at1 fz dz t) = true from HS.out]
        have c3_0 := cell_of_row _ _ 0 _ _ _ hr39_3
        have c3_1 := cell_of_row _ _ 1 _ _ _ hr39_3
        have c3_2 := cell_of_row _ _ 2 _ _ _ hr39_3
        have c3_3 := cell_of_row _ _ 3 _ _ _ hr39_3
        have c3_4 := cell_of_row _ _ 4 _ _ _ hr39_3
        have c3_5 := cell_of_row _ _ 5 _ _ _ hr39_3
        have c5_0 := cell_of_row _ _ 0 _ _ _ hr39_5
        have c5_1 := cell_of_row _ _ 1 _ _ _ hr39_5
        have c5_2 := cell_of_row _ _ 2 _ _ _ hr39_5
        have c5_3 := cell_of_row _ _ 3 _ _ _ hr39_5
        have c5_4 := cell_of_row _ _ 4 _ _ _ hr39_5
        have c5_5 := cell_of_row _ _ 5 _ _ _ hr39_5
        simp at c3_0 c3_1 c3_2 c3_3 c3_4 c3_5 c5_0 c5_1 c5_2 c5_3 c5_4 c5_5
        go_wp2_with fail
        refine (bmeets_any _ _ _ _ _ _ _ _ _ _ _ _ _ ).mono ?_
        rintro e y40 ⟨rfl, hb40⟩
        clear c3_0 c3_1 c3_2 c3_3 c3_4 c3_5 c5_0 c5_1 c5_2 c5_3 c5_4 c5_5
        have hr40_0 := (hb40.block _ (lt_heap hr39_0)).trans hr39_0
        have hr40_1 := (hb40.block _ (lt_heap hr39_1)).trans hr39_1
        have hr40_2 := (hb40.block _ (lt_heap hr39_2)).trans hr39_2
        have hr40_3 := (hb40.block _ (lt_heap hr39_3)).trans hr39_3
        have hr40_4 := (hb40.block _ (lt_heap hr39_4)).trans hr39_4
        have hr40_5 := (hb40.block _ (lt_heap hr39_5)).trans hr39_5
        have HU40 := Lib.hid (HU39.out.trans (hb40.mono HU39.out.size))
        clear hr39_0 hr39_1 hr39_2 hr39_3 hr39_4 hr39_5 HU39
        rw [meets_of HP.out HS.out]
        go_wp2
        go_ret
        exact ⟨by simp, HU40.out⟩

end Go.Proofs.Ythlcfhnlkpobhaa.raySpansW
