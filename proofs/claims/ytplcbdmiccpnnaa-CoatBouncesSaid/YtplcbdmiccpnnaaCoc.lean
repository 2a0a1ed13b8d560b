/- Surfaces: whether a way of light goes on, by the program; paints; lights from one side to the other. -/
import Derived.Test.YtplcbdmiccpnnaaCoa
import Derived.Test.YtplcbdmiccpnnaaDo
namespace Go.Proofs.Ytplcbdmiccpnnaa.Co
open Go.RowKit Go.Proofs.Ytplcbdmiccpnnaa Go.Proofs.Ytplcbdmiccpnnaa.Wa Go.Proofs.Ytplcbdmiccpnnaa.Ve Go.Proofs.Ytplcbdmiccpnnaa.Au
set_option linter.unusedVariables false
set_option linter.unusedSimpArgs false

theorem max3 (a b c : Int) (W : World) : (Builtin.max_ #[37, 37, 37] 37 #[.int .i64 a, .int .i64 b, .int .i64 c]).run Try.prog W = .ok (.int .i64 (max (max a b) c)) W := by
  have e1 : max a b = if a < b then b else a := by rw [Int.max_def]; split <;> split <;> omega
  have e2 : max (max a b) c = if max a b < c then c else max a b := by rw [Int.max_def (max a b)]; split <;> split <;> omega
  rw [e2, e1]
  by_cases h1 : a < b
  · by_cases h2 : b < c <;> simp [Builtin.max_, Builtin.max2, go_sem, h1, h2]
  · by_cases h2 : a < c <;> simp [Builtin.max_, Builtin.max2, go_sem, h1, h2]

theorem hto_any (ax ay az : Int) (w : World) : Calls Try.prog 25 #[.agg #[.int .i64 ax, .int .i64 ay, .int .i64 az]] w fun e w' => e = .returned (.agg #[.int .i64 ax, .int .i64 ay, .int .i64 az]) ∧ Below w.heap.size w w' := by
  go_enter Try.func25, Try.ntmps25
  go_wp2
  exact bodyPost_ret (v := .agg #[.int .i64 ax, .int .i64 ay, .int .i64 az]) (by simp [results, Try.results25, go_sem]) rfl ⟨rfl, below_n2 _ _ _⟩

theorem hfrom_any (ax ay az : Int) (w : World) : Calls Try.prog 22 #[.agg #[.int .i64 ax, .int .i64 ay, .int .i64 az]] w fun e w' => e = .returned (.agg #[.int .i64 ax, .int .i64 ay, .int .i64 az]) ∧ Below w.heap.size w w' := by
  go_enter Try.func22, Try.ntmps22
  go_wp2
  exact bodyPost_ret (v := .agg #[.int .i64 ax, .int .i64 ay, .int .i64 az]) (by simp [results, Try.results22, go_sem]) rfl ⟨rfl, below_n2 _ _ _⟩

theorem vto_any (ax ay az : Int) (w : World) : Calls Try.prog 18 #[.agg #[.int .i64 ax, .int .i64 ay, .int .i64 az]] w fun e w' => e = .returned (.agg #[.int .i64 ax, .int .i64 ay, .int .i64 az]) ∧ Below w.heap.size w w' := by
  go_enter Try.func18, Try.ntmps18
  go_wp2
  exact bodyPost_ret (v := .agg #[.int .i64 ax, .int .i64 ay, .int .i64 az]) (by simp [results, Try.results18, go_sem]) rfl ⟨rfl, below_n2 _ _ _⟩

theorem vfrom_any (ax ay az : Int) (w : World) : Calls Try.prog 21 #[.agg #[.int .i64 ax, .int .i64 ay, .int .i64 az]] w fun e w' => e = .returned (.agg #[.int .i64 ax, .int .i64 ay, .int .i64 az]) ∧ Below w.heap.size w w' := by
  go_enter Try.func21, Try.ntmps21
  go_wp2
  exact bodyPost_ret (v := .agg #[.int .i64 ax, .int .i64 ay, .int .i64 az]) (by simp [results, Try.results21, go_sem]) rfl ⟨rfl, below_n2 _ _ _⟩

set_option maxHeartbeats 2000000 in
set_option maxRecDepth 100000 in
theorem paint_any (k c1 c2 c3 ro : Int) (w : World)  : Calls Try.prog 17 #[.agg #[.int .i64 k, .int .i64 c1, .int .i64 c2, .int .i64 c3, .int .i64 ro]] w fun e' w' => e' = .returned (.agg #[.int .i64 k, .int .i64 c1, .int .i64 c2, .int .i64 c3, .int .i64 ro]) ∧ Below w.heap.size w w' := by
  go_enter Try.func17, Try.ntmps17
  go_upto_region 1 with fail
  have hR := Au.rows2 w (.cells #[.int .i64 k, .int .i64 c1, .int .i64 c2, .int .i64 c3, .int .i64 ro] 59) (.cells #[.int .i64 0, .int .i64 0, .int .i64 0, .int .i64 0, .int .i64 0] 66)
  have HUx := below_n2 w (.cells #[.int .i64 k, .int .i64 c1, .int .i64 c2, .int .i64 c3, .int .i64 ro] 59) (.cells #[.int .i64 0, .int .i64 0, .int .i64 0, .int .i64 0, .int .i64 0] 66)
  obtain ⟨y0, hy0⟩ : ∃ y0, (w.alloc (.cells #[.int .i64 k, .int .i64 c1, .int .i64 c2, .int .i64 c3, .int .i64 ro] 59)).alloc (.cells #[.int .i64 0, .int .i64 0, .int .i64 0, .int .i64 0, .int .i64 0] 66) = y0 := ⟨_, rfl⟩
  rw [hy0] at hR HUx ⊢
  clear hy0
  have HU0 := Lib.hid HUx
  clear HUx
  obtain ⟨hr0_0, hr0_1⟩ := hR
  refine wp_region_held_drew (S := fun y => y.heap[w.heap.size]? = some (.cells #[.int .i64 k, .int .i64 c1, .int .i64 c2, .int .i64 c3, .int .i64 ro] 59 (0, 0))) (by kernel_rfl) (hr0_0) (fun hS0 => ?_)
  obtain ⟨y1, hy1⟩ : ∃ y, y0.drew = y := ⟨_, rfl⟩
  have HU1 := Lib.hid (show Below w.heap.size w y1 by rw [← hy1]; exact HU0.out.drew)
  have hr1_0 : y1.heap[w.heap.size]? = some (.cells #[.int .i64 k, .int .i64 c1, .int .i64 c2, .int .i64 c3, .int .i64 ro] 59 (0, 0)) := by rw [← hy1]; exact hr0_0
  have hr1_1 : y1.heap[w.heap.size + 1]? = some (.cells #[.int .i64 0, .int .i64 0, .int .i64 0, .int .i64 0, .int .i64 0] 66 (0, 0)) := by rw [← hy1]; exact hr0_1
  rw [hy1] at hS0 ⊢
  clear hy1
  refine wpAnyH_take (i := 0) (v := ?_) rfl (by kernel_rfl) (by kernel_rfl) (by kernel_rfl) (fun _ _ _ h => h) (Or.inl ⟨by kernel_rfl, by (intro wz hSz; go_simp; try with_reducible rfl)⟩) hS0 ?_
  go_simp
  refine wpAnyH_take (i := 1) (v := ?_) rfl (by kernel_rfl) (by kernel_rfl) (by kernel_rfl) (fun _ _ _ h => h) (Or.inl ⟨by kernel_rfl, by (intro wz hSz; have c0_0 := cell_of_row _ _ 0 _ _ _ hSz; have c0_1 := cell_of_row _ _ 1 _ _ _ hSz; have c0_2 := cell_of_row _ _ 2 _ _ _ hSz; have c0_3 := cell_of_row _ _ 3 _ _ _ hSz; have c0_4 := cell_of_row _ _ 4 _ _ _ hSz; simp at c0_0 c0_1 c0_2 c0_3 c0_4; go_simp; try with_reducible rfl)⟩) hS0 ?_
  go_simp
  refine wpAnyH_take (i := 2) (v := ?_) rfl (by kernel_rfl) (by kernel_rfl) (by kernel_rfl) (fun _ _ _ h => h) (Or.inl ⟨by kernel_rfl, by (intro wz hSz; go_simp; try with_reducible rfl)⟩) hS0 ?_
  go_simp
  refine wpAnyH_take (i := 3) (v := ?_) rfl (by kernel_rfl) (by kernel_rfl) (by kernel_rfl) (fun _ _ _ h => h) (Or.inl ⟨by kernel_rfl, by (intro wz hSz; have c0_0 := cell_of_row _ _ 0 _ _ _ hSz; have c0_1 := cell_of_row _ _ 1 _ _ _ hSz; have c0_2 := cell_of_row _ _ 2 _ _ _ hSz; have c0_3 := cell_of_row _ _ 3 _ _ _ hSz; have c0_4 := cell_of_row _ _ 4 _ _ _ hSz; simp at c0_0 c0_1 c0_2 c0_3 c0_4; go_simp; try with_reducible rfl)⟩) hS0 ?_
  go_simp
  refine wpAnyH_take (i := 5) (v := ?_) rfl (by kernel_rfl) (by kernel_rfl) (by kernel_rfl) (fun _ _ _ h => h) (Or.inl ⟨by kernel_rfl, by (intro wz hSz; go_simp; try with_reducible rfl)⟩) hS0 ?_
  go_simp
  refine wpAnyH_take (i := 6) (v := ?_) rfl (by kernel_rfl) (by kernel_rfl) (by kernel_rfl) (fun _ _ _ h => h) (Or.inl ⟨by kernel_rfl, by (intro wz hSz; have c0_0 := cell_of_row _ _ 0 _ _ _ hSz; have c0_1 := cell_of_row _ _ 1 _ _ _ hSz; have c0_2 := cell_of_row _ _ 2 _ _ _ hSz; have c0_3 := cell_of_row _ _ 3 _ _ _ hSz; have c0_4 := cell_of_row _ _ 4 _ _ _ hSz; simp at c0_0 c0_1 c0_2 c0_3 c0_4; go_simp; try with_reducible rfl)⟩) hS0 ?_
  go_simp
  refine wpAnyH_ready (rs := [4]) (by kernel_rfl) (by simp) ?_
  refine AllReadyH.cons rfl (fun K hK => ?_) AllReadyH.nil
  go_simp
  go_wp2_with (go_at_call 25; refine (hto_any _ _ _ _).mono ?_; rintro e y2 ⟨rfl, hb2⟩)
  have hr2_0 := (hb2.block _ (lt_heap hr1_0)).trans hr1_0
  have hr2_1 := (hb2.block _ (lt_heap hr1_1)).trans hr1_1
  have HU2 := Lib.hid (HU1.out.trans (hb2.mono HU1.out.size))
  refine hK.out _ _ ((hb2.block _ (lt_heap hS0)).trans hS0) (fun hS2c => ?_)
  clear hK K
  refine wpAnyH_take (i := 7) (v := ?_) rfl (by kernel_rfl) (by kernel_rfl) (by kernel_rfl) (fun _ _ _ h => h) (Or.inl ⟨by kernel_rfl, by (intro wz hSz; go_simp; try with_reducible rfl)⟩) hS2c ?_
  go_simp
  refine wpAnyH_ready (rs := [8]) (by kernel_rfl) (by simp) ?_
  refine AllReadyH.cons rfl (fun K hK => ?_) AllReadyH.nil
  refine step_store_row rfl 66 (.tmp 2) (.tmp 10) rfl #[.int .i64 0, .int .i64 0, .int .i64 0, .int .i64 0, .int .i64 0] #[.int .i64 k, .int .i64 c1, .int .i64 c2, .int .i64 c3, .int .i64 ro] _ 66 hr2_1 rfl (by first | rfl | (go_simp; done) | (go_simp; rfl)) (by kernel_rfl) rfl (by simp [Value.oneCell']) ?_
  have hN := setRow_heap _ (w.heap.size + 1) _ #[.int .i64 k, .int .i64 c1, .int .i64 c2, .int .i64 c3, .int .i64 ro] _ _ hr2_1
  have hsz := HU2.out.size
  have HUx := below_setRow (g := w.heap.size + 1) HU2.out (by first | omega | (simp at *; omega)) #[.int .i64 k, .int .i64 c1, .int .i64 c2, .int .i64 c3, .int .i64 ro]
  obtain ⟨y3, hy3⟩ : ∃ y, y2.setRow (w.heap.size + 1) #[.int .i64 k, .int .i64 c1, .int .i64 c2, .int .i64 c3, .int .i64 ro] = y := ⟨_, rfl⟩
  have hO : ∀ k, k ≠ w.heap.size + 1 → y3.heap[k]? = y2.heap[k]? := fun k hk => by rw [← hy3]; exact setRow_other _ _ _ _ hk
  rw [hy3] at hN HUx ⊢
  clear hy3
  have HU3 := Lib.hid HUx
  clear HUx
  have hr3_0 := (hO _ (by omega)).trans hr2_0
  have hr3_1 := hN
  clear hN
  refine hK.out _ _ ((hO _ (by omega)).trans hS2c) (fun hS3s => ?_)
  clear hK K
  refine wpAnyH_done (by kernel_rfl) ?_ _
  have c1_0 := cell_of_row _ _ 0 _ _ _ hr3_1
  have c1_1 := cell_of_row _ _ 1 _ _ _ hr3_1
  have c1_2 := cell_of_row _ _ 2 _ _ _ hr3_1
  have c1_3 := cell_of_row _ _ 3 _ _ _ hr3_1
  have c1_4 := cell_of_row _ _ 4 _ _ _ hr3_1
  simp at c1_0 c1_1 c1_2 c1_3 c1_4
  go_wp2
  exact bodyPost_ret (v := .agg #[.int .i64 k, .int .i64 c1, .int .i64 c2, .int .i64 c3, .int .i64 ro]) (by simp [results, Try.results17, go_sem, c1_0, c1_1, c1_2, c1_3, c1_4]) rfl ⟨rfl, HU3.out⟩

set_option maxHeartbeats 2000000 in
set_option maxRecDepth 100000 in
theorem lives_yes (r g b u m c : Int) (hm : max (max r g) b = m) (hc : Hid (max 16384 (Pl.unit m) = c)) (h : ¬ c ≤ Pl.unit u) (w : World)  : Calls Try.prog 24 #[.agg #[.int .i64 r, .int .i64 g, .int .i64 b], .int .i64 u] w fun e' w' => e' = .returned (.tuple #[.agg #[.int .i64 (Pl.div r c), .int .i64 (Pl.div g c), .int .i64 (Pl.div b c)], .bool true]) ∧ Below w.heap.size w w' := by
  have dh := decide_eq_false h
  have hm3 : ∀ W, (Builtin.max_ #[37, 37, 37] 37 #[.int .i64 r, .int .i64 g, .int .i64 b]).run Try.prog W = .ok (.int .i64 m) W := fun W => by rw [max3, hm]
  clear hm
  go_enter Try.func24, Try.ntmps24
  go_upto_region 1 with fail
  have hR := Au.rows2 w (.cells #[.int .i64 r, .int .i64 g, .int .i64 b] 61) (.cells #[.int .i64 0, .int .i64 0, .int .i64 0] 61)
  have HUx := below_n2 w (.cells #[.int .i64 r, .int .i64 g, .int .i64 b] 61) (.cells #[.int .i64 0, .int .i64 0, .int .i64 0] 61)
  obtain ⟨y0, hy0⟩ : ∃ y0, (w.alloc (.cells #[.int .i64 r, .int .i64 g, .int .i64 b] 61)).alloc (.cells #[.int .i64 0, .int .i64 0, .int .i64 0] 61) = y0 := ⟨_, rfl⟩
  rw [hy0] at hR HUx ⊢
  clear hy0
  have HU0 := Lib.hid HUx
  clear HUx
  obtain ⟨hr0_0, hr0_1⟩ := hR
  have c0_0 := cell_of_row _ _ 0 _ _ _ hr0_0
  have c0_1 := cell_of_row _ _ 1 _ _ _ hr0_0
  have c0_2 := cell_of_row _ _ 2 _ _ _ hr0_0
  simp at c0_0 c0_1 c0_2
  go_wp2_with fail
  refine (unit_any _ _).mono ?_
  rintro e ww ⟨rfl, rfl⟩
  go_upto_region 2 with fail
  rw [hc.out]
  go_wp2_with fail
  refine (unit_any _ _).mono ?_
  rintro e ww ⟨rfl, rfl⟩
  go_upto_region 4 with fail
  clear c0_0 c0_1 c0_2
  refine wp_region_held_drew (S := fun y => y.heap[w.heap.size]? = some (.cells #[.int .i64 r, .int .i64 g, .int .i64 b] 61 (0, 0))) (by kernel_rfl) (hr0_0) (fun hS0 => ?_)
  obtain ⟨y1, hy1⟩ : ∃ y, y0.drew = y := ⟨_, rfl⟩
  have HU1 := Lib.hid (show Below w.heap.size w y1 by rw [← hy1]; exact HU0.out.drew)
  have hr1_0 : y1.heap[w.heap.size]? = some (.cells #[.int .i64 r, .int .i64 g, .int .i64 b] 61 (0, 0)) := by rw [← hy1]; exact hr0_0
  have hr1_1 : y1.heap[w.heap.size + 1]? = some (.cells #[.int .i64 0, .int .i64 0, .int .i64 0] 61 (0, 0)) := by rw [← hy1]; exact hr0_1
  rw [hy1] at hS0 ⊢
  clear hy1
  refine wpAnyH_take (i := 0) (v := ?_) rfl (by kernel_rfl) (by kernel_rfl) (by kernel_rfl) (fun _ _ _ h => h) (Or.inl ⟨by kernel_rfl, by (intro wz hSz; go_simp; try with_reducible rfl)⟩) hS0 ?_
  go_simp
  refine wpAnyH_take (i := 1) (v := ?_) rfl (by kernel_rfl) (by kernel_rfl) (by kernel_rfl) (fun _ _ _ h => h) (Or.inl ⟨by kernel_rfl, by (intro wz hSz; have c0_0 := cell_of_row _ _ 0 _ _ _ hSz; have c0_1 := cell_of_row _ _ 1 _ _ _ hSz; have c0_2 := cell_of_row _ _ 2 _ _ _ hSz; simp at c0_0 c0_1 c0_2; go_simp; try with_reducible rfl)⟩) hS0 ?_
  go_simp
  refine wpAnyH_take (i := 2) (v := ?_) rfl (by kernel_rfl) (by kernel_rfl) (by kernel_rfl) (fun _ _ _ h => h) (Or.inl ⟨by kernel_rfl, by (intro wz hSz; go_simp; try with_reducible rfl)⟩) hS0 ?_
  go_simp
  refine wpAnyH_take (i := 4) (v := ?_) rfl (by kernel_rfl) (by kernel_rfl) (by kernel_rfl) (fun _ _ _ h => h) (Or.inl ⟨by kernel_rfl, by (intro wz hSz; go_simp; try with_reducible rfl)⟩) hS0 ?_
  go_simp
  refine wpAnyH_take (i := 5) (v := ?_) rfl (by kernel_rfl) (by kernel_rfl) (by kernel_rfl) (fun _ _ _ h => h) (Or.inl ⟨by kernel_rfl, by (intro wz hSz; have c0_0 := cell_of_row _ _ 0 _ _ _ hSz; have c0_1 := cell_of_row _ _ 1 _ _ _ hSz; have c0_2 := cell_of_row _ _ 2 _ _ _ hSz; simp at c0_0 c0_1 c0_2; go_simp; try with_reducible rfl)⟩) hS0 ?_
  go_simp
  refine wpAnyH_take (i := 6) (v := ?_) rfl (by kernel_rfl) (by kernel_rfl) (by kernel_rfl) (fun _ _ _ h => h) (Or.inl ⟨by kernel_rfl, by (intro wz hSz; go_simp; try with_reducible rfl)⟩) hS0 ?_
  go_simp
  refine wpAnyH_take (i := 8) (v := ?_) rfl (by kernel_rfl) (by kernel_rfl) (by kernel_rfl) (fun _ _ _ h => h) (Or.inl ⟨by kernel_rfl, by (intro wz hSz; go_simp; try with_reducible rfl)⟩) hS0 ?_
  go_simp
  refine wpAnyH_take (i := 9) (v := ?_) rfl (by kernel_rfl) (by kernel_rfl) (by kernel_rfl) (fun _ _ _ h => h) (Or.inl ⟨by kernel_rfl, by (intro wz hSz; have c0_0 := cell_of_row _ _ 0 _ _ _ hSz; have c0_1 := cell_of_row _ _ 1 _ _ _ hSz; have c0_2 := cell_of_row _ _ 2 _ _ _ hSz; simp at c0_0 c0_1 c0_2; go_simp; try with_reducible rfl)⟩) hS0 ?_
  go_simp
  refine wpAnyH_take (i := 10) (v := ?_) rfl (by kernel_rfl) (by kernel_rfl) (by kernel_rfl) (fun _ _ _ h => h) (Or.inl ⟨by kernel_rfl, by (intro wz hSz; go_simp; try with_reducible rfl)⟩) hS0 ?_
  go_simp
  refine wpAnyH_ready (rs := [3]) (by kernel_rfl) (by simp) ?_
  refine AllReadyH.cons rfl (fun K hK => ?_) AllReadyH.nil
  go_simp
  go_wp2_with (go_at_call 47; refine (div_any _ _ _).mono ?_; rintro e ww ⟨rfl, rfl⟩)
  refine hK.out _ _ (hS0) (fun hS1q3 => ?_)
  clear hK K
  refine wpAnyH_ready (rs := [7]) (by kernel_rfl) (by simp) ?_
  refine AllReadyH.cons rfl (fun K hK => ?_) AllReadyH.nil
  go_simp
  go_wp2_with (go_at_call 47; refine (div_any _ _ _).mono ?_; rintro e ww ⟨rfl, rfl⟩)
  refine hK.out _ _ (hS1q3) (fun hS1q7 => ?_)
  clear hK K
  refine wpAnyH_ready (rs := [11]) (by kernel_rfl) (by simp) ?_
  refine AllReadyH.cons rfl (fun K hK => ?_) AllReadyH.nil
  go_simp
  go_wp2_with (go_at_call 47; refine (div_any _ _ _).mono ?_; rintro e ww ⟨rfl, rfl⟩)
  refine hK.out _ _ (hS1q7) (fun hS1q11 => ?_)
  clear hK K
  refine wpAnyH_take (i := 12) (v := ?_) rfl (by kernel_rfl) (by kernel_rfl) (by kernel_rfl) (fun _ _ _ h => h) (Or.inl ⟨by kernel_rfl, by (intro wz hSz; go_simp; try with_reducible rfl)⟩) hS1q11 ?_
  go_simp
  refine wpAnyH_ready (rs := [13]) (by kernel_rfl) (by simp) ?_
  refine AllReadyH.cons rfl (fun K hK => ?_) AllReadyH.nil
  refine step_store_row rfl 61 (.tmp 4) (.tmp 33) rfl #[.int .i64 0, .int .i64 0, .int .i64 0] #[.int .i64 (Pl.div r c), .int .i64 (Pl.div g c), .int .i64 (Pl.div b c)] _ 61 hr1_1 rfl (by first | rfl | (go_simp; done) | (go_simp; rfl)) (by kernel_rfl) rfl (by simp [Value.oneCell']) ?_
  have hN := setRow_heap _ (w.heap.size + 1) _ #[.int .i64 (Pl.div r c), .int .i64 (Pl.div g c), .int .i64 (Pl.div b c)] _ _ hr1_1
  have hsz := HU1.out.size
  have HUx := below_setRow (g := w.heap.size + 1) HU1.out (by first | omega | (simp at *; omega)) #[.int .i64 (Pl.div r c), .int .i64 (Pl.div g c), .int .i64 (Pl.div b c)]
  obtain ⟨y2, hy2⟩ : ∃ y, y1.setRow (w.heap.size + 1) #[.int .i64 (Pl.div r c), .int .i64 (Pl.div g c), .int .i64 (Pl.div b c)] = y := ⟨_, rfl⟩
  have hO : ∀ k, k ≠ w.heap.size + 1 → y2.heap[k]? = y1.heap[k]? := fun k hk => by rw [← hy2]; exact setRow_other _ _ _ _ hk
  rw [hy2] at hN HUx ⊢
  clear hy2
  have HU2 := Lib.hid HUx
  clear HUx
  have hr2_0 := (hO _ (by omega)).trans hr1_0
  have hr2_1 := hN
  clear hN
  refine hK.out _ _ ((hO _ (by omega)).trans hS1q11) (fun hS2s => ?_)
  clear hK K
  refine wpAnyH_take (i := 14) (v := ?_) rfl (by kernel_rfl) (by kernel_rfl) (by kernel_rfl) (fun _ _ _ h => h) (Or.inl ⟨by kernel_rfl, by (intro wz hSz; go_simp; try with_reducible rfl)⟩) hS2s ?_
  go_simp
  refine wpAnyH_done (by kernel_rfl) ?_ _
  have c1_0 := cell_of_row _ _ 0 _ _ _ hr2_1
  have c1_1 := cell_of_row _ _ 1 _ _ _ hr2_1
  have c1_2 := cell_of_row _ _ 2 _ _ _ hr2_1
  simp at c1_0 c1_1 c1_2
  go_wp2
  exact bodyPost_ret (v := .tuple #[.agg #[.int .i64 (Pl.div r c), .int .i64 (Pl.div g c), .int .i64 (Pl.div b c)], .bool true]) (by simp [results, Try.results24, go_sem, c1_0, c1_1, c1_2]) rfl ⟨rfl, HU2.out⟩

set_option maxHeartbeats 2000000 in
set_option maxRecDepth 100000 in
theorem lives_no (r g b u m c : Int) (hm : max (max r g) b = m) (hc : Hid (max 16384 (Pl.unit m) = c)) (h : c ≤ Pl.unit u) (w : World)  : Calls Try.prog 24 #[.agg #[.int .i64 r, .int .i64 g, .int .i64 b], .int .i64 u] w fun e' w' => e' = .returned (.tuple #[.agg #[.int .i64 0, .int .i64 0, .int .i64 0], .bool false]) ∧ Below w.heap.size w w' := by
  have dh := decide_eq_true h
  have hm3 : ∀ W, (Builtin.max_ #[37, 37, 37] 37 #[.int .i64 r, .int .i64 g, .int .i64 b]).run Try.prog W = .ok (.int .i64 m) W := fun W => by rw [max3, hm]
  clear hm
  go_enter Try.func24, Try.ntmps24
  go_upto_region 1 with fail
  have hR := Au.rows2 w (.cells #[.int .i64 r, .int .i64 g, .int .i64 b] 61) (.cells #[.int .i64 0, .int .i64 0, .int .i64 0] 61)
  have HUx := below_n2 w (.cells #[.int .i64 r, .int .i64 g, .int .i64 b] 61) (.cells #[.int .i64 0, .int .i64 0, .int .i64 0] 61)
  obtain ⟨y0, hy0⟩ : ∃ y0, (w.alloc (.cells #[.int .i64 r, .int .i64 g, .int .i64 b] 61)).alloc (.cells #[.int .i64 0, .int .i64 0, .int .i64 0] 61) = y0 := ⟨_, rfl⟩
  rw [hy0] at hR HUx ⊢
  clear hy0
  have HU0 := Lib.hid HUx
  clear HUx
  obtain ⟨hr0_0, hr0_1⟩ := hR
  have c0_0 := cell_of_row _ _ 0 _ _ _ hr0_0
  have c0_1 := cell_of_row _ _ 1 _ _ _ hr0_0
  have c0_2 := cell_of_row _ _ 2 _ _ _ hr0_0
  simp at c0_0 c0_1 c0_2
  go_wp2_with fail
  refine (unit_any _ _).mono ?_
  rintro e ww ⟨rfl, rfl⟩
  go_upto_region 2 with fail
  rw [hc.out]
  go_wp2_with fail
  refine (unit_any _ _).mono ?_
  rintro e ww ⟨rfl, rfl⟩
  clear c0_0 c0_1 c0_2
  go_upto_region 3 with fail
  have hHr := Lib.hid hr0_1
  have hHi := Lib.hid (show (Try.prog.info? 61).map (·.size) = some (#[.int .i64 0, .int .i64 0, .int .i64 0] : Array Value).size by kernel_rfl)
  have hHz := Lib.hid (show (#[.int .i64 0, .int .i64 0, .int .i64 0] : Array Value).size = (#[.int .i64 0, .int .i64 0, .int .i64 0] : Array Value).size from rfl)
  have hHo := Lib.hid (show (#[.int .i64 0, .int .i64 0, .int .i64 0] : Array Value).all (·.oneCell') = true by simp [Value.oneCell'])
  go_wp2_with (first | (refine Au.wpList_store_row rfl 61 (.tmp 4) (.tmp 20) rfl y0 #[.int .i64 0, .int .i64 0, .int .i64 0] #[.int .i64 0, .int .i64 0, .int .i64 0] (w.heap.size + 1) 61 hHr.out rfl rfl hHi.out hHz.out hHo.out ?_))
  clear hHr hHi hHz hHo
  have hN := setRow_heap _ (w.heap.size + 1) _ #[.int .i64 0, .int .i64 0, .int .i64 0] _ _ hr0_1
  have hsz := HU0.out.size
  have HUx := below_setRow (g := w.heap.size + 1) HU0.out (by first | omega | (simp at *; omega)) #[.int .i64 0, .int .i64 0, .int .i64 0]
  have hO : ∀ kk, kk ≠ w.heap.size + 1 → (y0.setRow (w.heap.size + 1) #[.int .i64 0, .int .i64 0, .int .i64 0]).heap[kk]? = y0.heap[kk]? := fun kk hk => setRow_other _ _ _ _ hk
  obtain ⟨y1, hy1⟩ : ∃ y, y0.setRow (w.heap.size + 1) #[.int .i64 0, .int .i64 0, .int .i64 0] = y := ⟨_, rfl⟩
  rw [hy1] at hN HUx hO ⊢
  clear hy1 hsz
  have HU1 := Lib.hid HUx
  clear HUx
  have hr1_0 := (hO _ (by omega)).trans hr0_0
  have hr1_1 := hN
  clear hN hO
  clear hr0_0 hr0_1 HU0
  have c1_0 := cell_of_row _ _ 0 _ _ _ hr1_1
  have c1_1 := cell_of_row _ _ 1 _ _ _ hr1_1
  have c1_2 := cell_of_row _ _ 2 _ _ _ hr1_1
  simp at c1_0 c1_1 c1_2
  go_wp2
  exact bodyPost_ret (v := .tuple #[.agg #[.int .i64 0, .int .i64 0, .int .i64 0], .bool false]) (by simp [results, Try.results24, go_sem, c1_0, c1_1, c1_2]) rfl ⟨rfl, HU1.out⟩

set_option maxHeartbeats 2000000 in
set_option maxRecDepth 100000 in
theorem awake_at (x1 x2 x3 : Int) (hx : 0 < x2) (hB : ∀ W : World, Calls Try.prog 16 #[.agg #[.int .i64 0, .int .i64 0, .int .i64 0, .int .i64 0, .int .i64 0], .agg #[.int .i64 (Pl.sub 0 0), .int .i64 (Pl.sub 0 65536), .int .i64 (Pl.sub 0 0)], .agg #[.int .i64 0, .int .i64 65536, .int .i64 0], .int .i64 100, .int .i64 200] W fun e' w' => e' = .returned (.agg #[.int .i64 x1, .int .i64 x2, .int .i64 x3, .int .i64 0, .int .i64 0, .int .i64 0, .bool true, .bool false]) ∧ Below W.heap.size W w') (w : World) (y0 : World) (HU0 : Hid (Below w.heap.size w y0)) : Calls Try.prog 20 #[] y0 fun e' w' => e' = .returned (.bool true) ∧ Below w.heap.size w w' := by
  have hw0 := HU0.out.size
  have dx := decide_eq_true hx
  go_enter Try.func20, Try.ntmps20
  go_upto_region 1 with fail
  have HA := Lib.hid (heap_alloc_last y0 (.cells #[.int .i64 0, .int .i64 0, .int .i64 0] 39))
  have hHi := Lib.hid (show (Try.prog.info? 39).map (·.size) = some (#[.int .i64 0, .int .i64 65536, .int .i64 0] : Array Value).size by kernel_rfl)
  have hHz := Lib.hid (show (#[.int .i64 0, .int .i64 0, .int .i64 0] : Array Value).size = (#[.int .i64 0, .int .i64 65536, .int .i64 0] : Array Value).size from rfl)
  have hHo := Lib.hid (show (#[.int .i64 0, .int .i64 65536, .int .i64 0] : Array Value).all (·.oneCell') = true by simp [Value.oneCell'])
  go_upto_region 2 with (refine Au.wpList_store_row rfl 39 (.tmp 1) (.tmp 3) rfl (y0.alloc (.cells #[.int .i64 0, .int .i64 0, .int .i64 0] 39)) #[.int .i64 0, .int .i64 0, .int .i64 0] #[.int .i64 0, .int .i64 65536, .int .i64 0] (y0.heap.size) 39 HA.out rfl rfl hHi.out hHz.out hHo.out ?_)
  clear hHi hHz hHo
  have hN := setRow_heap _ (y0.heap.size) _ #[.int .i64 0, .int .i64 65536, .int .i64 0] _ _ HA.out
  clear HA
  have hsz := HU0.out.size
  have hb := below_n1 y0 (.cells #[.int .i64 0, .int .i64 0, .int .i64 0] 39)
  have HUx := below_setRow (g := y0.heap.size) (HU0.out.trans (hb.mono HU0.out.size)) (by omega) #[.int .i64 0, .int .i64 65536, .int .i64 0]
  have hO : ∀ kk, kk < y0.heap.size → ((y0.alloc (.cells #[.int .i64 0, .int .i64 0, .int .i64 0] 39)).setRow (y0.heap.size) #[.int .i64 0, .int .i64 65536, .int .i64 0]).heap[kk]? = y0.heap[kk]? := fun kk hk => (setRow_other _ _ _ _ (by omega)).trans (hb.block _ hk)
  obtain ⟨y1, hy1⟩ : ∃ y, (y0.alloc (.cells #[.int .i64 0, .int .i64 0, .int .i64 0] 39)).setRow (y0.heap.size) #[.int .i64 0, .int .i64 65536, .int .i64 0] = y := ⟨_, rfl⟩
  have hs1 : y1.heap.size = y0.heap.size + 1 := by rw [← hy1]; simp [World.setRow]
  rw [hy1] at hN HUx hO ⊢
  clear hy1 hsz hb
  have HU1 := Lib.hid HUx
  clear HUx
  have hr1_0 := hN
  clear hN hO
  clear HU0
  refine wp_region_held_drew (S := fun y => y.heap[y0.heap.size]? = some (.cells #[.int .i64 0, .int .i64 65536, .int .i64 0] 39 (0, 0))) (by kernel_rfl) (hr1_0) (fun hS0 => ?_)
  obtain ⟨y2, hy2⟩ : ∃ y, y1.drew = y := ⟨_, rfl⟩
  have HU2 := Lib.hid (show Below w.heap.size w y2 by rw [← hy2]; exact HU1.out.drew)
  have hr2_0 : y2.heap[y0.heap.size]? = some (.cells #[.int .i64 0, .int .i64 65536, .int .i64 0] 39 (0, 0)) := by rw [← hy2]; exact hr1_0
  rw [hy2] at hS0 ⊢
  clear hy2
  refine wpAnyH_take (i := 0) (v := ?_) rfl (by kernel_rfl) (by kernel_rfl) (by kernel_rfl) (fun _ _ _ h => h) (Or.inl ⟨by kernel_rfl, by (intro wz hSz; go_simp; try with_reducible rfl)⟩) hS0 ?_
  go_simp
  refine wpAnyH_take (i := 1) (v := ?_) rfl (by kernel_rfl) (by kernel_rfl) (by kernel_rfl) (fun _ _ _ h => h) (Or.inl ⟨by kernel_rfl, by (intro wz hSz; have c0_0 := cell_of_row _ _ 0 _ _ _ hSz; have c0_1 := cell_of_row _ _ 1 _ _ _ hSz; have c0_2 := cell_of_row _ _ 2 _ _ _ hSz; simp at c0_0 c0_1 c0_2; go_simp; try with_reducible rfl)⟩) hS0 ?_
  go_simp
  refine wpAnyH_take (i := 3) (v := ?_) rfl (by kernel_rfl) (by kernel_rfl) (by kernel_rfl) (fun _ _ _ h => h) (Or.inl ⟨by kernel_rfl, by (intro wz hSz; have c0_0 := cell_of_row _ _ 0 _ _ _ hSz; have c0_1 := cell_of_row _ _ 1 _ _ _ hSz; have c0_2 := cell_of_row _ _ 2 _ _ _ hSz; simp at c0_0 c0_1 c0_2; go_simp; try with_reducible rfl)⟩) hS0 ?_
  go_simp
  refine wpAnyH_ready (rs := [2, 5]) (by kernel_rfl) (by simp) ?_
  refine AllReadyH.cons rfl (fun K hK => ?_) (AllReadyH.cons rfl (fun K hK => ?_) AllReadyH.nil)
  · skip
    go_simp
    go_wp2_with (go_at_call 42; refine (vneg_any _ _ _ _).mono ?_; rintro e y3 ⟨rfl, hb3⟩)
    have hr3_0 := (hb3.block _ (lt_heap hr2_0)).trans hr2_0
    have HU3 := Lib.hid (HU2.out.trans (hb3.mono HU2.out.size))
    refine hK.out _ _ ((hb3.block _ (lt_heap hS0)).trans hS0) (fun hS3c => ?_)
    clear hK K
    refine wpAnyH_ready (rs := [4, 5]) (by kernel_rfl) (by simp) ?_
    refine AllReadyH.cons rfl (fun K hK => ?_) (AllReadyH.cons rfl (fun K hK => ?_) AllReadyH.nil)
    · skip
      go_simp
      go_wp2_with (go_at_call 16; refine (hB _).mono ?_; rintro e y4 ⟨rfl, hb4⟩)
      have hr4_0 := (hb4.block _ (lt_heap hr3_0)).trans hr3_0
      have HU4 := Lib.hid (HU3.out.trans (hb4.mono HU3.out.size))
      refine hK.out _ _ ((hb4.block _ (lt_heap hS3c)).trans hS3c) (fun hS4c => ?_)
      clear hK K
      refine wpAnyH_ready (rs := [5]) (by kernel_rfl) (by simp) ?_
      refine AllReadyH.cons rfl (fun K hK => ?_) AllReadyH.nil
      go_simp
      have hb5 := below_n1 y4 (.cells #[.int .i64 0, .int .i64 0, .int .i64 0, .int .i64 0, .int .i64 0, .int .i64 0, .bool false, .bool false] 63)
      have hN := heap_alloc_last y4 (.cells #[.int .i64 0, .int .i64 0, .int .i64 0, .int .i64 0, .int .i64 0, .int .i64 0, .bool false, .bool false] 63)
      obtain ⟨y5, hy5⟩ : ∃ y, y4.alloc (.cells #[.int .i64 0, .int .i64 0, .int .i64 0, .int .i64 0, .int .i64 0, .int .i64 0, .bool false, .bool false] 63) = y := ⟨_, rfl⟩
      rw [hy5] at hb5 hN ⊢
      clear hy5
      have hl5_0 := lt_heap hr4_0
      have hr5_0 := (hb5.block _ (lt_heap hr4_0)).trans hr4_0
      have hr5_1 := hN
      clear hN
      have HU5 := Lib.hid (HU4.out.trans (hb5.mono HU4.out.size))
      refine hK.out _ _ ((hb5.block _ (lt_heap hS4c)).trans hS4c) (fun hS5a => ?_)
      clear hK K
      refine wpAnyH_ready (rs := [6]) (by kernel_rfl) (by simp) ?_
      refine AllReadyH.cons rfl (fun K hK => ?_) AllReadyH.nil
      refine step_store_row rfl 63 (.tmp 2) (.tmp 8) rfl #[.int .i64 0, .int .i64 0, .int .i64 0, .int .i64 0, .int .i64 0, .int .i64 0, .bool false, .bool false] #[.int .i64 x1, .int .i64 x2, .int .i64 x3, .int .i64 0, .int .i64 0, .int .i64 0, .bool true, .bool false] _ 63 hr5_1 rfl (by first | rfl | (go_simp; done) | (go_simp; rfl)) (by kernel_rfl) rfl (by simp [Value.oneCell']) ?_
      have hN := setRow_heap _ (y4.heap.size) _ #[.int .i64 x1, .int .i64 x2, .int .i64 x3, .int .i64 0, .int .i64 0, .int .i64 0, .bool true, .bool false] _ _ hr5_1
      have hsz := HU5.out.size
      have HUx := below_setRow (g := y4.heap.size) HU5.out (by first | omega | (simp at *; omega)) #[.int .i64 x1, .int .i64 x2, .int .i64 x3, .int .i64 0, .int .i64 0, .int .i64 0, .bool true, .bool false]
      obtain ⟨y6, hy6⟩ : ∃ y, y5.setRow (y4.heap.size) #[.int .i64 x1, .int .i64 x2, .int .i64 x3, .int .i64 0, .int .i64 0, .int .i64 0, .bool true, .bool false] = y := ⟨_, rfl⟩
      have hO : ∀ k, k ≠ y4.heap.size → y6.heap[k]? = y5.heap[k]? := fun k hk => by rw [← hy6]; exact setRow_other _ _ _ _ hk
      rw [hy6] at hN HUx ⊢
      clear hy6
      have HU6 := Lib.hid HUx
      clear HUx
      have hr6_0 := (hO _ (by omega)).trans hr5_0
      have hr6_1 := hN
      clear hN
      refine hK.out _ _ ((hO _ (by omega)).trans hS5a) (fun hS6s => ?_)
      clear hK K
      refine wpAnyH_done (by kernel_rfl) ?_ _
      have c0_0 := cell_of_row _ _ 0 _ _ _ hr6_0
      have c0_1 := cell_of_row _ _ 1 _ _ _ hr6_0
      have c0_2 := cell_of_row _ _ 2 _ _ _ hr6_0
      have c1_0 := cell_of_row _ _ 0 _ _ _ hr6_1
      have c1_1 := cell_of_row _ _ 1 _ _ _ hr6_1
      have c1_2 := cell_of_row _ _ 2 _ _ _ hr6_1
      have c1_3 := cell_of_row _ _ 3 _ _ _ hr6_1
      have c1_4 := cell_of_row _ _ 4 _ _ _ hr6_1
      have c1_5 := cell_of_row _ _ 5 _ _ _ hr6_1
      have c1_6 := cell_of_row _ _ 6 _ _ _ hr6_1
      have c1_7 := cell_of_row _ _ 7 _ _ _ hr6_1
      simp at c0_0 c0_1 c0_2 c1_0 c1_1 c1_2 c1_3 c1_4 c1_5 c1_6 c1_7
      have hfd : ∀ W, (Instr.field 63 (.agg #[.int .i64 0, .int .i64 0, .int .i64 0, .int .i64 0, .int .i64 0, .int .i64 0, .bool false, .bool false]) 2).run Try.prog W = .ok (.bool false) W := fun W => by simp [Instr.field, asAgg, go_sem]
      go_wp2_with (go_at_call 16; refine (bounce_other 0 0 0 0 0 65536 0 0 65536 0 1 2 3 (by decide) (by decide) (by decide) _).mono ?_; rintro e ye ⟨rfl, hbe⟩)
      go_ret
      exact ⟨rfl, HU6.out.trans (hbe.mono HU6.out.size)⟩
    · skip
      go_simp
      have hb4 := below_n1 y3 (.cells #[.int .i64 0, .int .i64 0, .int .i64 0, .int .i64 0, .int .i64 0, .int .i64 0, .bool false, .bool false] 63)
      have hN := heap_alloc_last y3 (.cells #[.int .i64 0, .int .i64 0, .int .i64 0, .int .i64 0, .int .i64 0, .int .i64 0, .bool false, .bool false] 63)
      obtain ⟨y4, hy4⟩ : ∃ y, y3.alloc (.cells #[.int .i64 0, .int .i64 0, .int .i64 0, .int .i64 0, .int .i64 0, .int .i64 0, .bool false, .bool false] 63) = y := ⟨_, rfl⟩
      rw [hy4] at hb4 hN ⊢
      clear hy4
      have hl4_0 := lt_heap hr3_0
      have hr4_0 := (hb4.block _ (lt_heap hr3_0)).trans hr3_0
      have hr4_1 := hN
      clear hN
      have HU4 := Lib.hid (HU3.out.trans (hb4.mono HU3.out.size))
      refine hK.out _ _ ((hb4.block _ (lt_heap hS3c)).trans hS3c) (fun hS4a => ?_)
      clear hK K
      refine wpAnyH_ready (rs := [4]) (by kernel_rfl) (by simp) ?_
      refine AllReadyH.cons rfl (fun K hK => ?_) AllReadyH.nil
      go_simp
      go_wp2_with (go_at_call 16; refine (hB _).mono ?_; rintro e y5 ⟨rfl, hb5⟩)
      have hr5_0 := (hb5.block _ (lt_heap hr4_0)).trans hr4_0
      have hr5_1 := (hb5.block _ (lt_heap hr4_1)).trans hr4_1
      have HU5 := Lib.hid (HU4.out.trans (hb5.mono HU4.out.size))
      refine hK.out _ _ ((hb5.block _ (lt_heap hS4a)).trans hS4a) (fun hS5c => ?_)
      clear hK K
      refine wpAnyH_ready (rs := [6]) (by kernel_rfl) (by simp) ?_
      refine AllReadyH.cons rfl (fun K hK => ?_) AllReadyH.nil
      refine step_store_row rfl 63 (.tmp 2) (.tmp 8) rfl #[.int .i64 0, .int .i64 0, .int .i64 0, .int .i64 0, .int .i64 0, .int .i64 0, .bool false, .bool false] #[.int .i64 x1, .int .i64 x2, .int .i64 x3, .int .i64 0, .int .i64 0, .int .i64 0, .bool true, .bool false] _ 63 hr5_1 rfl (by first | rfl | (go_simp; done) | (go_simp; rfl)) (by kernel_rfl) rfl (by simp [Value.oneCell']) ?_
      have hN := setRow_heap _ (y3.heap.size) _ #[.int .i64 x1, .int .i64 x2, .int .i64 x3, .int .i64 0, .int .i64 0, .int .i64 0, .bool true, .bool false] _ _ hr5_1
      have hsz := HU5.out.size
      have HUx := below_setRow (g := y3.heap.size) HU5.out (by first | omega | (simp at *; omega)) #[.int .i64 x1, .int .i64 x2, .int .i64 x3, .int .i64 0, .int .i64 0, .int .i64 0, .bool true, .bool false]
      obtain ⟨y6, hy6⟩ : ∃ y, y5.setRow (y3.heap.size) #[.int .i64 x1, .int .i64 x2, .int .i64 x3, .int .i64 0, .int .i64 0, .int .i64 0, .bool true, .bool false] = y := ⟨_, rfl⟩
      have hO : ∀ k, k ≠ y3.heap.size → y6.heap[k]? = y5.heap[k]? := fun k hk => by rw [← hy6]; exact setRow_other _ _ _ _ hk
      rw [hy6] at hN HUx ⊢
      clear hy6
      have HU6 := Lib.hid HUx
      clear HUx
      have hr6_0 := (hO _ (by omega)).trans hr5_0
      have hr6_1 := hN
      clear hN
      refine hK.out _ _ ((hO _ (by omega)).trans hS5c) (fun hS6s => ?_)
      clear hK K
      refine wpAnyH_done (by kernel_rfl) ?_ _
      have c0_0 := cell_of_row _ _ 0 _ _ _ hr6_0
      have c0_1 := cell_of_row _ _ 1 _ _ _ hr6_0
      have c0_2 := cell_of_row _ _ 2 _ _ _ hr6_0
      have c1_0 := cell_of_row _ _ 0 _ _ _ hr6_1
      have c1_1 := cell_of_row _ _ 1 _ _ _ hr6_1
      have c1_2 := cell_of_row _ _ 2 _ _ _ hr6_1
      have c1_3 := cell_of_row _ _ 3 _ _ _ hr6_1
      have c1_4 := cell_of_row _ _ 4 _ _ _ hr6_1
      have c1_5 := cell_of_row _ _ 5 _ _ _ hr6_1
      have c1_6 := cell_of_row _ _ 6 _ _ _ hr6_1
      have c1_7 := cell_of_row _ _ 7 _ _ _ hr6_1
      simp at c0_0 c0_1 c0_2 c1_0 c1_1 c1_2 c1_3 c1_4 c1_5 c1_6 c1_7
      have hfd : ∀ W, (Instr.field 63 (.agg #[.int .i64 0, .int .i64 0, .int .i64 0, .int .i64 0, .int .i64 0, .int .i64 0, .bool false, .bool false]) 2).run Try.prog W = .ok (.bool false) W := fun W => by simp [Instr.field, asAgg, go_sem]
      go_wp2_with (go_at_call 16; refine (bounce_other 0 0 0 0 0 65536 0 0 65536 0 1 2 3 (by decide) (by decide) (by decide) _).mono ?_; rintro e ye ⟨rfl, hbe⟩)
      go_ret
      exact ⟨rfl, HU6.out.trans (hbe.mono HU6.out.size)⟩
  · skip
    go_simp
    have hb3 := below_n1 y2 (.cells #[.int .i64 0, .int .i64 0, .int .i64 0, .int .i64 0, .int .i64 0, .int .i64 0, .bool false, .bool false] 63)
    have hN := heap_alloc_last y2 (.cells #[.int .i64 0, .int .i64 0, .int .i64 0, .int .i64 0, .int .i64 0, .int .i64 0, .bool false, .bool false] 63)
    obtain ⟨y3, hy3⟩ : ∃ y, y2.alloc (.cells #[.int .i64 0, .int .i64 0, .int .i64 0, .int .i64 0, .int .i64 0, .int .i64 0, .bool false, .bool false] 63) = y := ⟨_, rfl⟩
    rw [hy3] at hb3 hN ⊢
    clear hy3
    have hl3_0 := lt_heap hr2_0
    have hr3_0 := (hb3.block _ (lt_heap hr2_0)).trans hr2_0
    have hr3_1 := hN
    clear hN
    have HU3 := Lib.hid (HU2.out.trans (hb3.mono HU2.out.size))
    refine hK.out _ _ ((hb3.block _ (lt_heap hS0)).trans hS0) (fun hS3a => ?_)
    clear hK K
    refine wpAnyH_ready (rs := [2]) (by kernel_rfl) (by simp) ?_
    refine AllReadyH.cons rfl (fun K hK => ?_) AllReadyH.nil
    go_simp
    go_wp2_with (go_at_call 42; refine (vneg_any _ _ _ _).mono ?_; rintro e y4 ⟨rfl, hb4⟩)
    have hr4_0 := (hb4.block _ (lt_heap hr3_0)).trans hr3_0
    have hr4_1 := (hb4.block _ (lt_heap hr3_1)).trans hr3_1
    have HU4 := Lib.hid (HU3.out.trans (hb4.mono HU3.out.size))
    refine hK.out _ _ ((hb4.block _ (lt_heap hS3a)).trans hS3a) (fun hS4c => ?_)
    clear hK K
    refine wpAnyH_ready (rs := [4]) (by kernel_rfl) (by simp) ?_
    refine AllReadyH.cons rfl (fun K hK => ?_) AllReadyH.nil
    go_simp
    go_wp2_with (go_at_call 16; refine (hB _).mono ?_; rintro e y5 ⟨rfl, hb5⟩)
    have hr5_0 := (hb5.block _ (lt_heap hr4_0)).trans hr4_0
    have hr5_1 := (hb5.block _ (lt_heap hr4_1)).trans hr4_1
    have HU5 := Lib.hid (HU4.out.trans (hb5.mono HU4.out.size))
    refine hK.out _ _ ((hb5.block _ (lt_heap hS4c)).trans hS4c) (fun hS5c => ?_)
    clear hK K
    refine wpAnyH_ready (rs := [6]) (by kernel_rfl) (by simp) ?_
    refine AllReadyH.cons rfl (fun K hK => ?_) AllReadyH.nil
    refine step_store_row rfl 63 (.tmp 2) (.tmp 8) rfl #[.int .i64 0, .int .i64 0, .int .i64 0, .int .i64 0, .int .i64 0, .int .i64 0, .bool false, .bool false] #[.int .i64 x1, .int .i64 x2, .int .i64 x3, .int .i64 0, .int .i64 0, .int .i64 0, .bool true, .bool false] _ 63 hr5_1 rfl (by first | rfl | (go_simp; done) | (go_simp; rfl)) (by kernel_rfl) rfl (by simp [Value.oneCell']) ?_
    have hN := setRow_heap _ (y2.heap.size) _ #[.int .i64 x1, .int .i64 x2, .int .i64 x3, .int .i64 0, .int .i64 0, .int .i64 0, .bool true, .bool false] _ _ hr5_1
    have hsz := HU5.out.size
    have HUx := below_setRow (g := y2.heap.size) HU5.out (by first | omega | (simp at *; omega)) #[.int .i64 x1, .int .i64 x2, .int .i64 x3, .int .i64 0, .int .i64 0, .int .i64 0, .bool true, .bool false]
    obtain ⟨y6, hy6⟩ : ∃ y, y5.setRow (y2.heap.size) #[.int .i64 x1, .int .i64 x2, .int .i64 x3, .int .i64 0, .int .i64 0, .int .i64 0, .bool true, .bool false] = y := ⟨_, rfl⟩
    have hO : ∀ k, k ≠ y2.heap.size → y6.heap[k]? = y5.heap[k]? := fun k hk => by rw [← hy6]; exact setRow_other _ _ _ _ hk
    rw [hy6] at hN HUx ⊢
    clear hy6
    have HU6 := Lib.hid HUx
    clear HUx
    have hr6_0 := (hO _ (by omega)).trans hr5_0
    have hr6_1 := hN
    clear hN
    refine hK.out _ _ ((hO _ (by omega)).trans hS5c) (fun hS6s => ?_)
    clear hK K
    refine wpAnyH_done (by kernel_rfl) ?_ _
    have c0_0 := cell_of_row _ _ 0 _ _ _ hr6_0
    have c0_1 := cell_of_row _ _ 1 _ _ _ hr6_0
    have c0_2 := cell_of_row _ _ 2 _ _ _ hr6_0
    have c1_0 := cell_of_row _ _ 0 _ _ _ hr6_1
    have c1_1 := cell_of_row _ _ 1 _ _ _ hr6_1
    have c1_2 := cell_of_row _ _ 2 _ _ _ hr6_1
    have c1_3 := cell_of_row _ _ 3 _ _ _ hr6_1
    have c1_4 := cell_of_row _ _ 4 _ _ _ hr6_1
    have c1_5 := cell_of_row _ _ 5 _ _ _ hr6_1
    have c1_6 := cell_of_row _ _ 6 _ _ _ hr6_1
    have c1_7 := cell_of_row _ _ 7 _ _ _ hr6_1
    simp at c0_0 c0_1 c0_2 c1_0 c1_1 c1_2 c1_3 c1_4 c1_5 c1_6 c1_7
    have hfd : ∀ W, (Instr.field 63 (.agg #[.int .i64 0, .int .i64 0, .int .i64 0, .int .i64 0, .int .i64 0, .int .i64 0, .bool false, .bool false]) 2).run Try.prog W = .ok (.bool false) W := fun W => by simp [Instr.field, asAgg, go_sem]
    go_wp2_with (go_at_call 16; refine (bounce_other 0 0 0 0 0 65536 0 0 65536 0 1 2 3 (by decide) (by decide) (by decide) _).mono ?_; rintro e ye ⟨rfl, hbe⟩)
    go_ret
    exact ⟨rfl, HU6.out.trans (hbe.mono HU6.out.size)⟩

theorem root_of (a : Int) (n r : Nat) (h0 : ¬ a ≤ 0) (hn : (Pl.held a).toNat * 65536 = n) (h1 : r * r ≤ n) (h2 : n < (r + 1) * (r + 1)) : Pl.root a = r := by
  unfold Pl.root
  rw [if_neg h0, hn, Pl.rt_uniq h1 h2]

theorem gr_ex : gr 100 = 5120 := by
  show Pl.root (65536 - Pl.mul (gz 100) (gz 100)) = 5120
  rw [show 65536 - Pl.mul (gz 100) (gz 100) = 400 by decide +kernel]
  exact root_of 400 26214400 5120 (by decide) (by decide +kernel) (by decide) (by decide)

theorem gx_ex : gx 100 200 = 5118 := by
  unfold gx
  rw [gr_ex]
  decide +kernel

theorem gy_ex : gy 100 200 = 99 := by
  unfold gy
  rw [gr_ex]
  decide +kernel

theorem len_ex : len3 (Pl.add (gx 100 200) 0) (Pl.add (gy 100 200) 65536) (Pl.add (gz 100) 0) = 92751 := by
  unfold len3
  rw [gx_ex, gy_ex, show Pl.add (Pl.add (Pl.add 0 (Pl.mul (Pl.add 5118 0) (Pl.add 5118 0))) (Pl.mul (Pl.add 99 65536) (Pl.add 99 65536))) (Pl.mul (Pl.add (gz 100) 0) (Pl.add (gz 100) 0)) = 131269 by decide +kernel]
  exact root_of 131269 8602845184 92751 (by decide) (by decide +kernel) (by decide) (by decide)

theorem dx_ex : dx 100 200 0 65536 0 = 3616 := by
  unfold dx un
  rw [len_ex, gx_ex]
  decide +kernel

theorem dy_ex : dy 100 200 0 65536 0 = 46376 := by
  unfold dy un
  rw [len_ex, gy_ex]
  decide +kernel

theorem dz_ex : dz 100 200 0 65536 0 = 46165 := by
  unfold dz un
  rw [len_ex]
  decide +kernel

theorem dt_ex : dt 3616 46376 46165 0 65536 0 = 46376 := by decide +kernel

theorem dome_ex (w : World) : Calls Try.prog 31 #[.agg #[.int .i64 0, .int .i64 65536, .int .i64 0], .int .i64 100, .int .i64 200] w fun e w' => e = .returned (.agg #[.int .i64 3616, .int .i64 46376, .int .i64 46165]) ∧ Below w.heap.size w w' := by
  have h := dome_any_neg 100 200 0 65536 0 (by rw [dx_ex, dy_ex, dz_ex, dt_ex]; decide) w
  rw [dx_ex, dy_ex, dz_ex] at h
  exact h

theorem neg_ex : Pl.sub 0 0 = 0 ∧ Pl.sub 0 65536 = -65536 := by decide +kernel

theorem awake_any (w : World) : Calls Try.prog 20 #[] w fun e' w' => e' = .returned (.bool true) ∧ Below w.heap.size w w' :=
  awake_at 3616 46376 46165 (by decide) (fun W => bounce0_pos 0 0 0 0 _ _ _ 0 65536 0 100 200 3616 46376 46165 46376 dome_ex (fun W => by have h := dot_any 3616 46376 46165 0 65536 0 W; rw [show Pl.add (Pl.add (Pl.add 0 (Pl.mul 3616 0)) (Pl.mul 46376 65536)) (Pl.mul 46165 0) = 46376 from dt_ex] at h; exact h) (by decide) W) w w (Lib.hid (Below.refl _ _))

end Go.Proofs.Ytplcbdmiccpnnaa.Co
