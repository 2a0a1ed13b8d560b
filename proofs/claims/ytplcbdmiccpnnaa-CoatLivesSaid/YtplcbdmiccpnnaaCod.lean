/- Surfaces: whether a way of light goes on, by the document. -/
import Derived.Test.YtplcbdmiccpnnaaAu
import Derived.Test.YtplcbdmiccpnnaaBc
namespace Go.Proofs.Ytplcbdmiccpnnaa.Co
open Go.RowKit Go.Proofs.Ytplcbdmiccpnnaa Go.Proofs.Ytplcbdmiccpnnaa.Wa Go.Proofs.Ytplcbdmiccpnnaa.Ve Go.Proofs.Ytplcbdmiccpnnaa.Au
set_option linter.unusedVariables false
set_option linter.unusedSimpArgs false

set_option maxHeartbeats 4000000 in
set_option maxRecDepth 100000 in
theorem rlives0 (r g b u : Int) (h1 : ¬ r < g) (h2 : ¬ r < b) (h3 : ¬ Pl.unit r < 16384) (h4 : ¬ (Pl.unit r) ≤ Pl.unit u) (w : World)  : Calls Try.prog 26 #[.agg #[.int .i64 r, .int .i64 g, .int .i64 b], .int .i64 u] w fun e' w' => e' = .returned (.tuple #[.agg #[.int .i64 (Pl.div r (Pl.unit r)), .int .i64 (Pl.div g (Pl.unit r)), .int .i64 (Pl.div b (Pl.unit r))], .bool true]) ∧ Below w.heap.size w w' := by
  have k1 := decide_eq_false h1
  have k2 := decide_eq_false h2
  have k3 := decide_eq_false h3
  have k4 := decide_eq_false h4
  go_enter Try.func26, Try.ntmps26
  go_upto_region 1 with fail
  have hR := Au.rows2 w (.cells #[.int .i64 r, .int .i64 g, .int .i64 b] 57) (.cells #[.int .i64 0, .int .i64 0, .int .i64 0] 57)
  have HUx := below_n2 w (.cells #[.int .i64 r, .int .i64 g, .int .i64 b] 57) (.cells #[.int .i64 0, .int .i64 0, .int .i64 0] 57)
  obtain ⟨y0, hy0⟩ : ∃ y0, (w.alloc (.cells #[.int .i64 r, .int .i64 g, .int .i64 b] 57)).alloc (.cells #[.int .i64 0, .int .i64 0, .int .i64 0] 57) = y0 := ⟨_, rfl⟩
  rw [hy0] at hR HUx ⊢
  clear hy0
  have HU0 := Lib.hid HUx
  clear HUx
  obtain ⟨hr0_0, hr0_1⟩ := hR
  have c0_0 := cell_of_row _ _ 0 _ _ _ hr0_0
  have c0_1 := cell_of_row _ _ 1 _ _ _ hr0_0
  have c0_2 := cell_of_row _ _ 2 _ _ _ hr0_0
  simp at c0_0 c0_1 c0_2
  go_wp2_with fail
  refine wp_loop_rounds 3 ?_
  rw [rounds_succ]
  go_wp2_with fail
  rw [rounds_succ]
  go_wp2_with fail
  rw [rounds_succ]
  go_upto_region 12 with (first | (go_at_call 48; refine (refUnit_any _ _).mono ?_; rintro e ww ⟨rfl, rfl⟩) | (go_at_call 49; refine (refDiv_any _ _ _).mono ?_; rintro e ww ⟨rfl, rfl⟩))
  clear c0_0 c0_1 c0_2
  go_upto_region 13 with fail
  have hb1 := below_n1 y0 (.cells #[.int .i64 0, .int .i64 0, .int .i64 0] 57)
  have hN := heap_alloc_last y0 (.cells #[.int .i64 0, .int .i64 0, .int .i64 0] 57)
  obtain ⟨y1, hy1⟩ : ∃ y, y0.alloc (.cells #[.int .i64 0, .int .i64 0, .int .i64 0] 57) = y := ⟨_, rfl⟩
  have hs1 : y1.heap.size = y0.heap.size + 1 := by rw [← hy1]; simp
  rw [hy1] at hb1 hN ⊢
  clear hy1
  have hl1_0 := lt_heap hr0_0
  have hl1_1 := lt_heap hr0_1
  have hr1_0 := (hb1.block _ (lt_heap hr0_0)).trans hr0_0
  have hr1_1 := (hb1.block _ (lt_heap hr0_1)).trans hr0_1
  have HU1 := Lib.hid (HU0.out.trans (hb1.mono HU0.out.size))
  clear hr0_0 hr0_1 HU0
  have hr1_2 := hN
  clear hN
  have c0_0 := cell_of_row _ _ 0 _ _ _ hr1_0
  have c0_1 := cell_of_row _ _ 1 _ _ _ hr1_0
  have c0_2 := cell_of_row _ _ 2 _ _ _ hr1_0
  have c2_0 := cell_of_row _ _ 0 _ _ _ hr1_2
  have c2_1 := cell_of_row _ _ 1 _ _ _ hr1_2
  have c2_2 := cell_of_row _ _ 2 _ _ _ hr1_2
  simp at c0_0 c0_1 c0_2 c2_0 c2_1 c2_2
  have fz : ∀ j, y1.frozen? ⟨y0.heap.size, j, none⟩ = false := fun j => by simp [World.frozen?, hr1_2]
  go_upto_region 14 with fail
  refine wp_loop_rounds 4 ?_
  rw [rounds_succ]
  go_wp2_with (first | (go_at_call 48; refine (refUnit_any _ _).mono ?_; rintro e ww ⟨rfl, rfl⟩) | (go_at_call 49; refine (refDiv_any _ _ _).mono ?_; rintro e ww ⟨rfl, rfl⟩))
  rw [rounds_succ]
  go_wp2_with (first | (go_at_call 48; refine (refUnit_any _ _).mono ?_; rintro e ww ⟨rfl, rfl⟩) | (go_at_call 49; refine (refDiv_any _ _ _).mono ?_; rintro e ww ⟨rfl, rfl⟩))
  rw [rounds_succ]
  go_wp2_with (first | (go_at_call 48; refine (refUnit_any _ _).mono ?_; rintro e ww ⟨rfl, rfl⟩) | (go_at_call 49; refine (refDiv_any _ _ _).mono ?_; rintro e ww ⟨rfl, rfl⟩))
  rw [rounds_succ]
  go_upto_region 17 with fail
  clear fz
  clear c0_0 c0_1 c0_2 c2_0 c2_1 c2_2
  have hsz := HU1.out.size
  have hN : (((y1.setCell ⟨y0.heap.size, 0, none⟩ (.int .i64 (Pl.div r (Pl.unit r)))).setCell ⟨y0.heap.size, 1, none⟩ (.int .i64 (Pl.div g (Pl.unit r)))).setCell ⟨y0.heap.size, 2, none⟩ (.int .i64 (Pl.div b (Pl.unit r)))).heap[y0.heap.size]? = some (.cells #[.int .i64 (Pl.div r (Pl.unit r)), .int .i64 (Pl.div g (Pl.unit r)), .int .i64 (Pl.div b (Pl.unit r))] 57 (0, 0)) := (heap_setCell_same _ _ 2 _ _ _ (heap_setCell_same _ _ 1 _ _ _ (heap_setCell_same _ _ 0 _ _ _ hr1_2)))
  have hO : ∀ kk, kk ≠ y0.heap.size → (((y1.setCell ⟨y0.heap.size, 0, none⟩ (.int .i64 (Pl.div r (Pl.unit r)))).setCell ⟨y0.heap.size, 1, none⟩ (.int .i64 (Pl.div g (Pl.unit r)))).setCell ⟨y0.heap.size, 2, none⟩ (.int .i64 (Pl.div b (Pl.unit r)))).heap[kk]? = y1.heap[kk]? := fun kk hk => (Below.heap_setCell ((y1.setCell ⟨y0.heap.size, 0, none⟩ (.int .i64 (Pl.div r (Pl.unit r)))).setCell ⟨y0.heap.size, 1, none⟩ (.int .i64 (Pl.div g (Pl.unit r)))) ⟨y0.heap.size, 2, none⟩ (.int .i64 (Pl.div b (Pl.unit r))) kk hk).trans ((Below.heap_setCell (y1.setCell ⟨y0.heap.size, 0, none⟩ (.int .i64 (Pl.div r (Pl.unit r)))) ⟨y0.heap.size, 1, none⟩ (.int .i64 (Pl.div g (Pl.unit r))) kk hk).trans ((Below.heap_setCell y1 ⟨y0.heap.size, 0, none⟩ (.int .i64 (Pl.div r (Pl.unit r))) kk hk).trans (rfl)))
  have HUx : Below w.heap.size w (((y1.setCell ⟨y0.heap.size, 0, none⟩ (.int .i64 (Pl.div r (Pl.unit r)))).setCell ⟨y0.heap.size, 1, none⟩ (.int .i64 (Pl.div g (Pl.unit r)))).setCell ⟨y0.heap.size, 2, none⟩ (.int .i64 (Pl.div b (Pl.unit r)))) := (((HU1.out.setCell (by show w.heap.size ≤ y0.heap.size; omega) _).setCell (by show w.heap.size ≤ y0.heap.size; omega) _).setCell (by show w.heap.size ≤ y0.heap.size; omega) _)
  obtain ⟨y2, hy2⟩ : ∃ y, ((y1.setCell ⟨y0.heap.size, 0, none⟩ (.int .i64 (Pl.div r (Pl.unit r)))).setCell ⟨y0.heap.size, 1, none⟩ (.int .i64 (Pl.div g (Pl.unit r)))).setCell ⟨y0.heap.size, 2, none⟩ (.int .i64 (Pl.div b (Pl.unit r))) = y := ⟨_, rfl⟩
  rw [hy2] at hN hO HUx ⊢
  clear hy2 hsz
  have HU2 := Lib.hid HUx
  have hr2_0 := (hO _ (by omega)).trans hr1_0
  have hr2_1 := (hO _ (by omega)).trans hr1_1
  have hr2_2 := hN
  clear hN hO HUx
  clear hr1_0 hr1_1 hr1_2 HU1
  have c2_0 := cell_of_row _ _ 0 _ _ _ hr2_2
  have c2_1 := cell_of_row _ _ 1 _ _ _ hr2_2
  have c2_2 := cell_of_row _ _ 2 _ _ _ hr2_2
  simp at c2_0 c2_1 c2_2
  have hHr := Lib.hid hr2_1
  have hHi := Lib.hid (show (Try.prog.info? 57).map (·.size) = some (#[.int .i64 (Pl.div r (Pl.unit r)), .int .i64 (Pl.div g (Pl.unit r)), .int .i64 (Pl.div b (Pl.unit r))] : Array Value).size by kernel_rfl)
  have hHz := Lib.hid (show (#[.int .i64 0, .int .i64 0, .int .i64 0] : Array Value).size = (#[.int .i64 (Pl.div r (Pl.unit r)), .int .i64 (Pl.div g (Pl.unit r)), .int .i64 (Pl.div b (Pl.unit r))] : Array Value).size from rfl)
  have hHo := Lib.hid (show (#[.int .i64 (Pl.div r (Pl.unit r)), .int .i64 (Pl.div g (Pl.unit r)), .int .i64 (Pl.div b (Pl.unit r))] : Array Value).all (·.oneCell') = true by simp [Value.oneCell'])
  go_wp2_with (first | (refine Au.wpList_store_row rfl 57 (.tmp 4) (.tmp 45) rfl y2 #[.int .i64 0, .int .i64 0, .int .i64 0] #[.int .i64 (Pl.div r (Pl.unit r)), .int .i64 (Pl.div g (Pl.unit r)), .int .i64 (Pl.div b (Pl.unit r))] (w.heap.size + 1) 57 hHr.out rfl rfl hHi.out hHz.out hHo.out ?_))
  clear c2_0 c2_1 c2_2
  clear hHr hHi hHz hHo
  have hN := setRow_heap _ (w.heap.size + 1) _ #[.int .i64 (Pl.div r (Pl.unit r)), .int .i64 (Pl.div g (Pl.unit r)), .int .i64 (Pl.div b (Pl.unit r))] _ _ hr2_1
  have hsz := HU2.out.size
  have HUx := below_setRow (g := w.heap.size + 1) HU2.out (by first | omega | (simp at *; omega)) #[.int .i64 (Pl.div r (Pl.unit r)), .int .i64 (Pl.div g (Pl.unit r)), .int .i64 (Pl.div b (Pl.unit r))]
  have hO : ∀ kk, kk ≠ w.heap.size + 1 → (y2.setRow (w.heap.size + 1) #[.int .i64 (Pl.div r (Pl.unit r)), .int .i64 (Pl.div g (Pl.unit r)), .int .i64 (Pl.div b (Pl.unit r))]).heap[kk]? = y2.heap[kk]? := fun kk hk => setRow_other _ _ _ _ hk
  obtain ⟨y3, hy3⟩ : ∃ y, y2.setRow (w.heap.size + 1) #[.int .i64 (Pl.div r (Pl.unit r)), .int .i64 (Pl.div g (Pl.unit r)), .int .i64 (Pl.div b (Pl.unit r))] = y := ⟨_, rfl⟩
  rw [hy3] at hN HUx hO ⊢
  clear hy3 hsz
  have HU3 := Lib.hid HUx
  clear HUx
  have hr3_0 := (hO _ (by omega)).trans hr2_0
  have hr3_1 := hN
  have hr3_2 := (hO _ (by omega)).trans hr2_2
  clear hN hO
  clear hr2_0 hr2_1 hr2_2 HU2
  have c1_0 := cell_of_row _ _ 0 _ _ _ hr3_1
  have c1_1 := cell_of_row _ _ 1 _ _ _ hr3_1
  have c1_2 := cell_of_row _ _ 2 _ _ _ hr3_1
  simp at c1_0 c1_1 c1_2
  go_wp2
  exact bodyPost_ret (v := .tuple #[.agg #[.int .i64 (Pl.div r (Pl.unit r)), .int .i64 (Pl.div g (Pl.unit r)), .int .i64 (Pl.div b (Pl.unit r))], .bool true]) (by simp [results, Try.results26, go_sem, c1_0, c1_1, c1_2]) rfl ⟨rfl, HU3.out⟩

set_option maxHeartbeats 4000000 in
set_option maxRecDepth 100000 in
theorem rlives1 (r g b u : Int) (h1 : r < g) (h2 : ¬ g < b) (h3 : ¬ Pl.unit g < 16384) (h4 : ¬ (Pl.unit g) ≤ Pl.unit u) (w : World)  : Calls Try.prog 26 #[.agg #[.int .i64 r, .int .i64 g, .int .i64 b], .int .i64 u] w fun e' w' => e' = .returned (.tuple #[.agg #[.int .i64 (Pl.div r (Pl.unit g)), .int .i64 (Pl.div g (Pl.unit g)), .int .i64 (Pl.div b (Pl.unit g))], .bool true]) ∧ Below w.heap.size w w' := by
  have k1 := decide_eq_true h1
  have k2 := decide_eq_false h2
  have k3 := decide_eq_false h3
  have k4 := decide_eq_false h4
  go_enter Try.func26, Try.ntmps26
  go_upto_region 1 with fail
  have hR := Au.rows2 w (.cells #[.int .i64 r, .int .i64 g, .int .i64 b] 57) (.cells #[.int .i64 0, .int .i64 0, .int .i64 0] 57)
  have HUx := below_n2 w (.cells #[.int .i64 r, .int .i64 g, .int .i64 b] 57) (.cells #[.int .i64 0, .int .i64 0, .int .i64 0] 57)
  obtain ⟨y0, hy0⟩ : ∃ y0, (w.alloc (.cells #[.int .i64 r, .int .i64 g, .int .i64 b] 57)).alloc (.cells #[.int .i64 0, .int .i64 0, .int .i64 0] 57) = y0 := ⟨_, rfl⟩
  rw [hy0] at hR HUx ⊢
  clear hy0
  have HU0 := Lib.hid HUx
  clear HUx
  obtain ⟨hr0_0, hr0_1⟩ := hR
  have c0_0 := cell_of_row _ _ 0 _ _ _ hr0_0
  have c0_1 := cell_of_row _ _ 1 _ _ _ hr0_0
  have c0_2 := cell_of_row _ _ 2 _ _ _ hr0_0
  simp at c0_0 c0_1 c0_2
  go_wp2_with fail
  refine wp_loop_rounds 3 ?_
  rw [rounds_succ]
  go_wp2_with fail
  rw [rounds_succ]
  go_wp2_with fail
  rw [rounds_succ]
  go_upto_region 12 with (first | (go_at_call 48; refine (refUnit_any _ _).mono ?_; rintro e ww ⟨rfl, rfl⟩) | (go_at_call 49; refine (refDiv_any _ _ _).mono ?_; rintro e ww ⟨rfl, rfl⟩))
  clear c0_0 c0_1 c0_2
  go_upto_region 13 with fail
  have hb1 := below_n1 y0 (.cells #[.int .i64 0, .int .i64 0, .int .i64 0] 57)
  have hN := heap_alloc_last y0 (.cells #[.int .i64 0, .int .i64 0, .int .i64 0] 57)
  obtain ⟨y1, hy1⟩ : ∃ y, y0.alloc (.cells #[.int .i64 0, .int .i64 0, .int .i64 0] 57) = y := ⟨_, rfl⟩
  have hs1 : y1.heap.size = y0.heap.size + 1 := by rw [← hy1]; simp
  rw [hy1] at hb1 hN ⊢
  clear hy1
  have hl1_0 := lt_heap hr0_0
  have hl1_1 := lt_heap hr0_1
  have hr1_0 := (hb1.block _ (lt_heap hr0_0)).trans hr0_0
  have hr1_1 := (hb1.block _ (lt_heap hr0_1)).trans hr0_1
  have HU1 := Lib.hid (HU0.out.trans (hb1.mono HU0.out.size))
  clear hr0_0 hr0_1 HU0
  have hr1_2 := hN
  clear hN
  have c0_0 := cell_of_row _ _ 0 _ _ _ hr1_0
  have c0_1 := cell_of_row _ _ 1 _ _ _ hr1_0
  have c0_2 := cell_of_row _ _ 2 _ _ _ hr1_0
  have c2_0 := cell_of_row _ _ 0 _ _ _ hr1_2
  have c2_1 := cell_of_row _ _ 1 _ _ _ hr1_2
  have c2_2 := cell_of_row _ _ 2 _ _ _ hr1_2
  simp at c0_0 c0_1 c0_2 c2_0 c2_1 c2_2
  have fz : ∀ j, y1.frozen? ⟨y0.heap.size, j, none⟩ = false := fun j => by simp [World.frozen?, hr1_2]
  go_upto_region 14 with fail
  refine wp_loop_rounds 4 ?_
  rw [rounds_succ]
  go_wp2_with (first | (go_at_call 48; refine (refUnit_any _ _).mono ?_; rintro e ww ⟨rfl, rfl⟩) | (go_at_call 49; refine (refDiv_any _ _ _).mono ?_; rintro e ww ⟨rfl, rfl⟩))
  rw [rounds_succ]
  go_wp2_with (first | (go_at_call 48; refine (refUnit_any _ _).mono ?_; rintro e ww ⟨rfl, rfl⟩) | (go_at_call 49; refine (refDiv_any _ _ _).mono ?_; rintro e ww ⟨rfl, rfl⟩))
  rw [rounds_succ]
  go_wp2_with (first | (go_at_call 48; refine (refUnit_any _ _).mono ?_; rintro e ww ⟨rfl, rfl⟩) | (go_at_call 49; refine (refDiv_any _ _ _).mono ?_; rintro e ww ⟨rfl, rfl⟩))
  rw [rounds_succ]
  go_upto_region 17 with fail
  clear fz
  clear c0_0 c0_1 c0_2 c2_0 c2_1 c2_2
  have hsz := HU1.out.size
  have hN : (((y1.setCell ⟨y0.heap.size, 0, none⟩ (.int .i64 (Pl.div r (Pl.unit g)))).setCell ⟨y0.heap.size, 1, none⟩ (.int .i64 (Pl.div g (Pl.unit g)))).setCell ⟨y0.heap.size, 2, none⟩ (.int .i64 (Pl.div b (Pl.unit g)))).heap[y0.heap.size]? = some (.cells #[.int .i64 (Pl.div r (Pl.unit g)), .int .i64 (Pl.div g (Pl.unit g)), .int .i64 (Pl.div b (Pl.unit g))] 57 (0, 0)) := (heap_setCell_same _ _ 2 _ _ _ (heap_setCell_same _ _ 1 _ _ _ (heap_setCell_same _ _ 0 _ _ _ hr1_2)))
  have hO : ∀ kk, kk ≠ y0.heap.size → (((y1.setCell ⟨y0.heap.size, 0, none⟩ (.int .i64 (Pl.div r (Pl.unit g)))).setCell ⟨y0.heap.size, 1, none⟩ (.int .i64 (Pl.div g (Pl.unit g)))).setCell ⟨y0.heap.size, 2, none⟩ (.int .i64 (Pl.div b (Pl.unit g)))).heap[kk]? = y1.heap[kk]? := fun kk hk => (Below.heap_setCell ((y1.setCell ⟨y0.heap.size, 0, none⟩ (.int .i64 (Pl.div r (Pl.unit g)))).setCell ⟨y0.heap.size, 1, none⟩ (.int .i64 (Pl.div g (Pl.unit g)))) ⟨y0.heap.size, 2, none⟩ (.int .i64 (Pl.div b (Pl.unit g))) kk hk).trans ((Below.heap_setCell (y1.setCell ⟨y0.heap.size, 0, none⟩ (.int .i64 (Pl.div r (Pl.unit g)))) ⟨y0.heap.size, 1, none⟩ (.int .i64 (Pl.div g (Pl.unit g))) kk hk).trans ((Below.heap_setCell y1 ⟨y0.heap.size, 0, none⟩ (.int .i64 (Pl.div r (Pl.unit g))) kk hk).trans (rfl)))
  have HUx : Below w.heap.size w (((y1.setCell ⟨y0.heap.size, 0, none⟩ (.int .i64 (Pl.div r (Pl.unit g)))).setCell ⟨y0.heap.size, 1, none⟩ (.int .i64 (Pl.div g (Pl.unit g)))).setCell ⟨y0.heap.size, 2, none⟩ (.int .i64 (Pl.div b (Pl.unit g)))) := (((HU1.out.setCell (by show w.heap.size ≤ y0.heap.size; omega) _).setCell (by show w.heap.size ≤ y0.heap.size; omega) _).setCell (by show w.heap.size ≤ y0.heap.size; omega) _)
  obtain ⟨y2, hy2⟩ : ∃ y, ((y1.setCell ⟨y0.heap.size, 0, none⟩ (.int .i64 (Pl.div r (Pl.unit g)))).setCell ⟨y0.heap.size, 1, none⟩ (.int .i64 (Pl.div g (Pl.unit g)))).setCell ⟨y0.heap.size, 2, none⟩ (.int .i64 (Pl.div b (Pl.unit g))) = y := ⟨_, rfl⟩
  rw [hy2] at hN hO HUx ⊢
  clear hy2 hsz
  have HU2 := Lib.hid HUx
  have hr2_0 := (hO _ (by omega)).trans hr1_0
  have hr2_1 := (hO _ (by omega)).trans hr1_1
  have hr2_2 := hN
  clear hN hO HUx
  clear hr1_0 hr1_1 hr1_2 HU1
  have c2_0 := cell_of_row _ _ 0 _ _ _ hr2_2
  have c2_1 := cell_of_row _ _ 1 _ _ _ hr2_2
  have c2_2 := cell_of_row _ _ 2 _ _ _ hr2_2
  simp at c2_0 c2_1 c2_2
  have hHr := Lib.hid hr2_1
  have hHi := Lib.hid (show (Try.prog.info? 57).map (·.size) = some (#[.int .i64 (Pl.div r (Pl.unit g)), .int .i64 (Pl.div g (Pl.unit g)), .int .i64 (Pl.div b (Pl.unit g))] : Array Value).size by kernel_rfl)
  have hHz := Lib.hid (show (#[.int .i64 0, .int .i64 0, .int .i64 0] : Array Value).size = (#[.int .i64 (Pl.div r (Pl.unit g)), .int .i64 (Pl.div g (Pl.unit g)), .int .i64 (Pl.div b (Pl.unit g))] : Array Value).size from rfl)
  have hHo := Lib.hid (show (#[.int .i64 (Pl.div r (Pl.unit g)), .int .i64 (Pl.div g (Pl.unit g)), .int .i64 (Pl.div b (Pl.unit g))] : Array Value).all (·.oneCell') = true by simp [Value.oneCell'])
  go_wp2_with (first | (refine Au.wpList_store_row rfl 57 (.tmp 4) (.tmp 45) rfl y2 #[.int .i64 0, .int .i64 0, .int .i64 0] #[.int .i64 (Pl.div r (Pl.unit g)), .int .i64 (Pl.div g (Pl.unit g)), .int .i64 (Pl.div b (Pl.unit g))] (w.heap.size + 1) 57 hHr.out rfl rfl hHi.out hHz.out hHo.out ?_))
  clear c2_0 c2_1 c2_2
  clear hHr hHi hHz hHo
  have hN := setRow_heap _ (w.heap.size + 1) _ #[.int .i64 (Pl.div r (Pl.unit g)), .int .i64 (Pl.div g (Pl.unit g)), .int .i64 (Pl.div b (Pl.unit g))] _ _ hr2_1
  have hsz := HU2.out.size
  have HUx := below_setRow (g := w.heap.size + 1) HU2.out (by first | omega | (simp at *; omega)) #[.int .i64 (Pl.div r (Pl.unit g)), .int .i64 (Pl.div g (Pl.unit g)), .int .i64 (Pl.div b (Pl.unit g))]
  have hO : ∀ kk, kk ≠ w.heap.size + 1 → (y2.setRow (w.heap.size + 1) #[.int .i64 (Pl.div r (Pl.unit g)), .int .i64 (Pl.div g (Pl.unit g)), .int .i64 (Pl.div b (Pl.unit g))]).heap[kk]? = y2.heap[kk]? := fun kk hk => setRow_other _ _ _ _ hk
  obtain ⟨y3, hy3⟩ : ∃ y, y2.setRow (w.heap.size + 1) #[.int .i64 (Pl.div r (Pl.unit g)), .int .i64 (Pl.div g (Pl.unit g)), .int .i64 (Pl.div b (Pl.unit g))] = y := ⟨_, rfl⟩
  rw [hy3] at hN HUx hO ⊢
  clear hy3 hsz
  have HU3 := Lib.hid HUx
  clear HUx
  have hr3_0 := (hO _ (by omega)).trans hr2_0
  have hr3_1 := hN
  have hr3_2 := (hO _ (by omega)).trans hr2_2
  clear hN hO
  clear hr2_0 hr2_1 hr2_2 HU2
  have c1_0 := cell_of_row _ _ 0 _ _ _ hr3_1
  have c1_1 := cell_of_row _ _ 1 _ _ _ hr3_1
  have c1_2 := cell_of_row _ _ 2 _ _ _ hr3_1
  simp at c1_0 c1_1 c1_2
  go_wp2
  exact bodyPost_ret (v := .tuple #[.agg #[.int .i64 (Pl.div r (Pl.unit g)), .int .i64 (Pl.div g (Pl.unit g)), .int .i64 (Pl.div b (Pl.unit g))], .bool true]) (by simp [results, Try.results26, go_sem, c1_0, c1_1, c1_2]) rfl ⟨rfl, HU3.out⟩

set_option maxHeartbeats 4000000 in
set_option maxRecDepth 100000 in
theorem rlives2 (r g b u : Int) (h1 : ¬ r < g) (h2 : r < b) (h3 : ¬ Pl.unit b < 16384) (h4 : ¬ (Pl.unit b) ≤ Pl.unit u) (w : World)  : Calls Try.prog 26 #[.agg #[.int .i64 r, .int .i64 g, .int .i64 b], .int .i64 u] w fun e' w' => e' = .returned (.tuple #[.agg #[.int .i64 (Pl.div r (Pl.unit b)), .int .i64 (Pl.div g (Pl.unit b)), .int .i64 (Pl.div b (Pl.unit b))], .bool true]) ∧ Below w.heap.size w w' := by
  have k1 := decide_eq_false h1
  have k2 := decide_eq_true h2
  have k3 := decide_eq_false h3
  have k4 := decide_eq_false h4
  go_enter Try.func26, Try.ntmps26
  go_upto_region 1 with fail
  have hR := Au.rows2 w (.cells #[.int .i64 r, .int .i64 g, .int .i64 b] 57) (.cells #[.int .i64 0, .int .i64 0, .int .i64 0] 57)
  have HUx := below_n2 w (.cells #[.int .i64 r, .int .i64 g, .int .i64 b] 57) (.cells #[.int .i64 0, .int .i64 0, .int .i64 0] 57)
  obtain ⟨y0, hy0⟩ : ∃ y0, (w.alloc (.cells #[.int .i64 r, .int .i64 g, .int .i64 b] 57)).alloc (.cells #[.int .i64 0, .int .i64 0, .int .i64 0] 57) = y0 := ⟨_, rfl⟩
  rw [hy0] at hR HUx ⊢
  clear hy0
  have HU0 := Lib.hid HUx
  clear HUx
  obtain ⟨hr0_0, hr0_1⟩ := hR
  have c0_0 := cell_of_row _ _ 0 _ _ _ hr0_0
  have c0_1 := cell_of_row _ _ 1 _ _ _ hr0_0
  have c0_2 := cell_of_row _ _ 2 _ _ _ hr0_0
  simp at c0_0 c0_1 c0_2
  go_wp2_with fail
  refine wp_loop_rounds 3 ?_
  rw [rounds_succ]
  go_wp2_with fail
  rw [rounds_succ]
  go_wp2_with fail
  rw [rounds_succ]
  go_upto_region 12 with (first | (go_at_call 48; refine (refUnit_any _ _).mono ?_; rintro e ww ⟨rfl, rfl⟩) | (go_at_call 49; refine (refDiv_any _ _ _).mono ?_; rintro e ww ⟨rfl, rfl⟩))
  clear c0_0 c0_1 c0_2
  go_upto_region 13 with fail
  have hb1 := below_n1 y0 (.cells #[.int .i64 0, .int .i64 0, .int .i64 0] 57)
  have hN := heap_alloc_last y0 (.cells #[.int .i64 0, .int .i64 0, .int .i64 0] 57)
  obtain ⟨y1, hy1⟩ : ∃ y, y0.alloc (.cells #[.int .i64 0, .int .i64 0, .int .i64 0] 57) = y := ⟨_, rfl⟩
  have hs1 : y1.heap.size = y0.heap.size + 1 := by rw [← hy1]; simp
  rw [hy1] at hb1 hN ⊢
  clear hy1
  have hl1_0 := lt_heap hr0_0
  have hl1_1 := lt_heap hr0_1
  have hr1_0 := (hb1.block _ (lt_heap hr0_0)).trans hr0_0
  have hr1_1 := (hb1.block _ (lt_heap hr0_1)).trans hr0_1
  have HU1 := Lib.hid (HU0.out.trans (hb1.mono HU0.out.size))
  clear hr0_0 hr0_1 HU0
  have hr1_2 := hN
  clear hN
  have c0_0 := cell_of_row _ _ 0 _ _ _ hr1_0
  have c0_1 := cell_of_row _ _ 1 _ _ _ hr1_0
  have c0_2 := cell_of_row _ _ 2 _ _ _ hr1_0
  have c2_0 := cell_of_row _ _ 0 _ _ _ hr1_2
  have c2_1 := cell_of_row _ _ 1 _ _ _ hr1_2
  have c2_2 := cell_of_row _ _ 2 _ _ _ hr1_2
  simp at c0_0 c0_1 c0_2 c2_0 c2_1 c2_2
  have fz : ∀ j, y1.frozen? ⟨y0.heap.size, j, none⟩ = false := fun j => by simp [World.frozen?, hr1_2]
  go_upto_region 14 with fail
  refine wp_loop_rounds 4 ?_
  rw [rounds_succ]
  go_wp2_with (first | (go_at_call 48; refine (refUnit_any _ _).mono ?_; rintro e ww ⟨rfl, rfl⟩) | (go_at_call 49; refine (refDiv_any _ _ _).mono ?_; rintro e ww ⟨rfl, rfl⟩))
  rw [rounds_succ]
  go_wp2_with (first | (go_at_call 48; refine (refUnit_any _ _).mono ?_; rintro e ww ⟨rfl, rfl⟩) | (go_at_call 49; refine (refDiv_any _ _ _).mono ?_; rintro e ww ⟨rfl, rfl⟩))
  rw [rounds_succ]
  go_wp2_with (first | (go_at_call 48; refine (refUnit_any _ _).mono ?_; rintro e ww ⟨rfl, rfl⟩) | (go_at_call 49; refine (refDiv_any _ _ _).mono ?_; rintro e ww ⟨rfl, rfl⟩))
  rw [rounds_succ]
  go_upto_region 17 with fail
  clear fz
  clear c0_0 c0_1 c0_2 c2_0 c2_1 c2_2
  have hsz := HU1.out.size
  have hN : (((y1.setCell ⟨y0.heap.size, 0, none⟩ (.int .i64 (Pl.div r (Pl.unit b)))).setCell ⟨y0.heap.size, 1, none⟩ (.int .i64 (Pl.div g (Pl.unit b)))).setCell ⟨y0.heap.size, 2, none⟩ (.int .i64 (Pl.div b (Pl.unit b)))).heap[y0.heap.size]? = some (.cells #[.int .i64 (Pl.div r (Pl.unit b)), .int .i64 (Pl.div g (Pl.unit b)), .int .i64 (Pl.div b (Pl.unit b))] 57 (0, 0)) := (heap_setCell_same _ _ 2 _ _ _ (heap_setCell_same _ _ 1 _ _ _ (heap_setCell_same _ _ 0 _ _ _ hr1_2)))
  have hO : ∀ kk, kk ≠ y0.heap.size → (((y1.setCell ⟨y0.heap.size, 0, none⟩ (.int .i64 (Pl.div r (Pl.unit b)))).setCell ⟨y0.heap.size, 1, none⟩ (.int .i64 (Pl.div g (Pl.unit b)))).setCell ⟨y0.heap.size, 2, none⟩ (.int .i64 (Pl.div b (Pl.unit b)))).heap[kk]? = y1.heap[kk]? := fun kk hk => (Below.heap_setCell ((y1.setCell ⟨y0.heap.size, 0, none⟩ (.int .i64 (Pl.div r (Pl.unit b)))).setCell ⟨y0.heap.size, 1, none⟩ (.int .i64 (Pl.div g (Pl.unit b)))) ⟨y0.heap.size, 2, none⟩ (.int .i64 (Pl.div b (Pl.unit b))) kk hk).trans ((Below.heap_setCell (y1.setCell ⟨y0.heap.size, 0, none⟩ (.int .i64 (Pl.div r (Pl.unit b)))) ⟨y0.heap.size, 1, none⟩ (.int .i64 (Pl.div g (Pl.unit b))) kk hk).trans ((Below.heap_setCell y1 ⟨y0.heap.size, 0, none⟩ (.int .i64 (Pl.div r (Pl.unit b))) kk hk).trans (rfl)))
  have HUx : Below w.heap.size w (((y1.setCell ⟨y0.heap.size, 0, none⟩ (.int .i64 (Pl.div r (Pl.unit b)))).setCell ⟨y0.heap.size, 1, none⟩ (.int .i64 (Pl.div g (Pl.unit b)))).setCell ⟨y0.heap.size, 2, none⟩ (.int .i64 (Pl.div b (Pl.unit b)))) := (((HU1.out.setCell (by show w.heap.size ≤ y0.heap.size; omega) _).setCell (by show w.heap.size ≤ y0.heap.size; omega) _).setCell (by show w.heap.size ≤ y0.heap.size; omega) _)
  obtain ⟨y2, hy2⟩ : ∃ y, ((y1.setCell ⟨y0.heap.size, 0, none⟩ (.int .i64 (Pl.div r (Pl.unit b)))).setCell ⟨y0.heap.size, 1, none⟩ (.int .i64 (Pl.div g (Pl.unit b)))).setCell ⟨y0.heap.size, 2, none⟩ (.int .i64 (Pl.div b (Pl.unit b))) = y := ⟨_, rfl⟩
  rw [hy2] at hN hO HUx ⊢
  clear hy2 hsz
  have HU2 := Lib.hid HUx
  have hr2_0 := (hO _ (by omega)).trans hr1_0
  have hr2_1 := (hO _ (by omega)).trans hr1_1
  have hr2_2 := hN
  clear hN hO HUx
  clear hr1_0 hr1_1 hr1_2 HU1
  have c2_0 := cell_of_row _ _ 0 _ _ _ hr2_2
  have c2_1 := cell_of_row _ _ 1 _ _ _ hr2_2
  have c2_2 := cell_of_row _ _ 2 _ _ _ hr2_2
  simp at c2_0 c2_1 c2_2
  have hHr := Lib.hid hr2_1
  have hHi := Lib.hid (show (Try.prog.info? 57).map (·.size) = some (#[.int .i64 (Pl.div r (Pl.unit b)), .int .i64 (Pl.div g (Pl.unit b)), .int .i64 (Pl.div b (Pl.unit b))] : Array Value).size by kernel_rfl)
  have hHz := Lib.hid (show (#[.int .i64 0, .int .i64 0, .int .i64 0] : Array Value).size = (#[.int .i64 (Pl.div r (Pl.unit b)), .int .i64 (Pl.div g (Pl.unit b)), .int .i64 (Pl.div b (Pl.unit b))] : Array Value).size from rfl)
  have hHo := Lib.hid (show (#[.int .i64 (Pl.div r (Pl.unit b)), .int .i64 (Pl.div g (Pl.unit b)), .int .i64 (Pl.div b (Pl.unit b))] : Array Value).all (·.oneCell') = true by simp [Value.oneCell'])
  go_wp2_with (first | (refine Au.wpList_store_row rfl 57 (.tmp 4) (.tmp 45) rfl y2 #[.int .i64 0, .int .i64 0, .int .i64 0] #[.int .i64 (Pl.div r (Pl.unit b)), .int .i64 (Pl.div g (Pl.unit b)), .int .i64 (Pl.div b (Pl.unit b))] (w.heap.size + 1) 57 hHr.out rfl rfl hHi.out hHz.out hHo.out ?_))
  clear c2_0 c2_1 c2_2
  clear hHr hHi hHz hHo
  have hN := setRow_heap _ (w.heap.size + 1) _ #[.int .i64 (Pl.div r (Pl.unit b)), .int .i64 (Pl.div g (Pl.unit b)), .int .i64 (Pl.div b (Pl.unit b))] _ _ hr2_1
  have hsz := HU2.out.size
  have HUx := below_setRow (g := w.heap.size + 1) HU2.out (by first | omega | (simp at *; omega)) #[.int .i64 (Pl.div r (Pl.unit b)), .int .i64 (Pl.div g (Pl.unit b)), .int .i64 (Pl.div b (Pl.unit b))]
  have hO : ∀ kk, kk ≠ w.heap.size + 1 → (y2.setRow (w.heap.size + 1) #[.int .i64 (Pl.div r (Pl.unit b)), .int .i64 (Pl.div g (Pl.unit b)), .int .i64 (Pl.div b (Pl.unit b))]).heap[kk]? = y2.heap[kk]? := fun kk hk => setRow_other _ _ _ _ hk
  obtain ⟨y3, hy3⟩ : ∃ y, y2.setRow (w.heap.size + 1) #[.int .i64 (Pl.div r (Pl.unit b)), .int .i64 (Pl.div g (Pl.unit b)), .int .i64 (Pl.div b (Pl.unit b))] = y := ⟨_, rfl⟩
  rw [hy3] at hN HUx hO ⊢
  clear hy3 hsz
  have HU3 := Lib.hid HUx
  clear HUx
  have hr3_0 := (hO _ (by omega)).trans hr2_0
  have hr3_1 := hN
  have hr3_2 := (hO _ (by omega)).trans hr2_2
  clear hN hO
  clear hr2_0 hr2_1 hr2_2 HU2
  have c1_0 := cell_of_row _ _ 0 _ _ _ hr3_1
  have c1_1 := cell_of_row _ _ 1 _ _ _ hr3_1
  have c1_2 := cell_of_row _ _ 2 _ _ _ hr3_1
  simp at c1_0 c1_1 c1_2
  go_wp2
  exact bodyPost_ret (v := .tuple #[.agg #[.int .i64 (Pl.div r (Pl.unit b)), .int .i64 (Pl.div g (Pl.unit b)), .int .i64 (Pl.div b (Pl.unit b))], .bool true]) (by simp [results, Try.results26, go_sem, c1_0, c1_1, c1_2]) rfl ⟨rfl, HU3.out⟩

set_option maxHeartbeats 4000000 in
set_option maxRecDepth 100000 in
theorem rlives3 (r g b u : Int) (h1 : r < g) (h2 : g < b) (h3 : ¬ Pl.unit b < 16384) (h4 : ¬ (Pl.unit b) ≤ Pl.unit u) (w : World)  : Calls Try.prog 26 #[.agg #[.int .i64 r, .int .i64 g, .int .i64 b], .int .i64 u] w fun e' w' => e' = .returned (.tuple #[.agg #[.int .i64 (Pl.div r (Pl.unit b)), .int .i64 (Pl.div g (Pl.unit b)), .int .i64 (Pl.div b (Pl.unit b))], .bool true]) ∧ Below w.heap.size w w' := by
  have k1 := decide_eq_true h1
  have k2 := decide_eq_true h2
  have k3 := decide_eq_false h3
  have k4 := decide_eq_false h4
  go_enter Try.func26, Try.ntmps26
  go_upto_region 1 with fail
  have hR := Au.rows2 w (.cells #[.int .i64 r, .int .i64 g, .int .i64 b] 57) (.cells #[.int .i64 0, .int .i64 0, .int .i64 0] 57)
  have HUx := below_n2 w (.cells #[.int .i64 r, .int .i64 g, .int .i64 b] 57) (.cells #[.int .i64 0, .int .i64 0, .int .i64 0] 57)
  obtain ⟨y0, hy0⟩ : ∃ y0, (w.alloc (.cells #[.int .i64 r, .int .i64 g, .int .i64 b] 57)).alloc (.cells #[.int .i64 0, .int .i64 0, .int .i64 0] 57) = y0 := ⟨_, rfl⟩
  rw [hy0] at hR HUx ⊢
  clear hy0
  have HU0 := Lib.hid HUx
  clear HUx
  obtain ⟨hr0_0, hr0_1⟩ := hR
  have c0_0 := cell_of_row _ _ 0 _ _ _ hr0_0
  have c0_1 := cell_of_row _ _ 1 _ _ _ hr0_0
  have c0_2 := cell_of_row _ _ 2 _ _ _ hr0_0
  simp at c0_0 c0_1 c0_2
  go_wp2_with fail
  refine wp_loop_rounds 3 ?_
  rw [rounds_succ]
  go_wp2_with fail
  rw [rounds_succ]
  go_wp2_with fail
  rw [rounds_succ]
  go_upto_region 12 with (first | (go_at_call 48; refine (refUnit_any _ _).mono ?_; rintro e ww ⟨rfl, rfl⟩) | (go_at_call 49; refine (refDiv_any _ _ _).mono ?_; rintro e ww ⟨rfl, rfl⟩))
  clear c0_0 c0_1 c0_2
  go_upto_region 13 with fail
  have hb1 := below_n1 y0 (.cells #[.int .i64 0, .int .i64 0, .int .i64 0] 57)
  have hN := heap_alloc_last y0 (.cells #[.int .i64 0, .int .i64 0, .int .i64 0] 57)
  obtain ⟨y1, hy1⟩ : ∃ y, y0.alloc (.cells #[.int .i64 0, .int .i64 0, .int .i64 0] 57) = y := ⟨_, rfl⟩
  have hs1 : y1.heap.size = y0.heap.size + 1 := by rw [← hy1]; simp
  rw [hy1] at hb1 hN ⊢
  clear hy1
  have hl1_0 := lt_heap hr0_0
  have hl1_1 := lt_heap hr0_1
  have hr1_0 := (hb1.block _ (lt_heap hr0_0)).trans hr0_0
  have hr1_1 := (hb1.block _ (lt_heap hr0_1)).trans hr0_1
  have HU1 := Lib.hid (HU0.out.trans (hb1.mono HU0.out.size))
  clear hr0_0 hr0_1 HU0
  have hr1_2 := hN
  clear hN
  have c0_0 := cell_of_row _ _ 0 _ _ _ hr1_0
  have c0_1 := cell_of_row _ _ 1 _ _ _ hr1_0
  have c0_2 := cell_of_row _ _ 2 _ _ _ hr1_0
  have c2_0 := cell_of_row _ _ 0 _ _ _ hr1_2
  have c2_1 := cell_of_row _ _ 1 _ _ _ hr1_2
  have c2_2 := cell_of_row _ _ 2 _ _ _ hr1_2
  simp at c0_0 c0_1 c0_2 c2_0 c2_1 c2_2
  have fz : ∀ j, y1.frozen? ⟨y0.heap.size, j, none⟩ = false := fun j => by simp [World.frozen?, hr1_2]
  go_upto_region 14 with fail
  refine wp_loop_rounds 4 ?_
  rw [rounds_succ]
  go_wp2_with (first | (go_at_call 48; refine (refUnit_any _ _).mono ?_; rintro e ww ⟨rfl, rfl⟩) | (go_at_call 49; refine (refDiv_any _ _ _).mono ?_; rintro e ww ⟨rfl, rfl⟩))
  rw [rounds_succ]
  go_wp2_with (first | (go_at_call 48; refine (refUnit_any _ _).mono ?_; rintro e ww ⟨rfl, rfl⟩) | (go_at_call 49; refine (refDiv_any _ _ _).mono ?_; rintro e ww ⟨rfl, rfl⟩))
  rw [rounds_succ]
  go_wp2_with (first | (go_at_call 48; refine (refUnit_any _ _).mono ?_; rintro e ww ⟨rfl, rfl⟩) | (go_at_call 49; refine (refDiv_any _ _ _).mono ?_; rintro e ww ⟨rfl, rfl⟩))
  rw [rounds_succ]
  go_upto_region 17 with fail
  clear fz
  clear c0_0 c0_1 c0_2 c2_0 c2_1 c2_2
  have hsz := HU1.out.size
  have hN : (((y1.setCell ⟨y0.heap.size, 0, none⟩ (.int .i64 (Pl.div r (Pl.unit b)))).setCell ⟨y0.heap.size, 1, none⟩ (.int .i64 (Pl.div g (Pl.unit b)))).setCell ⟨y0.heap.size, 2, none⟩ (.int .i64 (Pl.div b (Pl.unit b)))).heap[y0.heap.size]? = some (.cells #[.int .i64 (Pl.div r (Pl.unit b)), .int .i64 (Pl.div g (Pl.unit b)), .int .i64 (Pl.div b (Pl.unit b))] 57 (0, 0)) := (heap_setCell_same _ _ 2 _ _ _ (heap_setCell_same _ _ 1 _ _ _ (heap_setCell_same _ _ 0 _ _ _ hr1_2)))
  have hO : ∀ kk, kk ≠ y0.heap.size → (((y1.setCell ⟨y0.heap.size, 0, none⟩ (.int .i64 (Pl.div r (Pl.unit b)))).setCell ⟨y0.heap.size, 1, none⟩ (.int .i64 (Pl.div g (Pl.unit b)))).setCell ⟨y0.heap.size, 2, none⟩ (.int .i64 (Pl.div b (Pl.unit b)))).heap[kk]? = y1.heap[kk]? := fun kk hk => (Below.heap_setCell ((y1.setCell ⟨y0.heap.size, 0, none⟩ (.int .i64 (Pl.div r (Pl.unit b)))).setCell ⟨y0.heap.size, 1, none⟩ (.int .i64 (Pl.div g (Pl.unit b)))) ⟨y0.heap.size, 2, none⟩ (.int .i64 (Pl.div b (Pl.unit b))) kk hk).trans ((Below.heap_setCell (y1.setCell ⟨y0.heap.size, 0, none⟩ (.int .i64 (Pl.div r (Pl.unit b)))) ⟨y0.heap.size, 1, none⟩ (.int .i64 (Pl.div g (Pl.unit b))) kk hk).trans ((Below.heap_setCell y1 ⟨y0.heap.size, 0, none⟩ (.int .i64 (Pl.div r (Pl.unit b))) kk hk).trans (rfl)))
  have HUx : Below w.heap.size w (((y1.setCell ⟨y0.heap.size, 0, none⟩ (.int .i64 (Pl.div r (Pl.unit b)))).setCell ⟨y0.heap.size, 1, none⟩ (.int .i64 (Pl.div g (Pl.unit b)))).setCell ⟨y0.heap.size, 2, none⟩ (.int .i64 (Pl.div b (Pl.unit b)))) := (((HU1.out.setCell (by show w.heap.size ≤ y0.heap.size; omega) _).setCell (by show w.heap.size ≤ y0.heap.size; omega) _).setCell (by show w.heap.size ≤ y0.heap.size; omega) _)
  obtain ⟨y2, hy2⟩ : ∃ y, ((y1.setCell ⟨y0.heap.size, 0, none⟩ (.int .i64 (Pl.div r (Pl.unit b)))).setCell ⟨y0.heap.size, 1, none⟩ (.int .i64 (Pl.div g (Pl.unit b)))).setCell ⟨y0.heap.size, 2, none⟩ (.int .i64 (Pl.div b (Pl.unit b))) = y := ⟨_, rfl⟩
  rw [hy2] at hN hO HUx ⊢
  clear hy2 hsz
  have HU2 := Lib.hid HUx
  have hr2_0 := (hO _ (by omega)).trans hr1_0
  have hr2_1 := (hO _ (by omega)).trans hr1_1
  have hr2_2 := hN
  clear hN hO HUx
  clear hr1_0 hr1_1 hr1_2 HU1
  have c2_0 := cell_of_row _ _ 0 _ _ _ hr2_2
  have c2_1 := cell_of_row _ _ 1 _ _ _ hr2_2
  have c2_2 := cell_of_row _ _ 2 _ _ _ hr2_2
  simp at c2_0 c2_1 c2_2
  have hHr := Lib.hid hr2_1
  have hHi := Lib.hid (show (Try.prog.info? 57).map (·.size) = some (#[.int .i64 (Pl.div r (Pl.unit b)), .int .i64 (Pl.div g (Pl.unit b)), .int .i64 (Pl.div b (Pl.unit b))] : Array Value).size by kernel_rfl)
  have hHz := Lib.hid (show (#[.int .i64 0, .int .i64 0, .int .i64 0] : Array Value).size = (#[.int .i64 (Pl.div r (Pl.unit b)), .int .i64 (Pl.div g (Pl.unit b)), .int .i64 (Pl.div b (Pl.unit b))] : Array Value).size from rfl)
  have hHo := Lib.hid (show (#[.int .i64 (Pl.div r (Pl.unit b)), .int .i64 (Pl.div g (Pl.unit b)), .int .i64 (Pl.div b (Pl.unit b))] : Array Value).all (·.oneCell') = true by simp [Value.oneCell'])
  go_wp2_with (first | (refine Au.wpList_store_row rfl 57 (.tmp 4) (.tmp 45) rfl y2 #[.int .i64 0, .int .i64 0, .int .i64 0] #[.int .i64 (Pl.div r (Pl.unit b)), .int .i64 (Pl.div g (Pl.unit b)), .int .i64 (Pl.div b (Pl.unit b))] (w.heap.size + 1) 57 hHr.out rfl rfl hHi.out hHz.out hHo.out ?_))
  clear c2_0 c2_1 c2_2
  clear hHr hHi hHz hHo
  have hN := setRow_heap _ (w.heap.size + 1) _ #[.int .i64 (Pl.div r (Pl.unit b)), .int .i64 (Pl.div g (Pl.unit b)), .int .i64 (Pl.div b (Pl.unit b))] _ _ hr2_1
  have hsz := HU2.out.size
  have HUx := below_setRow (g := w.heap.size + 1) HU2.out (by first | omega | (simp at *; omega)) #[.int .i64 (Pl.div r (Pl.unit b)), .int .i64 (Pl.div g (Pl.unit b)), .int .i64 (Pl.div b (Pl.unit b))]
  have hO : ∀ kk, kk ≠ w.heap.size + 1 → (y2.setRow (w.heap.size + 1) #[.int .i64 (Pl.div r (Pl.unit b)), .int .i64 (Pl.div g (Pl.unit b)), .int .i64 (Pl.div b (Pl.unit b))]).heap[kk]? = y2.heap[kk]? := fun kk hk => setRow_other _ _ _ _ hk
  obtain ⟨y3, hy3⟩ : ∃ y, y2.setRow (w.heap.size + 1) #[.int .i64 (Pl.div r (Pl.unit b)), .int .i64 (Pl.div g (Pl.unit b)), .int .i64 (Pl.div b (Pl.unit b))] = y := ⟨_, rfl⟩
  rw [hy3] at hN HUx hO ⊢
  clear hy3 hsz
  have HU3 := Lib.hid HUx
  clear HUx
  have hr3_0 := (hO _ (by omega)).trans hr2_0
  have hr3_1 := hN
  have hr3_2 := (hO _ (by omega)).trans hr2_2
  clear hN hO
  clear hr2_0 hr2_1 hr2_2 HU2
  have c1_0 := cell_of_row _ _ 0 _ _ _ hr3_1
  have c1_1 := cell_of_row _ _ 1 _ _ _ hr3_1
  have c1_2 := cell_of_row _ _ 2 _ _ _ hr3_1
  simp at c1_0 c1_1 c1_2
  go_wp2
  exact bodyPost_ret (v := .tuple #[.agg #[.int .i64 (Pl.div r (Pl.unit b)), .int .i64 (Pl.div g (Pl.unit b)), .int .i64 (Pl.div b (Pl.unit b))], .bool true]) (by simp [results, Try.results26, go_sem, c1_0, c1_1, c1_2]) rfl ⟨rfl, HU3.out⟩

set_option maxHeartbeats 4000000 in
set_option maxRecDepth 100000 in
theorem rlives4 (r g b u : Int) (h1 : ¬ r < g) (h2 : ¬ r < b) (h3 : Pl.unit r < 16384) (h4 : ¬ 16384 ≤ Pl.unit u) (w : World)  : Calls Try.prog 26 #[.agg #[.int .i64 r, .int .i64 g, .int .i64 b], .int .i64 u] w fun e' w' => e' = .returned (.tuple #[.agg #[.int .i64 (Pl.div r 16384), .int .i64 (Pl.div g 16384), .int .i64 (Pl.div b 16384)], .bool true]) ∧ Below w.heap.size w w' := by
  have k1 := decide_eq_false h1
  have k2 := decide_eq_false h2
  have k3 := decide_eq_true h3
  have k4 := decide_eq_false h4
  go_enter Try.func26, Try.ntmps26
  go_upto_region 1 with fail
  have hR := Au.rows2 w (.cells #[.int .i64 r, .int .i64 g, .int .i64 b] 57) (.cells #[.int .i64 0, .int .i64 0, .int .i64 0] 57)
  have HUx := below_n2 w (.cells #[.int .i64 r, .int .i64 g, .int .i64 b] 57) (.cells #[.int .i64 0, .int .i64 0, .int .i64 0] 57)
  obtain ⟨y0, hy0⟩ : ∃ y0, (w.alloc (.cells #[.int .i64 r, .int .i64 g, .int .i64 b] 57)).alloc (.cells #[.int .i64 0, .int .i64 0, .int .i64 0] 57) = y0 := ⟨_, rfl⟩
  rw [hy0] at hR HUx ⊢
  clear hy0
  have HU0 := Lib.hid HUx
  clear HUx
  obtain ⟨hr0_0, hr0_1⟩ := hR
  have c0_0 := cell_of_row _ _ 0 _ _ _ hr0_0
  have c0_1 := cell_of_row _ _ 1 _ _ _ hr0_0
  have c0_2 := cell_of_row _ _ 2 _ _ _ hr0_0
  simp at c0_0 c0_1 c0_2
  go_wp2_with fail
  refine wp_loop_rounds 3 ?_
  rw [rounds_succ]
  go_wp2_with fail
  rw [rounds_succ]
  go_wp2_with fail
  rw [rounds_succ]
  go_upto_region 12 with (first | (go_at_call 48; refine (refUnit_any _ _).mono ?_; rintro e ww ⟨rfl, rfl⟩) | (go_at_call 49; refine (refDiv_any _ _ _).mono ?_; rintro e ww ⟨rfl, rfl⟩))
  clear c0_0 c0_1 c0_2
  go_upto_region 13 with fail
  have hb1 := below_n1 y0 (.cells #[.int .i64 0, .int .i64 0, .int .i64 0] 57)
  have hN := heap_alloc_last y0 (.cells #[.int .i64 0, .int .i64 0, .int .i64 0] 57)
  obtain ⟨y1, hy1⟩ : ∃ y, y0.alloc (.cells #[.int .i64 0, .int .i64 0, .int .i64 0] 57) = y := ⟨_, rfl⟩
  have hs1 : y1.heap.size = y0.heap.size + 1 := by rw [← hy1]; simp
  rw [hy1] at hb1 hN ⊢
  clear hy1
  have hl1_0 := lt_heap hr0_0
  have hl1_1 := lt_heap hr0_1
  have hr1_0 := (hb1.block _ (lt_heap hr0_0)).trans hr0_0
  have hr1_1 := (hb1.block _ (lt_heap hr0_1)).trans hr0_1
  have HU1 := Lib.hid (HU0.out.trans (hb1.mono HU0.out.size))
  clear hr0_0 hr0_1 HU0
  have hr1_2 := hN
  clear hN
  have c0_0 := cell_of_row _ _ 0 _ _ _ hr1_0
  have c0_1 := cell_of_row _ _ 1 _ _ _ hr1_0
  have c0_2 := cell_of_row _ _ 2 _ _ _ hr1_0
  have c2_0 := cell_of_row _ _ 0 _ _ _ hr1_2
  have c2_1 := cell_of_row _ _ 1 _ _ _ hr1_2
  have c2_2 := cell_of_row _ _ 2 _ _ _ hr1_2
  simp at c0_0 c0_1 c0_2 c2_0 c2_1 c2_2
  have fz : ∀ j, y1.frozen? ⟨y0.heap.size, j, none⟩ = false := fun j => by simp [World.frozen?, hr1_2]
  go_upto_region 14 with fail
  refine wp_loop_rounds 4 ?_
  rw [rounds_succ]
  go_wp2_with (first | (go_at_call 48; refine (refUnit_any _ _).mono ?_; rintro e ww ⟨rfl, rfl⟩) | (go_at_call 49; refine (refDiv_any _ _ _).mono ?_; rintro e ww ⟨rfl, rfl⟩))
  rw [rounds_succ]
  go_wp2_with (first | (go_at_call 48; refine (refUnit_any _ _).mono ?_; rintro e ww ⟨rfl, rfl⟩) | (go_at_call 49; refine (refDiv_any _ _ _).mono ?_; rintro e ww ⟨rfl, rfl⟩))
  rw [rounds_succ]
  go_wp2_with (first | (go_at_call 48; refine (refUnit_any _ _).mono ?_; rintro e ww ⟨rfl, rfl⟩) | (go_at_call 49; refine (refDiv_any _ _ _).mono ?_; rintro e ww ⟨rfl, rfl⟩))
  rw [rounds_succ]
  go_upto_region 17 with fail
  clear fz
  clear c0_0 c0_1 c0_2 c2_0 c2_1 c2_2
  have hsz := HU1.out.size
  have hN : (((y1.setCell ⟨y0.heap.size, 0, none⟩ (.int .i64 (Pl.div r 16384))).setCell ⟨y0.heap.size, 1, none⟩ (.int .i64 (Pl.div g 16384))).setCell ⟨y0.heap.size, 2, none⟩ (.int .i64 (Pl.div b 16384))).heap[y0.heap.size]? = some (.cells #[.int .i64 (Pl.div r 16384), .int .i64 (Pl.div g 16384), .int .i64 (Pl.div b 16384)] 57 (0, 0)) := (heap_setCell_same _ _ 2 _ _ _ (heap_setCell_same _ _ 1 _ _ _ (heap_setCell_same _ _ 0 _ _ _ hr1_2)))
  have hO : ∀ kk, kk ≠ y0.heap.size → (((y1.setCell ⟨y0.heap.size, 0, none⟩ (.int .i64 (Pl.div r 16384))).setCell ⟨y0.heap.size, 1, none⟩ (.int .i64 (Pl.div g 16384))).setCell ⟨y0.heap.size, 2, none⟩ (.int .i64 (Pl.div b 16384))).heap[kk]? = y1.heap[kk]? := fun kk hk => (Below.heap_setCell ((y1.setCell ⟨y0.heap.size, 0, none⟩ (.int .i64 (Pl.div r 16384))).setCell ⟨y0.heap.size, 1, none⟩ (.int .i64 (Pl.div g 16384))) ⟨y0.heap.size, 2, none⟩ (.int .i64 (Pl.div b 16384)) kk hk).trans ((Below.heap_setCell (y1.setCell ⟨y0.heap.size, 0, none⟩ (.int .i64 (Pl.div r 16384))) ⟨y0.heap.size, 1, none⟩ (.int .i64 (Pl.div g 16384)) kk hk).trans ((Below.heap_setCell y1 ⟨y0.heap.size, 0, none⟩ (.int .i64 (Pl.div r 16384)) kk hk).trans (rfl)))
  have HUx : Below w.heap.size w (((y1.setCell ⟨y0.heap.size, 0, none⟩ (.int .i64 (Pl.div r 16384))).setCell ⟨y0.heap.size, 1, none⟩ (.int .i64 (Pl.div g 16384))).setCell ⟨y0.heap.size, 2, none⟩ (.int .i64 (Pl.div b 16384))) := (((HU1.out.setCell (by show w.heap.size ≤ y0.heap.size; omega) _).setCell (by show w.heap.size ≤ y0.heap.size; omega) _).setCell (by show w.heap.size ≤ y0.heap.size; omega) _)
  obtain ⟨y2, hy2⟩ : ∃ y, ((y1.setCell ⟨y0.heap.size, 0, none⟩ (.int .i64 (Pl.div r 16384))).setCell ⟨y0.heap.size, 1, none⟩ (.int .i64 (Pl.div g 16384))).setCell ⟨y0.heap.size, 2, none⟩ (.int .i64 (Pl.div b 16384)) = y := ⟨_, rfl⟩
  rw [hy2] at hN hO HUx ⊢
  clear hy2 hsz
  have HU2 := Lib.hid HUx
  have hr2_0 := (hO _ (by omega)).trans hr1_0
  have hr2_1 := (hO _ (by omega)).trans hr1_1
  have hr2_2 := hN
  clear hN hO HUx
  clear hr1_0 hr1_1 hr1_2 HU1
  have c2_0 := cell_of_row _ _ 0 _ _ _ hr2_2
  have c2_1 := cell_of_row _ _ 1 _ _ _ hr2_2
  have c2_2 := cell_of_row _ _ 2 _ _ _ hr2_2
  simp at c2_0 c2_1 c2_2
  have hHr := Lib.hid hr2_1
  have hHi := Lib.hid (show (Try.prog.info? 57).map (·.size) = some (#[.int .i64 (Pl.div r 16384), .int .i64 (Pl.div g 16384), .int .i64 (Pl.div b 16384)] : Array Value).size by kernel_rfl)
  have hHz := Lib.hid (show (#[.int .i64 0, .int .i64 0, .int .i64 0] : Array Value).size = (#[.int .i64 (Pl.div r 16384), .int .i64 (Pl.div g 16384), .int .i64 (Pl.div b 16384)] : Array Value).size from rfl)
  have hHo := Lib.hid (show (#[.int .i64 (Pl.div r 16384), .int .i64 (Pl.div g 16384), .int .i64 (Pl.div b 16384)] : Array Value).all (·.oneCell') = true by simp [Value.oneCell'])
  go_wp2_with (first | (refine Au.wpList_store_row rfl 57 (.tmp 4) (.tmp 45) rfl y2 #[.int .i64 0, .int .i64 0, .int .i64 0] #[.int .i64 (Pl.div r 16384), .int .i64 (Pl.div g 16384), .int .i64 (Pl.div b 16384)] (w.heap.size + 1) 57 hHr.out rfl rfl hHi.out hHz.out hHo.out ?_))
  clear c2_0 c2_1 c2_2
  clear hHr hHi hHz hHo
  have hN := setRow_heap _ (w.heap.size + 1) _ #[.int .i64 (Pl.div r 16384), .int .i64 (Pl.div g 16384), .int .i64 (Pl.div b 16384)] _ _ hr2_1
  have hsz := HU2.out.size
  have HUx := below_setRow (g := w.heap.size + 1) HU2.out (by first | omega | (simp at *; omega)) #[.int .i64 (Pl.div r 16384), .int .i64 (Pl.div g 16384), .int .i64 (Pl.div b 16384)]
  have hO : ∀ kk, kk ≠ w.heap.size + 1 → (y2.setRow (w.heap.size + 1) #[.int .i64 (Pl.div r 16384), .int .i64 (Pl.div g 16384), .int .i64 (Pl.div b 16384)]).heap[kk]? = y2.heap[kk]? := fun kk hk => setRow_other _ _ _ _ hk
  obtain ⟨y3, hy3⟩ : ∃ y, y2.setRow (w.heap.size + 1) #[.int .i64 (Pl.div r 16384), .int .i64 (Pl.div g 16384), .int .i64 (Pl.div b 16384)] = y := ⟨_, rfl⟩
  rw [hy3] at hN HUx hO ⊢
  clear hy3 hsz
  have HU3 := Lib.hid HUx
  clear HUx
  have hr3_0 := (hO _ (by omega)).trans hr2_0
  have hr3_1 := hN
  have hr3_2 := (hO _ (by omega)).trans hr2_2
  clear hN hO
  clear hr2_0 hr2_1 hr2_2 HU2
  have c1_0 := cell_of_row _ _ 0 _ _ _ hr3_1
  have c1_1 := cell_of_row _ _ 1 _ _ _ hr3_1
  have c1_2 := cell_of_row _ _ 2 _ _ _ hr3_1
  simp at c1_0 c1_1 c1_2
  go_wp2
  exact bodyPost_ret (v := .tuple #[.agg #[.int .i64 (Pl.div r 16384), .int .i64 (Pl.div g 16384), .int .i64 (Pl.div b 16384)], .bool true]) (by simp [results, Try.results26, go_sem, c1_0, c1_1, c1_2]) rfl ⟨rfl, HU3.out⟩

set_option maxHeartbeats 4000000 in
set_option maxRecDepth 100000 in
theorem rlives5 (r g b u : Int) (h1 : r < g) (h2 : ¬ g < b) (h3 : Pl.unit g < 16384) (h4 : ¬ 16384 ≤ Pl.unit u) (w : World)  : Calls Try.prog 26 #[.agg #[.int .i64 r, .int .i64 g, .int .i64 b], .int .i64 u] w fun e' w' => e' = .returned (.tuple #[.agg #[.int .i64 (Pl.div r 16384), .int .i64 (Pl.div g 16384), .int .i64 (Pl.div b 16384)], .bool true]) ∧ Below w.heap.size w w' := by
  have k1 := decide_eq_true h1
  have k2 := decide_eq_false h2
  have k3 := decide_eq_true h3
  have k4 := decide_eq_false h4
  go_enter Try.func26, Try.ntmps26
  go_upto_region 1 with fail
  have hR := Au.rows2 w (.cells #[.int .i64 r, .int .i64 g, .int .i64 b] 57) (.cells #[.int .i64 0, .int .i64 0, .int .i64 0] 57)
  have HUx := below_n2 w (.cells #[.int .i64 r, .int .i64 g, .int .i64 b] 57) (.cells #[.int .i64 0, .int .i64 0, .int .i64 0] 57)
  obtain ⟨y0, hy0⟩ : ∃ y0, (w.alloc (.cells #[.int .i64 r, .int .i64 g, .int .i64 b] 57)).alloc (.cells #[.int .i64 0, .int .i64 0, .int .i64 0] 57) = y0 := ⟨_, rfl⟩
  rw [hy0] at hR HUx ⊢
  clear hy0
  have HU0 := Lib.hid HUx
  clear HUx
  obtain ⟨hr0_0, hr0_1⟩ := hR
  have c0_0 := cell_of_row _ _ 0 _ _ _ hr0_0
  have c0_1 := cell_of_row _ _ 1 _ _ _ hr0_0
  have c0_2 := cell_of_row _ _ 2 _ _ _ hr0_0
  simp at c0_0 c0_1 c0_2
  go_wp2_with fail
  refine wp_loop_rounds 3 ?_
  rw [rounds_succ]
  go_wp2_with fail
  rw [rounds_succ]
  go_wp2_with fail
  rw [rounds_succ]
  go_upto_region 12 with (first | (go_at_call 48; refine (refUnit_any _ _).mono ?_; rintro e ww ⟨rfl, rfl⟩) | (go_at_call 49; refine (refDiv_any _ _ _).mono ?_; rintro e ww ⟨rfl, rfl⟩))
  clear c0_0 c0_1 c0_2
  go_upto_region 13 with fail
  have hb1 := below_n1 y0 (.cells #[.int .i64 0, .int .i64 0, .int .i64 0] 57)
  have hN := heap_alloc_last y0 (.cells #[.int .i64 0, .int .i64 0, .int .i64 0] 57)
  obtain ⟨y1, hy1⟩ : ∃ y, y0.alloc (.cells #[.int .i64 0, .int .i64 0, .int .i64 0] 57) = y := ⟨_, rfl⟩
  have hs1 : y1.heap.size = y0.heap.size + 1 := by rw [← hy1]; simp
  rw [hy1] at hb1 hN ⊢
  clear hy1
  have hl1_0 := lt_heap hr0_0
  have hl1_1 := lt_heap hr0_1
  have hr1_0 := (hb1.block _ (lt_heap hr0_0)).trans hr0_0
  have hr1_1 := (hb1.block _ (lt_heap hr0_1)).trans hr0_1
  have HU1 := Lib.hid (HU0.out.trans (hb1.mono HU0.out.size))
  clear hr0_0 hr0_1 HU0
  have hr1_2 := hN
  clear hN
  have c0_0 := cell_of_row _ _ 0 _ _ _ hr1_0
  have c0_1 := cell_of_row _ _ 1 _ _ _ hr1_0
  have c0_2 := cell_of_row _ _ 2 _ _ _ hr1_0
  have c2_0 := cell_of_row _ _ 0 _ _ _ hr1_2
  have c2_1 := cell_of_row _ _ 1 _ _ _ hr1_2
  have c2_2 := cell_of_row _ _ 2 _ _ _ hr1_2
  simp at c0_0 c0_1 c0_2 c2_0 c2_1 c2_2
  have fz : ∀ j, y1.frozen? ⟨y0.heap.size, j, none⟩ = false := fun j => by simp [World.frozen?, hr1_2]
  go_upto_region 14 with fail
  refine wp_loop_rounds 4 ?_
  rw [rounds_succ]
  go_wp2_with (first | (go_at_call 48; refine (refUnit_any _ _).mono ?_; rintro e ww ⟨rfl, rfl⟩) | (go_at_call 49; refine (refDiv_any _ _ _).mono ?_; rintro e ww ⟨rfl, rfl⟩))
  rw [rounds_succ]
  go_wp2_with (first | (go_at_call 48; refine (refUnit_any _ _).mono ?_; rintro e ww ⟨rfl, rfl⟩) | (go_at_call 49; refine (refDiv_any _ _ _).mono ?_; rintro e ww ⟨rfl, rfl⟩))
  rw [rounds_succ]
  go_wp2_with (first | (go_at_call 48; refine (refUnit_any _ _).mono ?_; rintro e ww ⟨rfl, rfl⟩) | (go_at_call 49; refine (refDiv_any _ _ _).mono ?_; rintro e ww ⟨rfl, rfl⟩))
  rw [rounds_succ]
  go_upto_region 17 with fail
  clear fz
  clear c0_0 c0_1 c0_2 c2_0 c2_1 c2_2
  have hsz := HU1.out.size
  have hN : (((y1.setCell ⟨y0.heap.size, 0, none⟩ (.int .i64 (Pl.div r 16384))).setCell ⟨y0.heap.size, 1, none⟩ (.int .i64 (Pl.div g 16384))).setCell ⟨y0.heap.size, 2, none⟩ (.int .i64 (Pl.div b 16384))).heap[y0.heap.size]? = some (.cells #[.int .i64 (Pl.div r 16384), .int .i64 (Pl.div g 16384), .int .i64 (Pl.div b 16384)] 57 (0, 0)) := (heap_setCell_same _ _ 2 _ _ _ (heap_setCell_same _ _ 1 _ _ _ (heap_setCell_same _ _ 0 _ _ _ hr1_2)))
  have hO : ∀ kk, kk ≠ y0.heap.size → (((y1.setCell ⟨y0.heap.size, 0, none⟩ (.int .i64 (Pl.div r 16384))).setCell ⟨y0.heap.size, 1, none⟩ (.int .i64 (Pl.div g 16384))).setCell ⟨y0.heap.size, 2, none⟩ (.int .i64 (Pl.div b 16384))).heap[kk]? = y1.heap[kk]? := fun kk hk => (Below.heap_setCell ((y1.setCell ⟨y0.heap.size, 0, none⟩ (.int .i64 (Pl.div r 16384))).setCell ⟨y0.heap.size, 1, none⟩ (.int .i64 (Pl.div g 16384))) ⟨y0.heap.size, 2, none⟩ (.int .i64 (Pl.div b 16384)) kk hk).trans ((Below.heap_setCell (y1.setCell ⟨y0.heap.size, 0, none⟩ (.int .i64 (Pl.div r 16384))) ⟨y0.heap.size, 1, none⟩ (.int .i64 (Pl.div g 16384)) kk hk).trans ((Below.heap_setCell y1 ⟨y0.heap.size, 0, none⟩ (.int .i64 (Pl.div r 16384)) kk hk).trans (rfl)))
  have HUx : Below w.heap.size w (((y1.setCell ⟨y0.heap.size, 0, none⟩ (.int .i64 (Pl.div r 16384))).setCell ⟨y0.heap.size, 1, none⟩ (.int .i64 (Pl.div g 16384))).setCell ⟨y0.heap.size, 2, none⟩ (.int .i64 (Pl.div b 16384))) := (((HU1.out.setCell (by show w.heap.size ≤ y0.heap.size; omega) _).setCell (by show w.heap.size ≤ y0.heap.size; omega) _).setCell (by show w.heap.size ≤ y0.heap.size; omega) _)
  obtain ⟨y2, hy2⟩ : ∃ y, ((y1.setCell ⟨y0.heap.size, 0, none⟩ (.int .i64 (Pl.div r 16384))).setCell ⟨y0.heap.size, 1, none⟩ (.int .i64 (Pl.div g 16384))).setCell ⟨y0.heap.size, 2, none⟩ (.int .i64 (Pl.div b 16384)) = y := ⟨_, rfl⟩
  rw [hy2] at hN hO HUx ⊢
  clear hy2 hsz
  have HU2 := Lib.hid HUx
  have hr2_0 := (hO _ (by omega)).trans hr1_0
  have hr2_1 := (hO _ (by omega)).trans hr1_1
  have hr2_2 := hN
  clear hN hO HUx
  clear hr1_0 hr1_1 hr1_2 HU1
  have c2_0 := cell_of_row _ _ 0 _ _ _ hr2_2
  have c2_1 := cell_of_row _ _ 1 _ _ _ hr2_2
  have c2_2 := cell_of_row _ _ 2 _ _ _ hr2_2
  simp at c2_0 c2_1 c2_2
  have hHr := Lib.hid hr2_1
  have hHi := Lib.hid (show (Try.prog.info? 57).map (·.size) = some (#[.int .i64 (Pl.div r 16384), .int .i64 (Pl.div g 16384), .int .i64 (Pl.div b 16384)] : Array Value).size by kernel_rfl)
  have hHz := Lib.hid (show (#[.int .i64 0, .int .i64 0, .int .i64 0] : Array Value).size = (#[.int .i64 (Pl.div r 16384), .int .i64 (Pl.div g 16384), .int .i64 (Pl.div b 16384)] : Array Value).size from rfl)
  have hHo := Lib.hid (show (#[.int .i64 (Pl.div r 16384), .int .i64 (Pl.div g 16384), .int .i64 (Pl.div b 16384)] : Array Value).all (·.oneCell') = true by simp [Value.oneCell'])
  go_wp2_with (first | (refine Au.wpList_store_row rfl 57 (.tmp 4) (.tmp 45) rfl y2 #[.int .i64 0, .int .i64 0, .int .i64 0] #[.int .i64 (Pl.div r 16384), .int .i64 (Pl.div g 16384), .int .i64 (Pl.div b 16384)] (w.heap.size + 1) 57 hHr.out rfl rfl hHi.out hHz.out hHo.out ?_))
  clear c2_0 c2_1 c2_2
  clear hHr hHi hHz hHo
  have hN := setRow_heap _ (w.heap.size + 1) _ #[.int .i64 (Pl.div r 16384), .int .i64 (Pl.div g 16384), .int .i64 (Pl.div b 16384)] _ _ hr2_1
  have hsz := HU2.out.size
  have HUx := below_setRow (g := w.heap.size + 1) HU2.out (by first | omega | (simp at *; omega)) #[.int .i64 (Pl.div r 16384), .int .i64 (Pl.div g 16384), .int .i64 (Pl.div b 16384)]
  have hO : ∀ kk, kk ≠ w.heap.size + 1 → (y2.setRow (w.heap.size + 1) #[.int .i64 (Pl.div r 16384), .int .i64 (Pl.div g 16384), .int .i64 (Pl.div b 16384)]).heap[kk]? = y2.heap[kk]? := fun kk hk => setRow_other _ _ _ _ hk
  obtain ⟨y3, hy3⟩ : ∃ y, y2.setRow (w.heap.size + 1) #[.int .i64 (Pl.div r 16384), .int .i64 (Pl.div g 16384), .int .i64 (Pl.div b 16384)] = y := ⟨_, rfl⟩
  rw [hy3] at hN HUx hO ⊢
  clear hy3 hsz
  have HU3 := Lib.hid HUx
  clear HUx
  have hr3_0 := (hO _ (by omega)).trans hr2_0
  have hr3_1 := hN
  have hr3_2 := (hO _ (by omega)).trans hr2_2
  clear hN hO
  clear hr2_0 hr2_1 hr2_2 HU2
  have c1_0 := cell_of_row _ _ 0 _ _ _ hr3_1
  have c1_1 := cell_of_row _ _ 1 _ _ _ hr3_1
  have c1_2 := cell_of_row _ _ 2 _ _ _ hr3_1
  simp at c1_0 c1_1 c1_2
  go_wp2
  exact bodyPost_ret (v := .tuple #[.agg #[.int .i64 (Pl.div r 16384), .int .i64 (Pl.div g 16384), .int .i64 (Pl.div b 16384)], .bool true]) (by simp [results, Try.results26, go_sem, c1_0, c1_1, c1_2]) rfl ⟨rfl, HU3.out⟩

set_option maxHeartbeats 4000000 in
set_option maxRecDepth 100000 in
theorem rlives6 (r g b u : Int) (h1 : ¬ r < g) (h2 : r < b) (h3 : Pl.unit b < 16384) (h4 : ¬ 16384 ≤ Pl.unit u) (w : World)  : Calls Try.prog 26 #[.agg #[.int .i64 r, .int .i64 g, .int .i64 b], .int .i64 u] w fun e' w' => e' = .returned (.tuple #[.agg #[.int .i64 (Pl.div r 16384), .int .i64 (Pl.div g 16384), .int .i64 (Pl.div b 16384)], .bool true]) ∧ Below w.heap.size w w' := by
  have k1 := decide_eq_false h1
  have k2 := decide_eq_true h2
  have k3 := decide_eq_true h3
  have k4 := decide_eq_false h4
  go_enter Try.func26, Try.ntmps26
  go_upto_region 1 with fail
  have hR := Au.rows2 w (.cells #[.int .i64 r, .int .i64 g, .int .i64 b] 57) (.cells #[.int .i64 0, .int .i64 0, .int .i64 0] 57)
  have HUx := below_n2 w (.cells #[.int .i64 r, .int .i64 g, .int .i64 b] 57) (.cells #[.int .i64 0, .int .i64 0, .int .i64 0] 57)
  obtain ⟨y0, hy0⟩ : ∃ y0, (w.alloc (.cells #[.int .i64 r, .int .i64 g, .int .i64 b] 57)).alloc (.cells #[.int .i64 0, .int .i64 0, .int .i64 0] 57) = y0 := ⟨_, rfl⟩
  rw [hy0] at hR HUx ⊢
  clear hy0
  have HU0 := Lib.hid HUx
  clear HUx
  obtain ⟨hr0_0, hr0_1⟩ := hR
  have c0_0 := cell_of_row _ _ 0 _ _ _ hr0_0
  have c0_1 := cell_of_row _ _ 1 _ _ _ hr0_0
  have c0_2 := cell_of_row _ _ 2 _ _ _ hr0_0
  simp at c0_0 c0_1 c0_2
  go_wp2_with fail
  refine wp_loop_rounds 3 ?_
  rw [rounds_succ]
  go_wp2_with fail
  rw [rounds_succ]
  go_wp2_with fail
  rw [rounds_succ]
  go_upto_region 12 with (first | (go_at_call 48; refine (refUnit_any _ _).mono ?_; rintro e ww ⟨rfl, rfl⟩) | (go_at_call 49; refine (refDiv_any _ _ _).mono ?_; rintro e ww ⟨rfl, rfl⟩))
  clear c0_0 c0_1 c0_2
  go_upto_region 13 with fail
  have hb1 := below_n1 y0 (.cells #[.int .i64 0, .int .i64 0, .int .i64 0] 57)
  have hN := heap_alloc_last y0 (.cells #[.int .i64 0, .int .i64 0, .int .i64 0] 57)
  obtain ⟨y1, hy1⟩ : ∃ y, y0.alloc (.cells #[.int .i64 0, .int .i64 0, .int .i64 0] 57) = y := ⟨_, rfl⟩
  have hs1 : y1.heap.size = y0.heap.size + 1 := by rw [← hy1]; simp
  rw [hy1] at hb1 hN ⊢
  clear hy1
  have hl1_0 := lt_heap hr0_0
  have hl1_1 := lt_heap hr0_1
  have hr1_0 := (hb1.block _ (lt_heap hr0_0)).trans hr0_0
  have hr1_1 := (hb1.block _ (lt_heap hr0_1)).trans hr0_1
  have HU1 := Lib.hid (HU0.out.trans (hb1.mono HU0.out.size))
  clear hr0_0 hr0_1 HU0
  have hr1_2 := hN
  clear hN
  have c0_0 := cell_of_row _ _ 0 _ _ _ hr1_0
  have c0_1 := cell_of_row _ _ 1 _ _ _ hr1_0
  have c0_2 := cell_of_row _ _ 2 _ _ _ hr1_0
  have c2_0 := cell_of_row _ _ 0 _ _ _ hr1_2
  have c2_1 := cell_of_row _ _ 1 _ _ _ hr1_2
  have c2_2 := cell_of_row _ _ 2 _ _ _ hr1_2
  simp at c0_0 c0_1 c0_2 c2_0 c2_1 c2_2
  have fz : ∀ j, y1.frozen? ⟨y0.heap.size, j, none⟩ = false := fun j => by simp [World.frozen?, hr1_2]
  go_upto_region 14 with fail
  refine wp_loop_rounds 4 ?_
  rw [rounds_succ]
  go_wp2_with (first | (go_at_call 48; refine (refUnit_any _ _).mono ?_; rintro e ww ⟨rfl, rfl⟩) | (go_at_call 49; refine (refDiv_any _ _ _).mono ?_; rintro e ww ⟨rfl, rfl⟩))
  rw [rounds_succ]
  go_wp2_with (first | (go_at_call 48; refine (refUnit_any _ _).mono ?_; rintro e ww ⟨rfl, rfl⟩) | (go_at_call 49; refine (refDiv_any _ _ _).mono ?_; rintro e ww ⟨rfl, rfl⟩))
  rw [rounds_succ]
  go_wp2_with (first | (go_at_call 48; refine (refUnit_any _ _).mono ?_; rintro e ww ⟨rfl, rfl⟩) | (go_at_call 49; refine (refDiv_any _ _ _).mono ?_; rintro e ww ⟨rfl, rfl⟩))
  rw [rounds_succ]
  go_upto_region 17 with fail
  clear fz
  clear c0_0 c0_1 c0_2 c2_0 c2_1 c2_2
  have hsz := HU1.out.size
  have hN : (((y1.setCell ⟨y0.heap.size, 0, none⟩ (.int .i64 (Pl.div r 16384))).setCell ⟨y0.heap.size, 1, none⟩ (.int .i64 (Pl.div g 16384))).setCell ⟨y0.heap.size, 2, none⟩ (.int .i64 (Pl.div b 16384))).heap[y0.heap.size]? = some (.cells #[.int .i64 (Pl.div r 16384), .int .i64 (Pl.div g 16384), .int .i64 (Pl.div b 16384)] 57 (0, 0)) := (heap_setCell_same _ _ 2 _ _ _ (heap_setCell_same _ _ 1 _ _ _ (heap_setCell_same _ _ 0 _ _ _ hr1_2)))
  have hO : ∀ kk, kk ≠ y0.heap.size → (((y1.setCell ⟨y0.heap.size, 0, none⟩ (.int .i64 (Pl.div r 16384))).setCell ⟨y0.heap.size, 1, none⟩ (.int .i64 (Pl.div g 16384))).setCell ⟨y0.heap.size, 2, none⟩ (.int .i64 (Pl.div b 16384))).heap[kk]? = y1.heap[kk]? := fun kk hk => (Below.heap_setCell ((y1.setCell ⟨y0.heap.size, 0, none⟩ (.int .i64 (Pl.div r 16384))).setCell ⟨y0.heap.size, 1, none⟩ (.int .i64 (Pl.div g 16384))) ⟨y0.heap.size, 2, none⟩ (.int .i64 (Pl.div b 16384)) kk hk).trans ((Below.heap_setCell (y1.setCell ⟨y0.heap.size, 0, none⟩ (.int .i64 (Pl.div r 16384))) ⟨y0.heap.size, 1, none⟩ (.int .i64 (Pl.div g 16384)) kk hk).trans ((Below.heap_setCell y1 ⟨y0.heap.size, 0, none⟩ (.int .i64 (Pl.div r 16384)) kk hk).trans (rfl)))
  have HUx : Below w.heap.size w (((y1.setCell ⟨y0.heap.size, 0, none⟩ (.int .i64 (Pl.div r 16384))).setCell ⟨y0.heap.size, 1, none⟩ (.int .i64 (Pl.div g 16384))).setCell ⟨y0.heap.size, 2, none⟩ (.int .i64 (Pl.div b 16384))) := (((HU1.out.setCell (by show w.heap.size ≤ y0.heap.size; omega) _).setCell (by show w.heap.size ≤ y0.heap.size; omega) _).setCell (by show w.heap.size ≤ y0.heap.size; omega) _)
  obtain ⟨y2, hy2⟩ : ∃ y, ((y1.setCell ⟨y0.heap.size, 0, none⟩ (.int .i64 (Pl.div r 16384))).setCell ⟨y0.heap.size, 1, none⟩ (.int .i64 (Pl.div g 16384))).setCell ⟨y0.heap.size, 2, none⟩ (.int .i64 (Pl.div b 16384)) = y := ⟨_, rfl⟩
  rw [hy2] at hN hO HUx ⊢
  clear hy2 hsz
  have HU2 := Lib.hid HUx
  have hr2_0 := (hO _ (by omega)).trans hr1_0
  have hr2_1 := (hO _ (by omega)).trans hr1_1
  have hr2_2 := hN
  clear hN hO HUx
  clear hr1_0 hr1_1 hr1_2 HU1
  have c2_0 := cell_of_row _ _ 0 _ _ _ hr2_2
  have c2_1 := cell_of_row _ _ 1 _ _ _ hr2_2
  have c2_2 := cell_of_row _ _ 2 _ _ _ hr2_2
  simp at c2_0 c2_1 c2_2
  have hHr := Lib.hid hr2_1
  have hHi := Lib.hid (show (Try.prog.info? 57).map (·.size) = some (#[.int .i64 (Pl.div r 16384), .int .i64 (Pl.div g 16384), .int .i64 (Pl.div b 16384)] : Array Value).size by kernel_rfl)
  have hHz := Lib.hid (show (#[.int .i64 0, .int .i64 0, .int .i64 0] : Array Value).size = (#[.int .i64 (Pl.div r 16384), .int .i64 (Pl.div g 16384), .int .i64 (Pl.div b 16384)] : Array Value).size from rfl)
  have hHo := Lib.hid (show (#[.int .i64 (Pl.div r 16384), .int .i64 (Pl.div g 16384), .int .i64 (Pl.div b 16384)] : Array Value).all (·.oneCell') = true by simp [Value.oneCell'])
  go_wp2_with (first | (refine Au.wpList_store_row rfl 57 (.tmp 4) (.tmp 45) rfl y2 #[.int .i64 0, .int .i64 0, .int .i64 0] #[.int .i64 (Pl.div r 16384), .int .i64 (Pl.div g 16384), .int .i64 (Pl.div b 16384)] (w.heap.size + 1) 57 hHr.out rfl rfl hHi.out hHz.out hHo.out ?_))
  clear c2_0 c2_1 c2_2
  clear hHr hHi hHz hHo
  have hN := setRow_heap _ (w.heap.size + 1) _ #[.int .i64 (Pl.div r 16384), .int .i64 (Pl.div g 16384), .int .i64 (Pl.div b 16384)] _ _ hr2_1
  have hsz := HU2.out.size
  have HUx := below_setRow (g := w.heap.size + 1) HU2.out (by first | omega | (simp at *; omega)) #[.int .i64 (Pl.div r 16384), .int .i64 (Pl.div g 16384), .int .i64 (Pl.div b 16384)]
  have hO : ∀ kk, kk ≠ w.heap.size + 1 → (y2.setRow (w.heap.size + 1) #[.int .i64 (Pl.div r 16384), .int .i64 (Pl.div g 16384), .int .i64 (Pl.div b 16384)]).heap[kk]? = y2.heap[kk]? := fun kk hk => setRow_other _ _ _ _ hk
  obtain ⟨y3, hy3⟩ : ∃ y, y2.setRow (w.heap.size + 1) #[.int .i64 (Pl.div r 16384), .int .i64 (Pl.div g 16384), .int .i64 (Pl.div b 16384)] = y := ⟨_, rfl⟩
  rw [hy3] at hN HUx hO ⊢
  clear hy3 hsz
  have HU3 := Lib.hid HUx
  clear HUx
  have hr3_0 := (hO _ (by omega)).trans hr2_0
  have hr3_1 := hN
  have hr3_2 := (hO _ (by omega)).trans hr2_2
  clear hN hO
  clear hr2_0 hr2_1 hr2_2 HU2
  have c1_0 := cell_of_row _ _ 0 _ _ _ hr3_1
  have c1_1 := cell_of_row _ _ 1 _ _ _ hr3_1
  have c1_2 := cell_of_row _ _ 2 _ _ _ hr3_1
  simp at c1_0 c1_1 c1_2
  go_wp2
  exact bodyPost_ret (v := .tuple #[.agg #[.int .i64 (Pl.div r 16384), .int .i64 (Pl.div g 16384), .int .i64 (Pl.div b 16384)], .bool true]) (by simp [results, Try.results26, go_sem, c1_0, c1_1, c1_2]) rfl ⟨rfl, HU3.out⟩

set_option maxHeartbeats 4000000 in
set_option maxRecDepth 100000 in
theorem rlives7 (r g b u : Int) (h1 : r < g) (h2 : g < b) (h3 : Pl.unit b < 16384) (h4 : ¬ 16384 ≤ Pl.unit u) (w : World)  : Calls Try.prog 26 #[.agg #[.int .i64 r, .int .i64 g, .int .i64 b], .int .i64 u] w fun e' w' => e' = .returned (.tuple #[.agg #[.int .i64 (Pl.div r 16384), .int .i64 (Pl.div g 16384), .int .i64 (Pl.div b 16384)], .bool true]) ∧ Below w.heap.size w w' := by
  have k1 := decide_eq_true h1
  have k2 := decide_eq_true h2
  have k3 := decide_eq_true h3
  have k4 := decide_eq_false h4
  go_enter Try.func26, Try.ntmps26
  go_upto_region 1 with fail
  have hR := Au.rows2 w (.cells #[.int .i64 r, .int .i64 g, .int .i64 b] 57) (.cells #[.int .i64 0, .int .i64 0, .int .i64 0] 57)
  have HUx := below_n2 w (.cells #[.int .i64 r, .int .i64 g, .int .i64 b] 57) (.cells #[.int .i64 0, .int .i64 0, .int .i64 0] 57)
  obtain ⟨y0, hy0⟩ : ∃ y0, (w.alloc (.cells #[.int .i64 r, .int .i64 g, .int .i64 b] 57)).alloc (.cells #[.int .i64 0, .int .i64 0, .int .i64 0] 57) = y0 := ⟨_, rfl⟩
  rw [hy0] at hR HUx ⊢
  clear hy0
  have HU0 := Lib.hid HUx
  clear HUx
  obtain ⟨hr0_0, hr0_1⟩ := hR
  have c0_0 := cell_of_row _ _ 0 _ _ _ hr0_0
  have c0_1 := cell_of_row _ _ 1 _ _ _ hr0_0
  have c0_2 := cell_of_row _ _ 2 _ _ _ hr0_0
  simp at c0_0 c0_1 c0_2
  go_wp2_with fail
  refine wp_loop_rounds 3 ?_
  rw [rounds_succ]
  go_wp2_with fail
  rw [rounds_succ]
  go_wp2_with fail
  rw [rounds_succ]
  go_upto_region 12 with (first | (go_at_call 48; refine (refUnit_any _ _).mono ?_; rintro e ww ⟨rfl, rfl⟩) | (go_at_call 49; refine (refDiv_any _ _ _).mono ?_; rintro e ww ⟨rfl, rfl⟩))
  clear c0_0 c0_1 c0_2
  go_upto_region 13 with fail
  have hb1 := below_n1 y0 (.cells #[.int .i64 0, .int .i64 0, .int .i64 0] 57)
  have hN := heap_alloc_last y0 (.cells #[.int .i64 0, .int .i64 0, .int .i64 0] 57)
  obtain ⟨y1, hy1⟩ : ∃ y, y0.alloc (.cells #[.int .i64 0, .int .i64 0, .int .i64 0] 57) = y := ⟨_, rfl⟩
  have hs1 : y1.heap.size = y0.heap.size + 1 := by rw [← hy1]; simp
  rw [hy1] at hb1 hN ⊢
  clear hy1
  have hl1_0 := lt_heap hr0_0
  have hl1_1 := lt_heap hr0_1
  have hr1_0 := (hb1.block _ (lt_heap hr0_0)).trans hr0_0
  have hr1_1 := (hb1.block _ (lt_heap hr0_1)).trans hr0_1
  have HU1 := Lib.hid (HU0.out.trans (hb1.mono HU0.out.size))
  clear hr0_0 hr0_1 HU0
  have hr1_2 := hN
  clear hN
  have c0_0 := cell_of_row _ _ 0 _ _ _ hr1_0
  have c0_1 := cell_of_row _ _ 1 _ _ _ hr1_0
  have c0_2 := cell_of_row _ _ 2 _ _ _ hr1_0
  have c2_0 := cell_of_row _ _ 0 _ _ _ hr1_2
  have c2_1 := cell_of_row _ _ 1 _ _ _ hr1_2
  have c2_2 := cell_of_row _ _ 2 _ _ _ hr1_2
  simp at c0_0 c0_1 c0_2 c2_0 c2_1 c2_2
  have fz : ∀ j, y1.frozen? ⟨y0.heap.size, j, none⟩ = false := fun j => by simp [World.frozen?, hr1_2]
  go_upto_region 14 with fail
  refine wp_loop_rounds 4 ?_
  rw [rounds_succ]
  go_wp2_with (first | (go_at_call 48; refine (refUnit_any _ _).mono ?_; rintro e ww ⟨rfl, rfl⟩) | (go_at_call 49; refine (refDiv_any _ _ _).mono ?_; rintro e ww ⟨rfl, rfl⟩))
  rw [rounds_succ]
  go_wp2_with (first | (go_at_call 48; refine (refUnit_any _ _).mono ?_; rintro e ww ⟨rfl, rfl⟩) | (go_at_call 49; refine (refDiv_any _ _ _).mono ?_; rintro e ww ⟨rfl, rfl⟩))
  rw [rounds_succ]
  go_wp2_with (first | (go_at_call 48; refine (refUnit_any _ _).mono ?_; rintro e ww ⟨rfl, rfl⟩) | (go_at_call 49; refine (refDiv_any _ _ _).mono ?_; rintro e ww ⟨rfl, rfl⟩))
  rw [rounds_succ]
  go_upto_region 17 with fail
  clear fz
  clear c0_0 c0_1 c0_2 c2_0 c2_1 c2_2
  have hsz := HU1.out.size
  have hN : (((y1.setCell ⟨y0.heap.size, 0, none⟩ (.int .i64 (Pl.div r 16384))).setCell ⟨y0.heap.size, 1, none⟩ (.int .i64 (Pl.div g 16384))).setCell ⟨y0.heap.size, 2, none⟩ (.int .i64 (Pl.div b 16384))).heap[y0.heap.size]? = some (.cells #[.int .i64 (Pl.div r 16384), .int .i64 (Pl.div g 16384), .int .i64 (Pl.div b 16384)] 57 (0, 0)) := (heap_setCell_same _ _ 2 _ _ _ (heap_setCell_same _ _ 1 _ _ _ (heap_setCell_same _ _ 0 _ _ _ hr1_2)))
  have hO : ∀ kk, kk ≠ y0.heap.size → (((y1.setCell ⟨y0.heap.size, 0, none⟩ (.int .i64 (Pl.div r 16384))).setCell ⟨y0.heap.size, 1, none⟩ (.int .i64 (Pl.div g 16384))).setCell ⟨y0.heap.size, 2, none⟩ (.int .i64 (Pl.div b 16384))).heap[kk]? = y1.heap[kk]? := fun kk hk => (Below.heap_setCell ((y1.setCell ⟨y0.heap.size, 0, none⟩ (.int .i64 (Pl.div r 16384))).setCell ⟨y0.heap.size, 1, none⟩ (.int .i64 (Pl.div g 16384))) ⟨y0.heap.size, 2, none⟩ (.int .i64 (Pl.div b 16384)) kk hk).trans ((Below.heap_setCell (y1.setCell ⟨y0.heap.size, 0, none⟩ (.int .i64 (Pl.div r 16384))) ⟨y0.heap.size, 1, none⟩ (.int .i64 (Pl.div g 16384)) kk hk).trans ((Below.heap_setCell y1 ⟨y0.heap.size, 0, none⟩ (.int .i64 (Pl.div r 16384)) kk hk).trans (rfl)))
  have HUx : Below w.heap.size w (((y1.setCell ⟨y0.heap.size, 0, none⟩ (.int .i64 (Pl.div r 16384))).setCell ⟨y0.heap.size, 1, none⟩ (.int .i64 (Pl.div g 16384))).setCell ⟨y0.heap.size, 2, none⟩ (.int .i64 (Pl.div b 16384))) := (((HU1.out.setCell (by show w.heap.size ≤ y0.heap.size; omega) _).setCell (by show w.heap.size ≤ y0.heap.size; omega) _).setCell (by show w.heap.size ≤ y0.heap.size; omega) _)
  obtain ⟨y2, hy2⟩ : ∃ y, ((y1.setCell ⟨y0.heap.size, 0, none⟩ (.int .i64 (Pl.div r 16384))).setCell ⟨y0.heap.size, 1, none⟩ (.int .i64 (Pl.div g 16384))).setCell ⟨y0.heap.size, 2, none⟩ (.int .i64 (Pl.div b 16384)) = y := ⟨_, rfl⟩
  rw [hy2] at hN hO HUx ⊢
  clear hy2 hsz
  have HU2 := Lib.hid HUx
  have hr2_0 := (hO _ (by omega)).trans hr1_0
  have hr2_1 := (hO _ (by omega)).trans hr1_1
  have hr2_2 := hN
  clear hN hO HUx
  clear hr1_0 hr1_1 hr1_2 HU1
  have c2_0 := cell_of_row _ _ 0 _ _ _ hr2_2
  have c2_1 := cell_of_row _ _ 1 _ _ _ hr2_2
  have c2_2 := cell_of_row _ _ 2 _ _ _ hr2_2
  simp at c2_0 c2_1 c2_2
  have hHr := Lib.hid hr2_1
  have hHi := Lib.hid (show (Try.prog.info? 57).map (·.size) = some (#[.int .i64 (Pl.div r 16384), .int .i64 (Pl.div g 16384), .int .i64 (Pl.div b 16384)] : Array Value).size by kernel_rfl)
  have hHz := Lib.hid (show (#[.int .i64 0, .int .i64 0, .int .i64 0] : Array Value).size = (#[.int .i64 (Pl.div r 16384), .int .i64 (Pl.div g 16384), .int .i64 (Pl.div b 16384)] : Array Value).size from rfl)
  have hHo := Lib.hid (show (#[.int .i64 (Pl.div r 16384), .int .i64 (Pl.div g 16384), .int .i64 (Pl.div b 16384)] : Array Value).all (·.oneCell') = true by simp [Value.oneCell'])
  go_wp2_with (first | (refine Au.wpList_store_row rfl 57 (.tmp 4) (.tmp 45) rfl y2 #[.int .i64 0, .int .i64 0, .int .i64 0] #[.int .i64 (Pl.div r 16384), .int .i64 (Pl.div g 16384), .int .i64 (Pl.div b 16384)] (w.heap.size + 1) 57 hHr.out rfl rfl hHi.out hHz.out hHo.out ?_))
  clear c2_0 c2_1 c2_2
  clear hHr hHi hHz hHo
  have hN := setRow_heap _ (w.heap.size + 1) _ #[.int .i64 (Pl.div r 16384), .int .i64 (Pl.div g 16384), .int .i64 (Pl.div b 16384)] _ _ hr2_1
  have hsz := HU2.out.size
  have HUx := below_setRow (g := w.heap.size + 1) HU2.out (by first | omega | (simp at *; omega)) #[.int .i64 (Pl.div r 16384), .int .i64 (Pl.div g 16384), .int .i64 (Pl.div b 16384)]
  have hO : ∀ kk, kk ≠ w.heap.size + 1 → (y2.setRow (w.heap.size + 1) #[.int .i64 (Pl.div r 16384), .int .i64 (Pl.div g 16384), .int .i64 (Pl.div b 16384)]).heap[kk]? = y2.heap[kk]? := fun kk hk => setRow_other _ _ _ _ hk
  obtain ⟨y3, hy3⟩ : ∃ y, y2.setRow (w.heap.size + 1) #[.int .i64 (Pl.div r 16384), .int .i64 (Pl.div g 16384), .int .i64 (Pl.div b 16384)] = y := ⟨_, rfl⟩
  rw [hy3] at hN HUx hO ⊢
  clear hy3 hsz
  have HU3 := Lib.hid HUx
  clear HUx
  have hr3_0 := (hO _ (by omega)).trans hr2_0
  have hr3_1 := hN
  have hr3_2 := (hO _ (by omega)).trans hr2_2
  clear hN hO
  clear hr2_0 hr2_1 hr2_2 HU2
  have c1_0 := cell_of_row _ _ 0 _ _ _ hr3_1
  have c1_1 := cell_of_row _ _ 1 _ _ _ hr3_1
  have c1_2 := cell_of_row _ _ 2 _ _ _ hr3_1
  simp at c1_0 c1_1 c1_2
  go_wp2
  exact bodyPost_ret (v := .tuple #[.agg #[.int .i64 (Pl.div r 16384), .int .i64 (Pl.div g 16384), .int .i64 (Pl.div b 16384)], .bool true]) (by simp [results, Try.results26, go_sem, c1_0, c1_1, c1_2]) rfl ⟨rfl, HU3.out⟩

set_option maxHeartbeats 4000000 in
set_option maxRecDepth 100000 in
theorem rlives8 (r g b u : Int) (h1 : ¬ r < g) (h2 : ¬ r < b) (h3 : ¬ Pl.unit r < 16384) (h4 : (Pl.unit r) ≤ Pl.unit u) (w : World)  : Calls Try.prog 26 #[.agg #[.int .i64 r, .int .i64 g, .int .i64 b], .int .i64 u] w fun e' w' => e' = .returned (.tuple #[.agg #[.int .i64 0, .int .i64 0, .int .i64 0], .bool false]) ∧ Below w.heap.size w w' := by
  have k1 := decide_eq_false h1
  have k2 := decide_eq_false h2
  have k3 := decide_eq_false h3
  have k4 := decide_eq_true h4
  go_enter Try.func26, Try.ntmps26
  go_upto_region 1 with fail
  have hR := Au.rows2 w (.cells #[.int .i64 r, .int .i64 g, .int .i64 b] 57) (.cells #[.int .i64 0, .int .i64 0, .int .i64 0] 57)
  have HUx := below_n2 w (.cells #[.int .i64 r, .int .i64 g, .int .i64 b] 57) (.cells #[.int .i64 0, .int .i64 0, .int .i64 0] 57)
  obtain ⟨y0, hy0⟩ : ∃ y0, (w.alloc (.cells #[.int .i64 r, .int .i64 g, .int .i64 b] 57)).alloc (.cells #[.int .i64 0, .int .i64 0, .int .i64 0] 57) = y0 := ⟨_, rfl⟩
  rw [hy0] at hR HUx ⊢
  clear hy0
  have HU0 := Lib.hid HUx
  clear HUx
  obtain ⟨hr0_0, hr0_1⟩ := hR
  have c0_0 := cell_of_row _ _ 0 _ _ _ hr0_0
  have c0_1 := cell_of_row _ _ 1 _ _ _ hr0_0
  have c0_2 := cell_of_row _ _ 2 _ _ _ hr0_0
  simp at c0_0 c0_1 c0_2
  go_wp2_with fail
  refine wp_loop_rounds 3 ?_
  rw [rounds_succ]
  go_wp2_with fail
  rw [rounds_succ]
  go_wp2_with fail
  rw [rounds_succ]
  go_upto_region 11 with (first | (go_at_call 48; refine (refUnit_any _ _).mono ?_; rintro e ww ⟨rfl, rfl⟩) | (go_at_call 49; refine (refDiv_any _ _ _).mono ?_; rintro e ww ⟨rfl, rfl⟩))
  clear c0_0 c0_1 c0_2
  have hHr := Lib.hid hr0_1
  have hHi := Lib.hid (show (Try.prog.info? 57).map (·.size) = some (#[.int .i64 0, .int .i64 0, .int .i64 0] : Array Value).size by kernel_rfl)
  have hHz := Lib.hid (show (#[.int .i64 0, .int .i64 0, .int .i64 0] : Array Value).size = (#[.int .i64 0, .int .i64 0, .int .i64 0] : Array Value).size from rfl)
  have hHo := Lib.hid (show (#[.int .i64 0, .int .i64 0, .int .i64 0] : Array Value).all (·.oneCell') = true by simp [Value.oneCell'])
  go_wp2_with (first | (refine Au.wpList_store_row rfl 57 (.tmp 4) (.tmp 33) rfl y0 #[.int .i64 0, .int .i64 0, .int .i64 0] #[.int .i64 0, .int .i64 0, .int .i64 0] (w.heap.size + 1) 57 hHr.out rfl rfl hHi.out hHz.out hHo.out ?_))
  clear hHr hHi hHz hHo
  have hN := setRow_heap _ (w.heap.size + 1) _ #[.int .i64 0, .int .i64 0, .int .i64 0] _ _ hr0_1
  have hsz := HU0.out.size
  have HUx := below_setRow (g := w.heap.size + 1) HU0.out (by first | omega | (simp at *; omega)) #[.int .i64 0, .int .i64 0, .int .i64 0]
  have hO : ∀ kk, kk ≠ w.heap.size + 1 → (y0.setRow (w.heap.size + 1) #[.int .i64 0, .int .i64 0, .int .i64 0]).heap[kk]? = y0.heap[kk]? := fun kk hk => setRow_other _ _ _ _ hk
  obtain ⟨y1, hy1⟩ : ∃ y, y0.setRow (w.heap.size + 1) #[.int .i64 0, .int .i64 0, .int .i64 0] = y := ⟨_, rfl⟩
  rw [hy1] at hN HUx hO ⊢
  clear hy1 hsz
  have HU1 := Lib.hid HUx
  clear HUx
  have hr1_0 := (hO _ (by omega)).trans hr0_0
  have hr1_1 := hN
  clear hN hO
  clear hr0_0 hr0_1 HU0
  have c1_0 := cell_of_row _ _ 0 _ _ _ hr1_1
  have c1_1 := cell_of_row _ _ 1 _ _ _ hr1_1
  have c1_2 := cell_of_row _ _ 2 _ _ _ hr1_1
  simp at c1_0 c1_1 c1_2
  go_wp2
  exact bodyPost_ret (v := .tuple #[.agg #[.int .i64 0, .int .i64 0, .int .i64 0], .bool false]) (by simp [results, Try.results26, go_sem, c1_0, c1_1, c1_2]) rfl ⟨rfl, HU1.out⟩

set_option maxHeartbeats 4000000 in
set_option maxRecDepth 100000 in
theorem rlives9 (r g b u : Int) (h1 : r < g) (h2 : ¬ g < b) (h3 : ¬ Pl.unit g < 16384) (h4 : (Pl.unit g) ≤ Pl.unit u) (w : World)  : Calls Try.prog 26 #[.agg #[.int .i64 r, .int .i64 g, .int .i64 b], .int .i64 u] w fun e' w' => e' = .returned (.tuple #[.agg #[.int .i64 0, .int .i64 0, .int .i64 0], .bool false]) ∧ Below w.heap.size w w' := by
  have k1 := decide_eq_true h1
  have k2 := decide_eq_false h2
  have k3 := decide_eq_false h3
  have k4 := decide_eq_true h4
  go_enter Try.func26, Try.ntmps26
  go_upto_region 1 with fail
  have hR := Au.rows2 w (.cells #[.int .i64 r, .int .i64 g, .int .i64 b] 57) (.cells #[.int .i64 0, .int .i64 0, .int .i64 0] 57)
  have HUx := below_n2 w (.cells #[.int .i64 r, .int .i64 g, .int .i64 b] 57) (.cells #[.int .i64 0, .int .i64 0, .int .i64 0] 57)
  obtain ⟨y0, hy0⟩ : ∃ y0, (w.alloc (.cells #[.int .i64 r, .int .i64 g, .int .i64 b] 57)).alloc (.cells #[.int .i64 0, .int .i64 0, .int .i64 0] 57) = y0 := ⟨_, rfl⟩
  rw [hy0] at hR HUx ⊢
  clear hy0
  have HU0 := Lib.hid HUx
  clear HUx
  obtain ⟨hr0_0, hr0_1⟩ := hR
  have c0_0 := cell_of_row _ _ 0 _ _ _ hr0_0
  have c0_1 := cell_of_row _ _ 1 _ _ _ hr0_0
  have c0_2 := cell_of_row _ _ 2 _ _ _ hr0_0
  simp at c0_0 c0_1 c0_2
  go_wp2_with fail
  refine wp_loop_rounds 3 ?_
  rw [rounds_succ]
  go_wp2_with fail
  rw [rounds_succ]
  go_wp2_with fail
  rw [rounds_succ]
  go_upto_region 11 with (first | (go_at_call 48; refine (refUnit_any _ _).mono ?_; rintro e ww ⟨rfl, rfl⟩) | (go_at_call 49; refine (refDiv_any _ _ _).mono ?_; rintro e ww ⟨rfl, rfl⟩))
  clear c0_0 c0_1 c0_2
  have hHr := Lib.hid hr0_1
  have hHi := Lib.hid (show (Try.prog.info? 57).map (·.size) = some (#[.int .i64 0, .int .i64 0, .int .i64 0] : Array Value).size by kernel_rfl)
  have hHz := Lib.hid (show (#[.int .i64 0, .int .i64 0, .int .i64 0] : Array Value).size = (#[.int .i64 0, .int .i64 0, .int .i64 0] : Array Value).size from rfl)
  have hHo := Lib.hid (show (#[.int .i64 0, .int .i64 0, .int .i64 0] : Array Value).all (·.oneCell') = true by simp [Value.oneCell'])
  go_wp2_with (first | (refine Au.wpList_store_row rfl 57 (.tmp 4) (.tmp 33) rfl y0 #[.int .i64 0, .int .i64 0, .int .i64 0] #[.int .i64 0, .int .i64 0, .int .i64 0] (w.heap.size + 1) 57 hHr.out rfl rfl hHi.out hHz.out hHo.out ?_))
  clear hHr hHi hHz hHo
  have hN := setRow_heap _ (w.heap.size + 1) _ #[.int .i64 0, .int .i64 0, .int .i64 0] _ _ hr0_1
  have hsz := HU0.out.size
  have HUx := below_setRow (g := w.heap.size + 1) HU0.out (by first | omega | (simp at *; omega)) #[.int .i64 0, .int .i64 0, .int .i64 0]
  have hO : ∀ kk, kk ≠ w.heap.size + 1 → (y0.setRow (w.heap.size + 1) #[.int .i64 0, .int .i64 0, .int .i64 0]).heap[kk]? = y0.heap[kk]? := fun kk hk => setRow_other _ _ _ _ hk
  obtain ⟨y1, hy1⟩ : ∃ y, y0.setRow (w.heap.size + 1) #[.int .i64 0, .int .i64 0, .int .i64 0] = y := ⟨_, rfl⟩
  rw [hy1] at hN HUx hO ⊢
  clear hy1 hsz
  have HU1 := Lib.hid HUx
  clear HUx
  have hr1_0 := (hO _ (by omega)).trans hr0_0
  have hr1_1 := hN
  clear hN hO
  clear hr0_0 hr0_1 HU0
  have c1_0 := cell_of_row _ _ 0 _ _ _ hr1_1
  have c1_1 := cell_of_row _ _ 1 _ _ _ hr1_1
  have c1_2 := cell_of_row _ _ 2 _ _ _ hr1_1
  simp at c1_0 c1_1 c1_2
  go_wp2
  exact bodyPost_ret (v := .tuple #[.agg #[.int .i64 0, .int .i64 0, .int .i64 0], .bool false]) (by simp [results, Try.results26, go_sem, c1_0, c1_1, c1_2]) rfl ⟨rfl, HU1.out⟩

set_option maxHeartbeats 4000000 in
set_option maxRecDepth 100000 in
theorem rlives10 (r g b u : Int) (h1 : ¬ r < g) (h2 : r < b) (h3 : ¬ Pl.unit b < 16384) (h4 : (Pl.unit b) ≤ Pl.unit u) (w : World)  : Calls Try.prog 26 #[.agg #[.int .i64 r, .int .i64 g, .int .i64 b], .int .i64 u] w fun e' w' => e' = .returned (.tuple #[.agg #[.int .i64 0, .int .i64 0, .int .i64 0], .bool false]) ∧ Below w.heap.size w w' := by
  have k1 := decide_eq_false h1
  have k2 := decide_eq_true h2
  have k3 := decide_eq_false h3
  have k4 := decide_eq_true h4
  go_enter Try.func26, Try.ntmps26
  go_upto_region 1 with fail
  have hR := Au.rows2 w (.cells #[.int .i64 r, .int .i64 g, .int .i64 b] 57) (.cells #[.int .i64 0, .int .i64 0, .int .i64 0] 57)
  have HUx := below_n2 w (.cells #[.int .i64 r, .int .i64 g, .int .i64 b] 57) (.cells #[.int .i64 0, .int .i64 0, .int .i64 0] 57)
  obtain ⟨y0, hy0⟩ : ∃ y0, (w.alloc (.cells #[.int .i64 r, .int .i64 g, .int .i64 b] 57)).alloc (.cells #[.int .i64 0, .int .i64 0, .int .i64 0] 57) = y0 := ⟨_, rfl⟩
  rw [hy0] at hR HUx ⊢
  clear hy0
  have HU0 := Lib.hid HUx
  clear HUx
  obtain ⟨hr0_0, hr0_1⟩ := hR
  have c0_0 := cell_of_row _ _ 0 _ _ _ hr0_0
  have c0_1 := cell_of_row _ _ 1 _ _ _ hr0_0
  have c0_2 := cell_of_row _ _ 2 _ _ _ hr0_0
  simp at c0_0 c0_1 c0_2
  go_wp2_with fail
  refine wp_loop_rounds 3 ?_
  rw [rounds_succ]
  go_wp2_with fail
  rw [rounds_succ]
  go_wp2_with fail
  rw [rounds_succ]
  go_upto_region 11 with (first | (go_at_call 48; refine (refUnit_any _ _).mono ?_; rintro e ww ⟨rfl, rfl⟩) | (go_at_call 49; refine (refDiv_any _ _ _).mono ?_; rintro e ww ⟨rfl, rfl⟩))
  clear c0_0 c0_1 c0_2
  have hHr := Lib.hid hr0_1
  have hHi := Lib.hid (show (Try.prog.info? 57).map (·.size) = some (#[.int .i64 0, .int .i64 0, .int .i64 0] : Array Value).size by kernel_rfl)
  have hHz := Lib.hid (show (#[.int .i64 0, .int .i64 0, .int .i64 0] : Array Value).size = (#[.int .i64 0, .int .i64 0, .int .i64 0] : Array Value).size from rfl)
  have hHo := Lib.hid (show (#[.int .i64 0, .int .i64 0, .int .i64 0] : Array Value).all (·.oneCell') = true by simp [Value.oneCell'])
  go_wp2_with (first | (refine Au.wpList_store_row rfl 57 (.tmp 4) (.tmp 33) rfl y0 #[.int .i64 0, .int .i64 0, .int .i64 0] #[.int .i64 0, .int .i64 0, .int .i64 0] (w.heap.size + 1) 57 hHr.out rfl rfl hHi.out hHz.out hHo.out ?_))
  clear hHr hHi hHz hHo
  have hN := setRow_heap _ (w.heap.size + 1) _ #[.int .i64 0, .int .i64 0, .int .i64 0] _ _ hr0_1
  have hsz := HU0.out.size
  have HUx := below_setRow (g := w.heap.size + 1) HU0.out (by first | omega | (simp at *; omega)) #[.int .i64 0, .int .i64 0, .int .i64 0]
  have hO : ∀ kk, kk ≠ w.heap.size + 1 → (y0.setRow (w.heap.size + 1) #[.int .i64 0, .int .i64 0, .int .i64 0]).heap[kk]? = y0.heap[kk]? := fun kk hk => setRow_other _ _ _ _ hk
  obtain ⟨y1, hy1⟩ : ∃ y, y0.setRow (w.heap.size + 1) #[.int .i64 0, .int .i64 0, .int .i64 0] = y := ⟨_, rfl⟩
  rw [hy1] at hN HUx hO ⊢
  clear hy1 hsz
  have HU1 := Lib.hid HUx
  clear HUx
  have hr1_0 := (hO _ (by omega)).trans hr0_0
  have hr1_1 := hN
  clear hN hO
  clear hr0_0 hr0_1 HU0
  have c1_0 := cell_of_row _ _ 0 _ _ _ hr1_1
  have c1_1 := cell_of_row _ _ 1 _ _ _ hr1_1
  have c1_2 := cell_of_row _ _ 2 _ _ _ hr1_1
  simp at c1_0 c1_1 c1_2
  go_wp2
  exact bodyPost_ret (v := .tuple #[.agg #[.int .i64 0, .int .i64 0, .int .i64 0], .bool false]) (by simp [results, Try.results26, go_sem, c1_0, c1_1, c1_2]) rfl ⟨rfl, HU1.out⟩

set_option maxHeartbeats 4000000 in
set_option maxRecDepth 100000 in
theorem rlives11 (r g b u : Int) (h1 : r < g) (h2 : g < b) (h3 : ¬ Pl.unit b < 16384) (h4 : (Pl.unit b) ≤ Pl.unit u) (w : World)  : Calls Try.prog 26 #[.agg #[.int .i64 r, .int .i64 g, .int .i64 b], .int .i64 u] w fun e' w' => e' = .returned (.tuple #[.agg #[.int .i64 0, .int .i64 0, .int .i64 0], .bool false]) ∧ Below w.heap.size w w' := by
  have k1 := decide_eq_true h1
  have k2 := decide_eq_true h2
  have k3 := decide_eq_false h3
  have k4 := decide_eq_true h4
  go_enter Try.func26, Try.ntmps26
  go_upto_region 1 with fail
  have hR := Au.rows2 w (.cells #[.int .i64 r, .int .i64 g, .int .i64 b] 57) (.cells #[.int .i64 0, .int .i64 0, .int .i64 0] 57)
  have HUx := below_n2 w (.cells #[.int .i64 r, .int .i64 g, .int .i64 b] 57) (.cells #[.int .i64 0, .int .i64 0, .int .i64 0] 57)
  obtain ⟨y0, hy0⟩ : ∃ y0, (w.alloc (.cells #[.int .i64 r, .int .i64 g, .int .i64 b] 57)).alloc (.cells #[.int .i64 0, .int .i64 0, .int .i64 0] 57) = y0 := ⟨_, rfl⟩
  rw [hy0] at hR HUx ⊢
  clear hy0
  have HU0 := Lib.hid HUx
  clear HUx
  obtain ⟨hr0_0, hr0_1⟩ := hR
  have c0_0 := cell_of_row _ _ 0 _ _ _ hr0_0
  have c0_1 := cell_of_row _ _ 1 _ _ _ hr0_0
  have c0_2 := cell_of_row _ _ 2 _ _ _ hr0_0
  simp at c0_0 c0_1 c0_2
  go_wp2_with fail
  refine wp_loop_rounds 3 ?_
  rw [rounds_succ]
  go_wp2_with fail
  rw [rounds_succ]
  go_wp2_with fail
  rw [rounds_succ]
  go_upto_region 11 with (first | (go_at_call 48; refine (refUnit_any _ _).mono ?_; rintro e ww ⟨rfl, rfl⟩) | (go_at_call 49; refine (refDiv_any _ _ _).mono ?_; rintro e ww ⟨rfl, rfl⟩))
  clear c0_0 c0_1 c0_2
  have hHr := Lib.hid hr0_1
  have hHi := Lib.hid (show (Try.prog.info? 57).map (·.size) = some (#[.int .i64 0, .int .i64 0, .int .i64 0] : Array Value).size by kernel_rfl)
  have hHz := Lib.hid (show (#[.int .i64 0, .int .i64 0, .int .i64 0] : Array Value).size = (#[.int .i64 0, .int .i64 0, .int .i64 0] : Array Value).size from rfl)
  have hHo := Lib.hid (show (#[.int .i64 0, .int .i64 0, .int .i64 0] : Array Value).all (·.oneCell') = true by simp [Value.oneCell'])
  go_wp2_with (first | (refine Au.wpList_store_row rfl 57 (.tmp 4) (.tmp 33) rfl y0 #[.int .i64 0, .int .i64 0, .int .i64 0] #[.int .i64 0, .int .i64 0, .int .i64 0] (w.heap.size + 1) 57 hHr.out rfl rfl hHi.out hHz.out hHo.out ?_))
  clear hHr hHi hHz hHo
  have hN := setRow_heap _ (w.heap.size + 1) _ #[.int .i64 0, .int .i64 0, .int .i64 0] _ _ hr0_1
  have hsz := HU0.out.size
  have HUx := below_setRow (g := w.heap.size + 1) HU0.out (by first | omega | (simp at *; omega)) #[.int .i64 0, .int .i64 0, .int .i64 0]
  have hO : ∀ kk, kk ≠ w.heap.size + 1 → (y0.setRow (w.heap.size + 1) #[.int .i64 0, .int .i64 0, .int .i64 0]).heap[kk]? = y0.heap[kk]? := fun kk hk => setRow_other _ _ _ _ hk
  obtain ⟨y1, hy1⟩ : ∃ y, y0.setRow (w.heap.size + 1) #[.int .i64 0, .int .i64 0, .int .i64 0] = y := ⟨_, rfl⟩
  rw [hy1] at hN HUx hO ⊢
  clear hy1 hsz
  have HU1 := Lib.hid HUx
  clear HUx
  have hr1_0 := (hO _ (by omega)).trans hr0_0
  have hr1_1 := hN
  clear hN hO
  clear hr0_0 hr0_1 HU0
  have c1_0 := cell_of_row _ _ 0 _ _ _ hr1_1
  have c1_1 := cell_of_row _ _ 1 _ _ _ hr1_1
  have c1_2 := cell_of_row _ _ 2 _ _ _ hr1_1
  simp at c1_0 c1_1 c1_2
  go_wp2
  exact bodyPost_ret (v := .tuple #[.agg #[.int .i64 0, .int .i64 0, .int .i64 0], .bool false]) (by simp [results, Try.results26, go_sem, c1_0, c1_1, c1_2]) rfl ⟨rfl, HU1.out⟩

set_option maxHeartbeats 4000000 in
set_option maxRecDepth 100000 in
theorem rlives12 (r g b u : Int) (h1 : ¬ r < g) (h2 : ¬ r < b) (h3 : Pl.unit r < 16384) (h4 : 16384 ≤ Pl.unit u) (w : World)  : Calls Try.prog 26 #[.agg #[.int .i64 r, .int .i64 g, .int .i64 b], .int .i64 u] w fun e' w' => e' = .returned (.tuple #[.agg #[.int .i64 0, .int .i64 0, .int .i64 0], .bool false]) ∧ Below w.heap.size w w' := by
  have k1 := decide_eq_false h1
  have k2 := decide_eq_false h2
  have k3 := decide_eq_true h3
  have k4 := decide_eq_true h4
  go_enter Try.func26, Try.ntmps26
  go_upto_region 1 with fail
  have hR := Au.rows2 w (.cells #[.int .i64 r, .int .i64 g, .int .i64 b] 57) (.cells #[.int .i64 0, .int .i64 0, .int .i64 0] 57)
  have HUx := below_n2 w (.cells #[.int .i64 r, .int .i64 g, .int .i64 b] 57) (.cells #[.int .i64 0, .int .i64 0, .int .i64 0] 57)
  obtain ⟨y0, hy0⟩ : ∃ y0, (w.alloc (.cells #[.int .i64 r, .int .i64 g, .int .i64 b] 57)).alloc (.cells #[.int .i64 0, .int .i64 0, .int .i64 0] 57) = y0 := ⟨_, rfl⟩
  rw [hy0] at hR HUx ⊢
  clear hy0
  have HU0 := Lib.hid HUx
  clear HUx
  obtain ⟨hr0_0, hr0_1⟩ := hR
  have c0_0 := cell_of_row _ _ 0 _ _ _ hr0_0
  have c0_1 := cell_of_row _ _ 1 _ _ _ hr0_0
  have c0_2 := cell_of_row _ _ 2 _ _ _ hr0_0
  simp at c0_0 c0_1 c0_2
  go_wp2_with fail
  refine wp_loop_rounds 3 ?_
  rw [rounds_succ]
  go_wp2_with fail
  rw [rounds_succ]
  go_wp2_with fail
  rw [rounds_succ]
  go_upto_region 11 with (first | (go_at_call 48; refine (refUnit_any _ _).mono ?_; rintro e ww ⟨rfl, rfl⟩) | (go_at_call 49; refine (refDiv_any _ _ _).mono ?_; rintro e ww ⟨rfl, rfl⟩))
  clear c0_0 c0_1 c0_2
  have hHr := Lib.hid hr0_1
  have hHi := Lib.hid (show (Try.prog.info? 57).map (·.size) = some (#[.int .i64 0, .int .i64 0, .int .i64 0] : Array Value).size by kernel_rfl)
  have hHz := Lib.hid (show (#[.int .i64 0, .int .i64 0, .int .i64 0] : Array Value).size = (#[.int .i64 0, .int .i64 0, .int .i64 0] : Array Value).size from rfl)
  have hHo := Lib.hid (show (#[.int .i64 0, .int .i64 0, .int .i64 0] : Array Value).all (·.oneCell') = true by simp [Value.oneCell'])
  go_wp2_with (first | (refine Au.wpList_store_row rfl 57 (.tmp 4) (.tmp 33) rfl y0 #[.int .i64 0, .int .i64 0, .int .i64 0] #[.int .i64 0, .int .i64 0, .int .i64 0] (w.heap.size + 1) 57 hHr.out rfl rfl hHi.out hHz.out hHo.out ?_))
  clear hHr hHi hHz hHo
  have hN := setRow_heap _ (w.heap.size + 1) _ #[.int .i64 0, .int .i64 0, .int .i64 0] _ _ hr0_1
  have hsz := HU0.out.size
  have HUx := below_setRow (g := w.heap.size + 1) HU0.out (by first | omega | (simp at *; omega)) #[.int .i64 0, .int .i64 0, .int .i64 0]
  have hO : ∀ kk, kk ≠ w.heap.size + 1 → (y0.setRow (w.heap.size + 1) #[.int .i64 0, .int .i64 0, .int .i64 0]).heap[kk]? = y0.heap[kk]? := fun kk hk => setRow_other _ _ _ _ hk
  obtain ⟨y1, hy1⟩ : ∃ y, y0.setRow (w.heap.size + 1) #[.int .i64 0, .int .i64 0, .int .i64 0] = y := ⟨_, rfl⟩
  rw [hy1] at hN HUx hO ⊢
  clear hy1 hsz
  have HU1 := Lib.hid HUx
  clear HUx
  have hr1_0 := (hO _ (by omega)).trans hr0_0
  have hr1_1 := hN
  clear hN hO
  clear hr0_0 hr0_1 HU0
  have c1_0 := cell_of_row _ _ 0 _ _ _ hr1_1
  have c1_1 := cell_of_row _ _ 1 _ _ _ hr1_1
  have c1_2 := cell_of_row _ _ 2 _ _ _ hr1_1
  simp at c1_0 c1_1 c1_2
  go_wp2
  exact bodyPost_ret (v := .tuple #[.agg #[.int .i64 0, .int .i64 0, .int .i64 0], .bool false]) (by simp [results, Try.results26, go_sem, c1_0, c1_1, c1_2]) rfl ⟨rfl, HU1.out⟩

set_option maxHeartbeats 4000000 in
set_option maxRecDepth 100000 in
theorem rlives13 (r g b u : Int) (h1 : r < g) (h2 : ¬ g < b) (h3 : Pl.unit g < 16384) (h4 : 16384 ≤ Pl.unit u) (w : World)  : Calls Try.prog 26 #[.agg #[.int .i64 r, .int .i64 g, .int .i64 b], .int .i64 u] w fun e' w' => e' = .returned (.tuple #[.agg #[.int .i64 0, .int .i64 0, .int .i64 0], .bool false]) ∧ Below w.heap.size w w' := by
  have k1 := decide_eq_true h1
  have k2 := decide_eq_false h2
  have k3 := decide_eq_true h3
  have k4 := decide_eq_true h4
  go_enter Try.func26, Try.ntmps26
  go_upto_region 1 with fail
  have hR := Au.rows2 w (.cells #[.int .i64 r, .int .i64 g, .int .i64 b] 57) (.cells #[.int .i64 0, .int .i64 0, .int .i64 0] 57)
  have HUx := below_n2 w (.cells #[.int .i64 r, .int .i64 g, .int .i64 b] 57) (.cells #[.int .i64 0, .int .i64 0, .int .i64 0] 57)
  obtain ⟨y0, hy0⟩ : ∃ y0, (w.alloc (.cells #[.int .i64 r, .int .i64 g, .int .i64 b] 57)).alloc (.cells #[.int .i64 0, .int .i64 0, .int .i64 0] 57) = y0 := ⟨_, rfl⟩
  rw [hy0] at hR HUx ⊢
  clear hy0
  have HU0 := Lib.hid HUx
  clear HUx
  obtain ⟨hr0_0, hr0_1⟩ := hR
  have c0_0 := cell_of_row _ _ 0 _ _ _ hr0_0
  have c0_1 := cell_of_row _ _ 1 _ _ _ hr0_0
  have c0_2 := cell_of_row _ _ 2 _ _ _ hr0_0
  simp at c0_0 c0_1 c0_2
  go_wp2_with fail
  refine wp_loop_rounds 3 ?_
  rw [rounds_succ]
  go_wp2_with fail
  rw [rounds_succ]
  go_wp2_with fail
  rw [rounds_succ]
  go_upto_region 11 with (first | (go_at_call 48; refine (refUnit_any _ _).mono ?_; rintro e ww ⟨rfl, rfl⟩) | (go_at_call 49; refine (refDiv_any _ _ _).mono ?_; rintro e ww ⟨rfl, rfl⟩))
  clear c0_0 c0_1 c0_2
  have hHr := Lib.hid hr0_1
  have hHi := Lib.hid (show (Try.prog.info? 57).map (·.size) = some (#[.int .i64 0, .int .i64 0, .int .i64 0] : Array Value).size by kernel_rfl)
  have hHz := Lib.hid (show (#[.int .i64 0, .int .i64 0, .int .i64 0] : Array Value).size = (#[.int .i64 0, .int .i64 0, .int .i64 0] : Array Value).size from rfl)
  have hHo := Lib.hid (show (#[.int .i64 0, .int .i64 0, .int .i64 0] : Array Value).all (·.oneCell') = true by simp [Value.oneCell'])
  go_wp2_with (first | (refine Au.wpList_store_row rfl 57 (.tmp 4) (.tmp 33) rfl y0 #[.int .i64 0, .int .i64 0, .int .i64 0] #[.int .i64 0, .int .i64 0, .int .i64 0] (w.heap.size + 1) 57 hHr.out rfl rfl hHi.out hHz.out hHo.out ?_))
  clear hHr hHi hHz hHo
  have hN := setRow_heap _ (w.heap.size + 1) _ #[.int .i64 0, .int .i64 0, .int .i64 0] _ _ hr0_1
  have hsz := HU0.out.size
  have HUx := below_setRow (g := w.heap.size + 1) HU0.out (by first | omega | (simp at *; omega)) #[.int .i64 0, .int .i64 0, .int .i64 0]
  have hO : ∀ kk, kk ≠ w.heap.size + 1 → (y0.setRow (w.heap.size + 1) #[.int .i64 0, .int .i64 0, .int .i64 0]).heap[kk]? = y0.heap[kk]? := fun kk hk => setRow_other _ _ _ _ hk
  obtain ⟨y1, hy1⟩ : ∃ y, y0.setRow (w.heap.size + 1) #[.int .i64 0, .int .i64 0, .int .i64 0] = y := ⟨_, rfl⟩
  rw [hy1] at hN HUx hO ⊢
  clear hy1 hsz
  have HU1 := Lib.hid HUx
  clear HUx
  have hr1_0 := (hO _ (by omega)).trans hr0_0
  have hr1_1 := hN
  clear hN hO
  clear hr0_0 hr0_1 HU0
  have c1_0 := cell_of_row _ _ 0 _ _ _ hr1_1
  have c1_1 := cell_of_row _ _ 1 _ _ _ hr1_1
  have c1_2 := cell_of_row _ _ 2 _ _ _ hr1_1
  simp at c1_0 c1_1 c1_2
  go_wp2
  exact bodyPost_ret (v := .tuple #[.agg #[.int .i64 0, .int .i64 0, .int .i64 0], .bool false]) (by simp [results, Try.results26, go_sem, c1_0, c1_1, c1_2]) rfl ⟨rfl, HU1.out⟩

set_option maxHeartbeats 4000000 in
set_option maxRecDepth 100000 in
theorem rlives14 (r g b u : Int) (h1 : ¬ r < g) (h2 : r < b) (h3 : Pl.unit b < 16384) (h4 : 16384 ≤ Pl.unit u) (w : World)  : Calls Try.prog 26 #[.agg #[.int .i64 r, .int .i64 g, .int .i64 b], .int .i64 u] w fun e' w' => e' = .returned (.tuple #[.agg #[.int .i64 0, .int .i64 0, .int .i64 0], .bool false]) ∧ Below w.heap.size w w' := by
  have k1 := decide_eq_false h1
  have k2 := decide_eq_true h2
  have k3 := decide_eq_true h3
  have k4 := decide_eq_true h4
  go_enter Try.func26, Try.ntmps26
  go_upto_region 1 with fail
  have hR := Au.rows2 w (.cells #[.int .i64 r, .int .i64 g, .int .i64 b] 57) (.cells #[.int .i64 0, .int .i64 0, .int .i64 0] 57)
  have HUx := below_n2 w (.cells #[.int .i64 r, .int .i64 g, .int .i64 b] 57) (.cells #[.int .i64 0, .int .i64 0, .int .i64 0] 57)
  obtain ⟨y0, hy0⟩ : ∃ y0, (w.alloc (.cells #[.int .i64 r, .int .i64 g, .int .i64 b] 57)).alloc (.cells #[.int .i64 0, .int .i64 0, .int .i64 0] 57) = y0 := ⟨_, rfl⟩
  rw [hy0] at hR HUx ⊢
  clear hy0
  have HU0 := Lib.hid HUx
  clear HUx
  obtain ⟨hr0_0, hr0_1⟩ := hR
  have c0_0 := cell_of_row _ _ 0 _ _ _ hr0_0
  have c0_1 := cell_of_row _ _ 1 _ _ _ hr0_0
  have c0_2 := cell_of_row _ _ 2 _ _ _ hr0_0
  simp at c0_0 c0_1 c0_2
  go_wp2_with fail
  refine wp_loop_rounds 3 ?_
  rw [rounds_succ]
  go_wp2_with fail
  rw [rounds_succ]
  go_wp2_with fail
  rw [rounds_succ]
  go_upto_region 11 with (first | (go_at_call 48; refine (refUnit_any _ _).mono ?_; rintro e ww ⟨rfl, rfl⟩) | (go_at_call 49; refine (refDiv_any _ _ _).mono ?_; rintro e ww ⟨rfl, rfl⟩))
  clear c0_0 c0_1 c0_2
  have hHr := Lib.hid hr0_1
  have hHi := Lib.hid (show (Try.prog.info? 57).map (·.size) = some (#[.int .i64 0, .int .i64 0, .int .i64 0] : Array Value).size by kernel_rfl)
  have hHz := Lib.hid (show (#[.int .i64 0, .int .i64 0, .int .i64 0] : Array Value).size = (#[.int .i64 0, .int .i64 0, .int .i64 0] : Array Value).size from rfl)
  have hHo := Lib.hid (show (#[.int .i64 0, .int .i64 0, .int .i64 0] : Array Value).all (·.oneCell') = true by simp [Value.oneCell'])
  go_wp2_with (first | (refine Au.wpList_store_row rfl 57 (.tmp 4) (.tmp 33) rfl y0 #[.int .i64 0, .int .i64 0, .int .i64 0] #[.int .i64 0, .int .i64 0, .int .i64 0] (w.heap.size + 1) 57 hHr.out rfl rfl hHi.out hHz.out hHo.out ?_))
  clear hHr hHi hHz hHo
  have hN := setRow_heap _ (w.heap.size + 1) _ #[.int .i64 0, .int .i64 0, .int .i64 0] _ _ hr0_1
  have hsz := HU0.out.size
  have HUx := below_setRow (g := w.heap.size + 1) HU0.out (by first | omega | (simp at *; omega)) #[.int .i64 0, .int .i64 0, .int .i64 0]
  have hO : ∀ kk, kk ≠ w.heap.size + 1 → (y0.setRow (w.heap.size + 1) #[.int .i64 0, .int .i64 0, .int .i64 0]).heap[kk]? = y0.heap[kk]? := fun kk hk => setRow_other _ _ _ _ hk
  obtain ⟨y1, hy1⟩ : ∃ y, y0.setRow (w.heap.size + 1) #[.int .i64 0, .int .i64 0, .int .i64 0] = y := ⟨_, rfl⟩
  rw [hy1] at hN HUx hO ⊢
  clear hy1 hsz
  have HU1 := Lib.hid HUx
  clear HUx
  have hr1_0 := (hO _ (by omega)).trans hr0_0
  have hr1_1 := hN
  clear hN hO
  clear hr0_0 hr0_1 HU0
  have c1_0 := cell_of_row _ _ 0 _ _ _ hr1_1
  have c1_1 := cell_of_row _ _ 1 _ _ _ hr1_1
  have c1_2 := cell_of_row _ _ 2 _ _ _ hr1_1
  simp at c1_0 c1_1 c1_2
  go_wp2
  exact bodyPost_ret (v := .tuple #[.agg #[.int .i64 0, .int .i64 0, .int .i64 0], .bool false]) (by simp [results, Try.results26, go_sem, c1_0, c1_1, c1_2]) rfl ⟨rfl, HU1.out⟩

set_option maxHeartbeats 4000000 in
set_option maxRecDepth 100000 in
theorem rlives15 (r g b u : Int) (h1 : r < g) (h2 : g < b) (h3 : Pl.unit b < 16384) (h4 : 16384 ≤ Pl.unit u) (w : World)  : Calls Try.prog 26 #[.agg #[.int .i64 r, .int .i64 g, .int .i64 b], .int .i64 u] w fun e' w' => e' = .returned (.tuple #[.agg #[.int .i64 0, .int .i64 0, .int .i64 0], .bool false]) ∧ Below w.heap.size w w' := by
  have k1 := decide_eq_true h1
  have k2 := decide_eq_true h2
  have k3 := decide_eq_true h3
  have k4 := decide_eq_true h4
  go_enter Try.func26, Try.ntmps26
  go_upto_region 1 with fail
  have hR := Au.rows2 w (.cells #[.int .i64 r, .int .i64 g, .int .i64 b] 57) (.cells #[.int .i64 0, .int .i64 0, .int .i64 0] 57)
  have HUx := below_n2 w (.cells #[.int .i64 r, .int .i64 g, .int .i64 b] 57) (.cells #[.int .i64 0, .int .i64 0, .int .i64 0] 57)
  obtain ⟨y0, hy0⟩ : ∃ y0, (w.alloc (.cells #[.int .i64 r, .int .i64 g, .int .i64 b] 57)).alloc (.cells #[.int .i64 0, .int .i64 0, .int .i64 0] 57) = y0 := ⟨_, rfl⟩
  rw [hy0] at hR HUx ⊢
  clear hy0
  have HU0 := Lib.hid HUx
  clear HUx
  obtain ⟨hr0_0, hr0_1⟩ := hR
  have c0_0 := cell_of_row _ _ 0 _ _ _ hr0_0
  have c0_1 := cell_of_row _ _ 1 _ _ _ hr0_0
  have c0_2 := cell_of_row _ _ 2 _ _ _ hr0_0
  simp at c0_0 c0_1 c0_2
  go_wp2_with fail
  refine wp_loop_rounds 3 ?_
  rw [rounds_succ]
  go_wp2_with fail
  rw [rounds_succ]
  go_wp2_with fail
  rw [rounds_succ]
  go_upto_region 11 with (first | (go_at_call 48; refine (refUnit_any _ _).mono ?_; rintro e ww ⟨rfl, rfl⟩) | (go_at_call 49; refine (refDiv_any _ _ _).mono ?_; rintro e ww ⟨rfl, rfl⟩))
  clear c0_0 c0_1 c0_2
  have hHr := Lib.hid hr0_1
  have hHi := Lib.hid (show (Try.prog.info? 57).map (·.size) = some (#[.int .i64 0, .int .i64 0, .int .i64 0] : Array Value).size by kernel_rfl)
  have hHz := Lib.hid (show (#[.int .i64 0, .int .i64 0, .int .i64 0] : Array Value).size = (#[.int .i64 0, .int .i64 0, .int .i64 0] : Array Value).size from rfl)
  have hHo := Lib.hid (show (#[.int .i64 0, .int .i64 0, .int .i64 0] : Array Value).all (·.oneCell') = true by simp [Value.oneCell'])
  go_wp2_with (first | (refine Au.wpList_store_row rfl 57 (.tmp 4) (.tmp 33) rfl y0 #[.int .i64 0, .int .i64 0, .int .i64 0] #[.int .i64 0, .int .i64 0, .int .i64 0] (w.heap.size + 1) 57 hHr.out rfl rfl hHi.out hHz.out hHo.out ?_))
  clear hHr hHi hHz hHo
  have hN := setRow_heap _ (w.heap.size + 1) _ #[.int .i64 0, .int .i64 0, .int .i64 0] _ _ hr0_1
  have hsz := HU0.out.size
  have HUx := below_setRow (g := w.heap.size + 1) HU0.out (by first | omega | (simp at *; omega)) #[.int .i64 0, .int .i64 0, .int .i64 0]
  have hO : ∀ kk, kk ≠ w.heap.size + 1 → (y0.setRow (w.heap.size + 1) #[.int .i64 0, .int .i64 0, .int .i64 0]).heap[kk]? = y0.heap[kk]? := fun kk hk => setRow_other _ _ _ _ hk
  obtain ⟨y1, hy1⟩ : ∃ y, y0.setRow (w.heap.size + 1) #[.int .i64 0, .int .i64 0, .int .i64 0] = y := ⟨_, rfl⟩
  rw [hy1] at hN HUx hO ⊢
  clear hy1 hsz
  have HU1 := Lib.hid HUx
  clear HUx
  have hr1_0 := (hO _ (by omega)).trans hr0_0
  have hr1_1 := hN
  clear hN hO
  clear hr0_0 hr0_1 HU0
  have c1_0 := cell_of_row _ _ 0 _ _ _ hr1_1
  have c1_1 := cell_of_row _ _ 1 _ _ _ hr1_1
  have c1_2 := cell_of_row _ _ 2 _ _ _ hr1_1
  simp at c1_0 c1_1 c1_2
  go_wp2
  exact bodyPost_ret (v := .tuple #[.agg #[.int .i64 0, .int .i64 0, .int .i64 0], .bool false]) (by simp [results, Try.results26, go_sem, c1_0, c1_1, c1_2]) rfl ⟨rfl, HU1.out⟩

end Go.Proofs.Ytplcbdmiccpnnaa.Co
