/- Lights smoothed: Level, Smooth by the document. -/
import Derived.Test.YtgpbnpnnbipfpaaDoorF46
import Derived.Test.YtgpbnpnnbipfpaaDoorF48
import Derived.Test.YtgpbnpnnbipfpaaDoorF26
import Derived.Deep.AppendLies
namespace Go.Proofs.YtgpbnpnnbipfpaaDoor.Fm
open Go Go.RowKit Go.Proofs.YtgpbnpnnbipfpaaDoor Go.Proofs.YtgpbnpnnbipfpaaDoor.Rp Go.Proofs.YtgpbnpnnbipfpaaDoor.Re Go.Proofs.YtgpbnpnnbipfpaaDoor.Au Go.Proofs.YtgpbnpnnbipfpaaDoor.Jw
set_option linter.unusedVariables false
set_option linter.unusedSimpArgs false

set_option maxHeartbeats 4000000 in
set_option maxRecDepth 100000 in
theorem dlevel_f (f : Flm) (p : Pl) (W3 H3 : Int) (a : Option Addr) (n c : Nat) (L : Nat → Int) (lv : Int) (w : World) (hf : FAt w f p) (ho : ¬ okF f) : Calls Tryd.prog 11 #[.agg (FC f p), .agg #[.int .i64 W3, .int .i64 H3, .slice a n c], .int .i64 lv] w fun e' w' => e' = .returned (.tuple #[.agg #[.int .i64 0, .int .i64 0, .slice none 0 0], .int .i64 1]) ∧ Below w.heap.size w w' := by
  have HF := Lib.hid hf
  clear hf
  have HO := Lib.hid ho
  clear ho
  go_enter Tryd.func11, Tryd.ntmps11
  go_upto_region 1 with fail
  have hR := Au.rows3 w (.cells (FC f p) 29) (.cells #[.int .i64 W3, .int .i64 H3, .slice a n c] 24) (.cells #[.int .i64 0, .int .i64 0, .slice none 0 0] 24)
  have HUx := Ve.below_n3 w (.cells (FC f p) 29) (.cells #[.int .i64 W3, .int .i64 H3, .slice a n c] 24) (.cells #[.int .i64 0, .int .i64 0, .slice none 0 0] 24)
  obtain ⟨y0, hy0⟩ : ∃ y0, ((w.alloc (.cells (FC f p) 29)).alloc (.cells #[.int .i64 W3, .int .i64 H3, .slice a n c] 24)).alloc (.cells #[.int .i64 0, .int .i64 0, .slice none 0 0] 24) = y0 := ⟨_, rfl⟩
  rw [hy0] at hR HUx ⊢
  clear hy0
  have HU0 := Lib.hid HUx
  clear HUx
  obtain ⟨hr0_0, hr0_1, hr0_2⟩ := hR
  have c0_0 := cell_of_row _ _ 0 _ _ _ hr0_0
  have c0_1 := cell_of_row _ _ 1 _ _ _ hr0_0
  have c0_2 := cell_of_row _ _ 2 _ _ _ hr0_0
  have c0_3 := cell_of_row _ _ 3 _ _ _ hr0_0
  have c0_4 := cell_of_row _ _ 4 _ _ _ hr0_0
  have c0_5 := cell_of_row _ _ 5 _ _ _ hr0_0
  have c0_6 := cell_of_row _ _ 6 _ _ _ hr0_0
  have c0_7 := cell_of_row _ _ 7 _ _ _ hr0_0
  simp at c0_0 c0_1 c0_2 c0_3 c0_4 c0_5 c0_6 c0_7
  have c1_0 := cell_of_row _ _ 0 _ _ _ hr0_1
  have c1_1 := cell_of_row _ _ 1 _ _ _ hr0_1
  have c1_2 := cell_of_row _ _ 2 _ _ _ hr0_1
  simp at c1_0 c1_1 c1_2
  go_wp2_with fail
  clear c0_0 c0_1 c0_2 c0_3 c0_4 c0_5 c0_6 c0_7
  refine (dright_any f p _ (HF.out.on HU0.out)).mono ?_
  rintro e y1 ⟨rfl, hb1⟩
  clear c1_0 c1_1 c1_2
  have hr1_0 := (hb1.block _ (lt_heap hr0_0)).trans hr0_0
  have hr1_1 := (hb1.block _ (lt_heap hr0_1)).trans hr0_1
  have hr1_2 := (hb1.block _ (lt_heap hr0_2)).trans hr0_2
  have HU1 := Lib.hid (HU0.out.trans (hb1.mono HU0.out.size))
  clear hr0_0 hr0_1 hr0_2 HU0
  rw [decide_eq_false HO.out]
  go_upto_region 2 with fail
  have hHr := Lib.hid hr1_2
  have hHi := Lib.hid (show (Tryd.prog.info? 24).map (·.size) = some (#[.int .i64 0, .int .i64 0, .slice none 0 0] : Array Value).size by kernel_rfl)
  have hHz := Lib.hid (show (#[.int .i64 0, .int .i64 0, .slice none 0 0] : Array Value).size = (#[.int .i64 0, .int .i64 0, .slice none 0 0] : Array Value).size from rfl)
  have hHo := Lib.hid (show (#[.int .i64 0, .int .i64 0, .slice none 0 0] : Array Value).all (·.oneCell') = true by simp [Value.oneCell'])
  go_wp2_with (first | (refine Au.wpList_store_row rfl 24 (.tmp 6) (.tmp 43) rfl y1 #[.int .i64 0, .int .i64 0, .slice none 0 0] #[.int .i64 0, .int .i64 0, .slice none 0 0] (w.heap.size + 1 + 1) 24 hHr.out rfl rfl hHi.out hHz.out hHo.out ?_))
  clear hHr hHi hHz hHo
  have hN := setRow_heap _ (w.heap.size + 1 + 1) _ #[.int .i64 0, .int .i64 0, .slice none 0 0] _ _ hr1_2
  have hsz := HU1.out.size
  have HUx := below_setRow (g := w.heap.size + 1 + 1) HU1.out (by first | omega | (simp at *; omega)) #[.int .i64 0, .int .i64 0, .slice none 0 0]
  have hO : ∀ kk, kk ≠ w.heap.size + 1 + 1 → (y1.setRow (w.heap.size + 1 + 1) #[.int .i64 0, .int .i64 0, .slice none 0 0]).heap[kk]? = y1.heap[kk]? := fun kk hk => setRow_other _ _ _ _ hk
  obtain ⟨y2, hy2⟩ : ∃ y, y1.setRow (w.heap.size + 1 + 1) #[.int .i64 0, .int .i64 0, .slice none 0 0] = y := ⟨_, rfl⟩
  rw [hy2] at hN HUx hO ⊢
  clear hy2 hsz
  have HU2 := Lib.hid HUx
  clear HUx
  have hr2_0 := (hO _ (by omega)).trans hr1_0
  have hr2_1 := (hO _ (by omega)).trans hr1_1
  have hr2_2 := hN
  clear hN hO
  clear hr1_0 hr1_1 hr1_2 HU1
  have c2_0 := cell_of_row _ _ 0 _ _ _ hr2_2
  have c2_1 := cell_of_row _ _ 1 _ _ _ hr2_2
  have c2_2 := cell_of_row _ _ 2 _ _ _ hr2_2
  simp at c2_0 c2_1 c2_2
  go_wp2
  exact bodyPost_ret (v := .tuple #[.agg #[.int .i64 0, .int .i64 0, .slice none 0 0], .int .i64 1]) (by simp [results, Tryd.results11, go_sem, c2_0, c2_1, c2_2]) rfl ⟨rfl, HU2.out⟩

set_option maxHeartbeats 4000000 in
set_option maxRecDepth 100000 in
theorem dlevel_s (f : Flm) (p : Pl) (W3 H3 : Int) (a : Option Addr) (n c : Nat) (L : Nat → Int) (lv : Int) (w : World) (hf : FAt w f p) (ho : okF f) (ho3 : ¬ okSh W3 H3 n) : Calls Tryd.prog 11 #[.agg (FC f p), .agg #[.int .i64 W3, .int .i64 H3, .slice a n c], .int .i64 lv] w fun e' w' => e' = .returned (.tuple #[.agg #[.int .i64 0, .int .i64 0, .slice none 0 0], .int .i64 1]) ∧ Below w.heap.size w w' := by
  have HF := Lib.hid hf
  clear hf
  have HO := Lib.hid ho
  clear ho
  have HO3 := Lib.hid ho3
  clear ho3
  go_enter Tryd.func11, Tryd.ntmps11
  go_upto_region 1 with fail
  have hR := Au.rows3 w (.cells (FC f p) 29) (.cells #[.int .i64 W3, .int .i64 H3, .slice a n c] 24) (.cells #[.int .i64 0, .int .i64 0, .slice none 0 0] 24)
  have HUx := Ve.below_n3 w (.cells (FC f p) 29) (.cells #[.int .i64 W3, .int .i64 H3, .slice a n c] 24) (.cells #[.int .i64 0, .int .i64 0, .slice none 0 0] 24)
  obtain ⟨y0, hy0⟩ : ∃ y0, ((w.alloc (.cells (FC f p) 29)).alloc (.cells #[.int .i64 W3, .int .i64 H3, .slice a n c] 24)).alloc (.cells #[.int .i64 0, .int .i64 0, .slice none 0 0] 24) = y0 := ⟨_, rfl⟩
  rw [hy0] at hR HUx ⊢
  clear hy0
  have HU0 := Lib.hid HUx
  clear HUx
  obtain ⟨hr0_0, hr0_1, hr0_2⟩ := hR
  have c0_0 := cell_of_row _ _ 0 _ _ _ hr0_0
  have c0_1 := cell_of_row _ _ 1 _ _ _ hr0_0
  have c0_2 := cell_of_row _ _ 2 _ _ _ hr0_0
  have c0_3 := cell_of_row _ _ 3 _ _ _ hr0_0
  have c0_4 := cell_of_row _ _ 4 _ _ _ hr0_0
  have c0_5 := cell_of_row _ _ 5 _ _ _ hr0_0
  have c0_6 := cell_of_row _ _ 6 _ _ _ hr0_0
  have c0_7 := cell_of_row _ _ 7 _ _ _ hr0_0
  simp at c0_0 c0_1 c0_2 c0_3 c0_4 c0_5 c0_6 c0_7
  have c1_0 := cell_of_row _ _ 0 _ _ _ hr0_1
  have c1_1 := cell_of_row _ _ 1 _ _ _ hr0_1
  have c1_2 := cell_of_row _ _ 2 _ _ _ hr0_1
  simp at c1_0 c1_1 c1_2
  go_wp2_with fail
  clear c0_0 c0_1 c0_2 c0_3 c0_4 c0_5 c0_6 c0_7
  refine (dright_any f p _ (HF.out.on HU0.out)).mono ?_
  rintro e y1 ⟨rfl, hb1⟩
  clear c1_0 c1_1 c1_2
  have hr1_0 := (hb1.block _ (lt_heap hr0_0)).trans hr0_0
  have hr1_1 := (hb1.block _ (lt_heap hr0_1)).trans hr0_1
  have hr1_2 := (hb1.block _ (lt_heap hr0_2)).trans hr0_2
  have HU1 := Lib.hid (HU0.out.trans (hb1.mono HU0.out.size))
  clear hr0_0 hr0_1 hr0_2 HU0
  rw [decide_eq_true HO.out]
  have c0_0 := cell_of_row _ _ 0 _ _ _ hr1_0
  have c0_1 := cell_of_row _ _ 1 _ _ _ hr1_0
  have c0_2 := cell_of_row _ _ 2 _ _ _ hr1_0
  have c0_3 := cell_of_row _ _ 3 _ _ _ hr1_0
  have c0_4 := cell_of_row _ _ 4 _ _ _ hr1_0
  have c0_5 := cell_of_row _ _ 5 _ _ _ hr1_0
  have c0_6 := cell_of_row _ _ 6 _ _ _ hr1_0
  have c0_7 := cell_of_row _ _ 7 _ _ _ hr1_0
  simp at c0_0 c0_1 c0_2 c0_3 c0_4 c0_5 c0_6 c0_7
  have c1_0 := cell_of_row _ _ 0 _ _ _ hr1_1
  have c1_1 := cell_of_row _ _ 1 _ _ _ hr1_1
  have c1_2 := cell_of_row _ _ 2 _ _ _ hr1_1
  simp at c1_0 c1_1 c1_2
  go_wp2_with fail
  clear c0_0 c0_1 c0_2 c0_3 c0_4 c0_5 c0_6 c0_7
  refine (drsheet_any W3 H3 a n c _).mono ?_
  rintro e y2 ⟨rfl, hb2⟩
  clear c1_0 c1_1 c1_2
  have hr2_0 := (hb2.block _ (lt_heap hr1_0)).trans hr1_0
  have hr2_1 := (hb2.block _ (lt_heap hr1_1)).trans hr1_1
  have hr2_2 := (hb2.block _ (lt_heap hr1_2)).trans hr1_2
  have HU2 := Lib.hid (HU1.out.trans (hb2.mono HU1.out.size))
  clear hr1_0 hr1_1 hr1_2 HU1
  rw [decide_eq_false HO3.out]
  have c0_0 := cell_of_row _ _ 0 _ _ _ hr2_0
  have c0_1 := cell_of_row _ _ 1 _ _ _ hr2_0
  have c0_2 := cell_of_row _ _ 2 _ _ _ hr2_0
  have c0_3 := cell_of_row _ _ 3 _ _ _ hr2_0
  have c0_4 := cell_of_row _ _ 4 _ _ _ hr2_0
  have c0_5 := cell_of_row _ _ 5 _ _ _ hr2_0
  have c0_6 := cell_of_row _ _ 6 _ _ _ hr2_0
  have c0_7 := cell_of_row _ _ 7 _ _ _ hr2_0
  simp at c0_0 c0_1 c0_2 c0_3 c0_4 c0_5 c0_6 c0_7
  have c1_0 := cell_of_row _ _ 0 _ _ _ hr2_1
  have c1_1 := cell_of_row _ _ 1 _ _ _ hr2_1
  have c1_2 := cell_of_row _ _ 2 _ _ _ hr2_1
  simp at c1_0 c1_1 c1_2
  go_upto_region 2 with fail
  have hHr := Lib.hid hr2_2
  have hHi := Lib.hid (show (Tryd.prog.info? 24).map (·.size) = some (#[.int .i64 0, .int .i64 0, .slice none 0 0] : Array Value).size by kernel_rfl)
  have hHz := Lib.hid (show (#[.int .i64 0, .int .i64 0, .slice none 0 0] : Array Value).size = (#[.int .i64 0, .int .i64 0, .slice none 0 0] : Array Value).size from rfl)
  have hHo := Lib.hid (show (#[.int .i64 0, .int .i64 0, .slice none 0 0] : Array Value).all (·.oneCell') = true by simp [Value.oneCell'])
  go_wp2_with (first | (refine Au.wpList_store_row rfl 24 (.tmp 6) (.tmp 43) rfl y2 #[.int .i64 0, .int .i64 0, .slice none 0 0] #[.int .i64 0, .int .i64 0, .slice none 0 0] (w.heap.size + 1 + 1) 24 hHr.out rfl rfl hHi.out hHz.out hHo.out ?_))
  clear c1_0 c1_1 c1_2
  clear hHr hHi hHz hHo
  have hN := setRow_heap _ (w.heap.size + 1 + 1) _ #[.int .i64 0, .int .i64 0, .slice none 0 0] _ _ hr2_2
  have hsz := HU2.out.size
  have HUx := below_setRow (g := w.heap.size + 1 + 1) HU2.out (by first | omega | (simp at *; omega)) #[.int .i64 0, .int .i64 0, .slice none 0 0]
  have hO : ∀ kk, kk ≠ w.heap.size + 1 + 1 → (y2.setRow (w.heap.size + 1 + 1) #[.int .i64 0, .int .i64 0, .slice none 0 0]).heap[kk]? = y2.heap[kk]? := fun kk hk => setRow_other _ _ _ _ hk
  obtain ⟨y3, hy3⟩ : ∃ y, y2.setRow (w.heap.size + 1 + 1) #[.int .i64 0, .int .i64 0, .slice none 0 0] = y := ⟨_, rfl⟩
  rw [hy3] at hN HUx hO ⊢
  clear hy3 hsz
  have HU3 := Lib.hid HUx
  clear HUx
  have hr3_0 := (hO _ (by omega)).trans hr2_0
  have hr3_1 := (hO _ (by omega)).trans hr2_1
  have hr3_2 := hN
  clear hN hO
  clear hr2_0 hr2_1 hr2_2 HU2
  clear c0_0 c0_1 c0_2 c0_3 c0_4 c0_5 c0_6 c0_7
  have c2_0 := cell_of_row _ _ 0 _ _ _ hr3_2
  have c2_1 := cell_of_row _ _ 1 _ _ _ hr3_2
  have c2_2 := cell_of_row _ _ 2 _ _ _ hr3_2
  simp at c2_0 c2_1 c2_2
  go_wp2
  exact bodyPost_ret (v := .tuple #[.agg #[.int .i64 0, .int .i64 0, .slice none 0 0], .int .i64 1]) (by simp [results, Tryd.results11, go_sem, c2_0, c2_1, c2_2]) rfl ⟨rfl, HU3.out⟩

set_option maxHeartbeats 4000000 in
set_option maxRecDepth 100000 in
theorem dlevel_w (f : Flm) (p : Pl) (W3 H3 : Int) (a : Option Addr) (n c : Nat) (L : Nat → Int) (lv : Int) (w : World) (hf : FAt w f p) (ho : okF f) (ho3 : okSh W3 H3 n) (hw : ¬ f.W = W3) : Calls Tryd.prog 11 #[.agg (FC f p), .agg #[.int .i64 W3, .int .i64 H3, .slice a n c], .int .i64 lv] w fun e' w' => e' = .returned (.tuple #[.agg #[.int .i64 0, .int .i64 0, .slice none 0 0], .int .i64 1]) ∧ Below w.heap.size w w' := by
  have HF := Lib.hid hf
  clear hf
  have HO := Lib.hid ho
  clear ho
  have HO3 := Lib.hid ho3
  clear ho3
  have dw : (f.W != W3) = true := by simpa using hw
  clear hw
  go_enter Tryd.func11, Tryd.ntmps11
  go_upto_region 1 with fail
  have hR := Au.rows3 w (.cells (FC f p) 29) (.cells #[.int .i64 W3, .int .i64 H3, .slice a n c] 24) (.cells #[.int .i64 0, .int .i64 0, .slice none 0 0] 24)
  have HUx := Ve.below_n3 w (.cells (FC f p) 29) (.cells #[.int .i64 W3, .int .i64 H3, .slice a n c] 24) (.cells #[.int .i64 0, .int .i64 0, .slice none 0 0] 24)
  obtain ⟨y0, hy0⟩ : ∃ y0, ((w.alloc (.cells (FC f p) 29)).alloc (.cells #[.int .i64 W3, .int .i64 H3, .slice a n c] 24)).alloc (.cells #[.int .i64 0, .int .i64 0, .slice none 0 0] 24) = y0 := ⟨_, rfl⟩
  rw [hy0] at hR HUx ⊢
  clear hy0
  have HU0 := Lib.hid HUx
  clear HUx
  obtain ⟨hr0_0, hr0_1, hr0_2⟩ := hR
  have c0_0 := cell_of_row _ _ 0 _ _ _ hr0_0
  have c0_1 := cell_of_row _ _ 1 _ _ _ hr0_0
  have c0_2 := cell_of_row _ _ 2 _ _ _ hr0_0
  have c0_3 := cell_of_row _ _ 3 _ _ _ hr0_0
  have c0_4 := cell_of_row _ _ 4 _ _ _ hr0_0
  have c0_5 := cell_of_row _ _ 5 _ _ _ hr0_0
  have c0_6 := cell_of_row _ _ 6 _ _ _ hr0_0
  have c0_7 := cell_of_row _ _ 7 _ _ _ hr0_0
  simp at c0_0 c0_1 c0_2 c0_3 c0_4 c0_5 c0_6 c0_7
  have c1_0 := cell_of_row _ _ 0 _ _ _ hr0_1
  have c1_1 := cell_of_row _ _ 1 _ _ _ hr0_1
  have c1_2 := cell_of_row _ _ 2 _ _ _ hr0_1
  simp at c1_0 c1_1 c1_2
  go_wp2_with fail
  clear c0_0 c0_1 c0_2 c0_3 c0_4 c0_5 c0_6 c0_7
  refine (dright_any f p _ (HF.out.on HU0.out)).mono ?_
  rintro e y1 ⟨rfl, hb1⟩
  clear c1_0 c1_1 c1_2
  have hr1_0 := (hb1.block _ (lt_heap hr0_0)).trans hr0_0
  have hr1_1 := (hb1.block _ (lt_heap hr0_1)).trans hr0_1
  have hr1_2 := (hb1.block _ (lt_heap hr0_2)).trans hr0_2
  have HU1 := Lib.hid (HU0.out.trans (hb1.mono HU0.out.size))
  clear hr0_0 hr0_1 hr0_2 HU0
  rw [decide_eq_true HO.out]
  have c0_0 := cell_of_row _ _ 0 _ _ _ hr1_0
  have c0_1 := cell_of_row _ _ 1 _ _ _ hr1_0
  have c0_2 := cell_of_row _ _ 2 _ _ _ hr1_0
  have c0_3 := cell_of_row _ _ 3 _ _ _ hr1_0
  have c0_4 := cell_of_row _ _ 4 _ _ _ hr1_0
  have c0_5 := cell_of_row _ _ 5 _ _ _ hr1_0
  have c0_6 := cell_of_row _ _ 6 _ _ _ hr1_0
  have c0_7 := cell_of_row _ _ 7 _ _ _ hr1_0
  simp at c0_0 c0_1 c0_2 c0_3 c0_4 c0_5 c0_6 c0_7
  have c1_0 := cell_of_row _ _ 0 _ _ _ hr1_1
  have c1_1 := cell_of_row _ _ 1 _ _ _ hr1_1
  have c1_2 := cell_of_row _ _ 2 _ _ _ hr1_1
  simp at c1_0 c1_1 c1_2
  go_wp2_with fail
  clear c0_0 c0_1 c0_2 c0_3 c0_4 c0_5 c0_6 c0_7
  refine (drsheet_any W3 H3 a n c _).mono ?_
  rintro e y2 ⟨rfl, hb2⟩
  clear c1_0 c1_1 c1_2
  have hr2_0 := (hb2.block _ (lt_heap hr1_0)).trans hr1_0
  have hr2_1 := (hb2.block _ (lt_heap hr1_1)).trans hr1_1
  have hr2_2 := (hb2.block _ (lt_heap hr1_2)).trans hr1_2
  have HU2 := Lib.hid (HU1.out.trans (hb2.mono HU1.out.size))
  clear hr1_0 hr1_1 hr1_2 HU1
  rw [decide_eq_true HO3.out]
  have c0_0 := cell_of_row _ _ 0 _ _ _ hr2_0
  have c0_1 := cell_of_row _ _ 1 _ _ _ hr2_0
  have c0_2 := cell_of_row _ _ 2 _ _ _ hr2_0
  have c0_3 := cell_of_row _ _ 3 _ _ _ hr2_0
  have c0_4 := cell_of_row _ _ 4 _ _ _ hr2_0
  have c0_5 := cell_of_row _ _ 5 _ _ _ hr2_0
  have c0_6 := cell_of_row _ _ 6 _ _ _ hr2_0
  have c0_7 := cell_of_row _ _ 7 _ _ _ hr2_0
  simp at c0_0 c0_1 c0_2 c0_3 c0_4 c0_5 c0_6 c0_7
  have c1_0 := cell_of_row _ _ 0 _ _ _ hr2_1
  have c1_1 := cell_of_row _ _ 1 _ _ _ hr2_1
  have c1_2 := cell_of_row _ _ 2 _ _ _ hr2_1
  simp at c1_0 c1_1 c1_2
  go_upto_region 2 with fail
  have hHr := Lib.hid hr2_2
  have hHi := Lib.hid (show (Tryd.prog.info? 24).map (·.size) = some (#[.int .i64 0, .int .i64 0, .slice none 0 0] : Array Value).size by kernel_rfl)
  have hHz := Lib.hid (show (#[.int .i64 0, .int .i64 0, .slice none 0 0] : Array Value).size = (#[.int .i64 0, .int .i64 0, .slice none 0 0] : Array Value).size from rfl)
  have hHo := Lib.hid (show (#[.int .i64 0, .int .i64 0, .slice none 0 0] : Array Value).all (·.oneCell') = true by simp [Value.oneCell'])
  go_wp2_with (first | (refine Au.wpList_store_row rfl 24 (.tmp 6) (.tmp 43) rfl y2 #[.int .i64 0, .int .i64 0, .slice none 0 0] #[.int .i64 0, .int .i64 0, .slice none 0 0] (w.heap.size + 1 + 1) 24 hHr.out rfl rfl hHi.out hHz.out hHo.out ?_))
  clear c1_0 c1_1 c1_2
  clear hHr hHi hHz hHo
  have hN := setRow_heap _ (w.heap.size + 1 + 1) _ #[.int .i64 0, .int .i64 0, .slice none 0 0] _ _ hr2_2
  have hsz := HU2.out.size
  have HUx := below_setRow (g := w.heap.size + 1 + 1) HU2.out (by first | omega | (simp at *; omega)) #[.int .i64 0, .int .i64 0, .slice none 0 0]
  have hO : ∀ kk, kk ≠ w.heap.size + 1 + 1 → (y2.setRow (w.heap.size + 1 + 1) #[.int .i64 0, .int .i64 0, .slice none 0 0]).heap[kk]? = y2.heap[kk]? := fun kk hk => setRow_other _ _ _ _ hk
  obtain ⟨y3, hy3⟩ : ∃ y, y2.setRow (w.heap.size + 1 + 1) #[.int .i64 0, .int .i64 0, .slice none 0 0] = y := ⟨_, rfl⟩
  rw [hy3] at hN HUx hO ⊢
  clear hy3 hsz
  have HU3 := Lib.hid HUx
  clear HUx
  have hr3_0 := (hO _ (by omega)).trans hr2_0
  have hr3_1 := (hO _ (by omega)).trans hr2_1
  have hr3_2 := hN
  clear hN hO
  clear hr2_0 hr2_1 hr2_2 HU2
  clear c0_0 c0_1 c0_2 c0_3 c0_4 c0_5 c0_6 c0_7
  have c2_0 := cell_of_row _ _ 0 _ _ _ hr3_2
  have c2_1 := cell_of_row _ _ 1 _ _ _ hr3_2
  have c2_2 := cell_of_row _ _ 2 _ _ _ hr3_2
  simp at c2_0 c2_1 c2_2
  go_wp2
  exact bodyPost_ret (v := .tuple #[.agg #[.int .i64 0, .int .i64 0, .slice none 0 0], .int .i64 1]) (by simp [results, Tryd.results11, go_sem, c2_0, c2_1, c2_2]) rfl ⟨rfl, HU3.out⟩

set_option maxHeartbeats 4000000 in
set_option maxRecDepth 100000 in
theorem dlevel_h (f : Flm) (p : Pl) (W3 H3 : Int) (a : Option Addr) (n c : Nat) (L : Nat → Int) (lv : Int) (w : World) (hf : FAt w f p) (ho : okF f) (ho3 : okSh W3 H3 n) (hw : f.W = W3) (hh : ¬ f.H = H3) : Calls Tryd.prog 11 #[.agg (FC f p), .agg #[.int .i64 W3, .int .i64 H3, .slice a n c], .int .i64 lv] w fun e' w' => e' = .returned (.tuple #[.agg #[.int .i64 0, .int .i64 0, .slice none 0 0], .int .i64 1]) ∧ Below w.heap.size w w' := by
  have HF := Lib.hid hf
  clear hf
  have HO := Lib.hid ho
  clear ho
  have HO3 := Lib.hid ho3
  clear ho3
  have dw : (f.W != W3) = false := by simpa using hw
  clear hw
  have dh : (f.H != H3) = true := by simpa using hh
  clear hh
  go_enter Tryd.func11, Tryd.ntmps11
  go_upto_region 1 with fail
  have hR := Au.rows3 w (.cells (FC f p) 29) (.cells #[.int .i64 W3, .int .i64 H3, .slice a n c] 24) (.cells #[.int .i64 0, .int .i64 0, .slice none 0 0] 24)
  have HUx := Ve.below_n3 w (.cells (FC f p) 29) (.cells #[.int .i64 W3, .int .i64 H3, .slice a n c] 24) (.cells #[.int .i64 0, .int .i64 0, .slice none 0 0] 24)
  obtain ⟨y0, hy0⟩ : ∃ y0, ((w.alloc (.cells (FC f p) 29)).alloc (.cells #[.int .i64 W3, .int .i64 H3, .slice a n c] 24)).alloc (.cells #[.int .i64 0, .int .i64 0, .slice none 0 0] 24) = y0 := ⟨_, rfl⟩
  rw [hy0] at hR HUx ⊢
  clear hy0
  have HU0 := Lib.hid HUx
  clear HUx
  obtain ⟨hr0_0, hr0_1, hr0_2⟩ := hR
  have c0_0 := cell_of_row _ _ 0 _ _ _ hr0_0
  have c0_1 := cell_of_row _ _ 1 _ _ _ hr0_0
  have c0_2 := cell_of_row _ _ 2 _ _ _ hr0_0
  have c0_3 := cell_of_row _ _ 3 _ _ _ hr0_0
  have c0_4 := cell_of_row _ _ 4 _ _ _ hr0_0
  have c0_5 := cell_of_row _ _ 5 _ _ _ hr0_0
  have c0_6 := cell_of_row _ _ 6 _ _ _ hr0_0
  have c0_7 := cell_of_row _ _ 7 _ _ _ hr0_0
  simp at c0_0 c0_1 c0_2 c0_3 c0_4 c0_5 c0_6 c0_7
  have c1_0 := cell_of_row _ _ 0 _ _ _ hr0_1
  have c1_1 := cell_of_row _ _ 1 _ _ _ hr0_1
  have c1_2 := cell_of_row _ _ 2 _ _ _ hr0_1
  simp at c1_0 c1_1 c1_2
  go_wp2_with fail
  clear c0_0 c0_1 c0_2 c0_3 c0_4 c0_5 c0_6 c0_7
  refine (dright_any f p _ (HF.out.on HU0.out)).mono ?_
  rintro e y1 ⟨rfl, hb1⟩
  clear c1_0 c1_1 c1_2
  have hr1_0 := (hb1.block _ (lt_heap hr0_0)).trans hr0_0
  have hr1_1 := (hb1.block _ (lt_heap hr0_1)).trans hr0_1
  have hr1_2 := (hb1.block _ (lt_heap hr0_2)).trans hr0_2
  have HU1 := Lib.hid (HU0.out.trans (hb1.mono HU0.out.size))
  clear hr0_0 hr0_1 hr0_2 HU0
  rw [decide_eq_true HO.out]
  have c0_0 := cell_of_row _ _ 0 _ _ _ hr1_0
  have c0_1 := cell_of_row _ _ 1 _ _ _ hr1_0
  have c0_2 := cell_of_row _ _ 2 _ _ _ hr1_0
  have c0_3 := cell_of_row _ _ 3 _ _ _ hr1_0
  have c0_4 := cell_of_row _ _ 4 _ _ _ hr1_0
  have c0_5 := cell_of_row _ _ 5 _ _ _ hr1_0
  have c0_6 := cell_of_row _ _ 6 _ _ _ hr1_0
  have c0_7 := cell_of_row _ _ 7 _ _ _ hr1_0
  simp at c0_0 c0_1 c0_2 c0_3 c0_4 c0_5 c0_6 c0_7
  have c1_0 := cell_of_row _ _ 0 _ _ _ hr1_1
  have c1_1 := cell_of_row _ _ 1 _ _ _ hr1_1
  have c1_2 := cell_of_row _ _ 2 _ _ _ hr1_1
  simp at c1_0 c1_1 c1_2
  go_wp2_with fail
  clear c0_0 c0_1 c0_2 c0_3 c0_4 c0_5 c0_6 c0_7
  refine (drsheet_any W3 H3 a n c _).mono ?_
  rintro e y2 ⟨rfl, hb2⟩
  clear c1_0 c1_1 c1_2
  have hr2_0 := (hb2.block _ (lt_heap hr1_0)).trans hr1_0
  have hr2_1 := (hb2.block _ (lt_heap hr1_1)).trans hr1_1
  have hr2_2 := (hb2.block _ (lt_heap hr1_2)).trans hr1_2
  have HU2 := Lib.hid (HU1.out.trans (hb2.mono HU1.out.size))
  clear hr1_0 hr1_1 hr1_2 HU1
  rw [decide_eq_true HO3.out]
  have c0_0 := cell_of_row _ _ 0 _ _ _ hr2_0
  have c0_1 := cell_of_row _ _ 1 _ _ _ hr2_0
  have c0_2 := cell_of_row _ _ 2 _ _ _ hr2_0
  have c0_3 := cell_of_row _ _ 3 _ _ _ hr2_0
  have c0_4 := cell_of_row _ _ 4 _ _ _ hr2_0
  have c0_5 := cell_of_row _ _ 5 _ _ _ hr2_0
  have c0_6 := cell_of_row _ _ 6 _ _ _ hr2_0
  have c0_7 := cell_of_row _ _ 7 _ _ _ hr2_0
  simp at c0_0 c0_1 c0_2 c0_3 c0_4 c0_5 c0_6 c0_7
  have c1_0 := cell_of_row _ _ 0 _ _ _ hr2_1
  have c1_1 := cell_of_row _ _ 1 _ _ _ hr2_1
  have c1_2 := cell_of_row _ _ 2 _ _ _ hr2_1
  simp at c1_0 c1_1 c1_2
  go_upto_region 2 with fail
  have hHr := Lib.hid hr2_2
  have hHi := Lib.hid (show (Tryd.prog.info? 24).map (·.size) = some (#[.int .i64 0, .int .i64 0, .slice none 0 0] : Array Value).size by kernel_rfl)
  have hHz := Lib.hid (show (#[.int .i64 0, .int .i64 0, .slice none 0 0] : Array Value).size = (#[.int .i64 0, .int .i64 0, .slice none 0 0] : Array Value).size from rfl)
  have hHo := Lib.hid (show (#[.int .i64 0, .int .i64 0, .slice none 0 0] : Array Value).all (·.oneCell') = true by simp [Value.oneCell'])
  go_wp2_with (first | (refine Au.wpList_store_row rfl 24 (.tmp 6) (.tmp 43) rfl y2 #[.int .i64 0, .int .i64 0, .slice none 0 0] #[.int .i64 0, .int .i64 0, .slice none 0 0] (w.heap.size + 1 + 1) 24 hHr.out rfl rfl hHi.out hHz.out hHo.out ?_))
  clear c1_0 c1_1 c1_2
  clear hHr hHi hHz hHo
  have hN := setRow_heap _ (w.heap.size + 1 + 1) _ #[.int .i64 0, .int .i64 0, .slice none 0 0] _ _ hr2_2
  have hsz := HU2.out.size
  have HUx := below_setRow (g := w.heap.size + 1 + 1) HU2.out (by first | omega | (simp at *; omega)) #[.int .i64 0, .int .i64 0, .slice none 0 0]
  have hO : ∀ kk, kk ≠ w.heap.size + 1 + 1 → (y2.setRow (w.heap.size + 1 + 1) #[.int .i64 0, .int .i64 0, .slice none 0 0]).heap[kk]? = y2.heap[kk]? := fun kk hk => setRow_other _ _ _ _ hk
  obtain ⟨y3, hy3⟩ : ∃ y, y2.setRow (w.heap.size + 1 + 1) #[.int .i64 0, .int .i64 0, .slice none 0 0] = y := ⟨_, rfl⟩
  rw [hy3] at hN HUx hO ⊢
  clear hy3 hsz
  have HU3 := Lib.hid HUx
  clear HUx
  have hr3_0 := (hO _ (by omega)).trans hr2_0
  have hr3_1 := (hO _ (by omega)).trans hr2_1
  have hr3_2 := hN
  clear hN hO
  clear hr2_0 hr2_1 hr2_2 HU2
  clear c0_0 c0_1 c0_2 c0_3 c0_4 c0_5 c0_6 c0_7
  have c2_0 := cell_of_row _ _ 0 _ _ _ hr3_2
  have c2_1 := cell_of_row _ _ 1 _ _ _ hr3_2
  have c2_2 := cell_of_row _ _ 2 _ _ _ hr3_2
  simp at c2_0 c2_1 c2_2
  go_wp2
  exact bodyPost_ret (v := .tuple #[.agg #[.int .i64 0, .int .i64 0, .slice none 0 0], .int .i64 1]) (by simp [results, Tryd.results11, go_sem, c2_0, c2_1, c2_2]) rfl ⟨rfl, HU3.out⟩

set_option maxHeartbeats 4000000 in
set_option maxRecDepth 100000 in
theorem dlevel_neg (f : Flm) (p : Pl) (W3 H3 : Int) (a : Option Addr) (n c : Nat) (L : Nat → Int) (lv : Int) (w : World) (hf : FAt w f p) (ho : okF f) (ho3 : okSh W3 H3 n) (hw : f.W = W3) (hh : f.H = H3) (h1 : lv < 0) : Calls Tryd.prog 11 #[.agg (FC f p), .agg #[.int .i64 W3, .int .i64 H3, .slice a n c], .int .i64 lv] w fun e' w' => e' = .returned (.tuple #[.agg #[.int .i64 0, .int .i64 0, .slice none 0 0], .int .i64 1]) ∧ Below w.heap.size w w' := by
  have HF := Lib.hid hf
  clear hf
  have HO := Lib.hid ho
  clear ho
  have HO3 := Lib.hid ho3
  clear ho3
  have dw : (f.W != W3) = false := by simpa using hw
  clear hw
  have dh : (f.H != H3) = false := by simpa using hh
  clear hh
  have d1 : decide (lv < 0) = true := decide_eq_true h1
  clear h1
  go_enter Tryd.func11, Tryd.ntmps11
  go_upto_region 1 with fail
  have hR := Au.rows3 w (.cells (FC f p) 29) (.cells #[.int .i64 W3, .int .i64 H3, .slice a n c] 24) (.cells #[.int .i64 0, .int .i64 0, .slice none 0 0] 24)
  have HUx := Ve.below_n3 w (.cells (FC f p) 29) (.cells #[.int .i64 W3, .int .i64 H3, .slice a n c] 24) (.cells #[.int .i64 0, .int .i64 0, .slice none 0 0] 24)
  obtain ⟨y0, hy0⟩ : ∃ y0, ((w.alloc (.cells (FC f p) 29)).alloc (.cells #[.int .i64 W3, .int .i64 H3, .slice a n c] 24)).alloc (.cells #[.int .i64 0, .int .i64 0, .slice none 0 0] 24) = y0 := ⟨_, rfl⟩
  rw [hy0] at hR HUx ⊢
  clear hy0
  have HU0 := Lib.hid HUx
  clear HUx
  obtain ⟨hr0_0, hr0_1, hr0_2⟩ := hR
  have c0_0 := cell_of_row _ _ 0 _ _ _ hr0_0
  have c0_1 := cell_of_row _ _ 1 _ _ _ hr0_0
  have c0_2 := cell_of_row _ _ 2 _ _ _ hr0_0
  have c0_3 := cell_of_row _ _ 3 _ _ _ hr0_0
  have c0_4 := cell_of_row _ _ 4 _ _ _ hr0_0
  have c0_5 := cell_of_row _ _ 5 _ _ _ hr0_0
  have c0_6 := cell_of_row _ _ 6 _ _ _ hr0_0
  have c0_7 := cell_of_row _ _ 7 _ _ _ hr0_0
  simp at c0_0 c0_1 c0_2 c0_3 c0_4 c0_5 c0_6 c0_7
  have c1_0 := cell_of_row _ _ 0 _ _ _ hr0_1
  have c1_1 := cell_of_row _ _ 1 _ _ _ hr0_1
  have c1_2 := cell_of_row _ _ 2 _ _ _ hr0_1
  simp at c1_0 c1_1 c1_2
  go_wp2_with fail
  clear c0_0 c0_1 c0_2 c0_3 c0_4 c0_5 c0_6 c0_7
  refine (dright_any f p _ (HF.out.on HU0.out)).mono ?_
  rintro e y1 ⟨rfl, hb1⟩
  clear c1_0 c1_1 c1_2
  have hr1_0 := (hb1.block _ (lt_heap hr0_0)).trans hr0_0
  have hr1_1 := (hb1.block _ (lt_heap hr0_1)).trans hr0_1
  have hr1_2 := (hb1.block _ (lt_heap hr0_2)).trans hr0_2
  have HU1 := Lib.hid (HU0.out.trans (hb1.mono HU0.out.size))
  clear hr0_0 hr0_1 hr0_2 HU0
  rw [decide_eq_true HO.out]
  have c0_0 := cell_of_row _ _ 0 _ _ _ hr1_0
  have c0_1 := cell_of_row _ _ 1 _ _ _ hr1_0
  have c0_2 := cell_of_row _ _ 2 _ _ _ hr1_0
  have c0_3 := cell_of_row _ _ 3 _ _ _ hr1_0
  have c0_4 := cell_of_row _ _ 4 _ _ _ hr1_0
  have c0_5 := cell_of_row _ _ 5 _ _ _ hr1_0
  have c0_6 := cell_of_row _ _ 6 _ _ _ hr1_0
  have c0_7 := cell_of_row _ _ 7 _ _ _ hr1_0
  simp at c0_0 c0_1 c0_2 c0_3 c0_4 c0_5 c0_6 c0_7
  have c1_0 := cell_of_row _ _ 0 _ _ _ hr1_1
  have c1_1 := cell_of_row _ _ 1 _ _ _ hr1_1
  have c1_2 := cell_of_row _ _ 2 _ _ _ hr1_1
  simp at c1_0 c1_1 c1_2
  go_wp2_with fail
  clear c0_0 c0_1 c0_2 c0_3 c0_4 c0_5 c0_6 c0_7
  refine (drsheet_any W3 H3 a n c _).mono ?_
  rintro e y2 ⟨rfl, hb2⟩
  clear c1_0 c1_1 c1_2
  have hr2_0 := (hb2.block _ (lt_heap hr1_0)).trans hr1_0
  have hr2_1 := (hb2.block _ (lt_heap hr1_1)).trans hr1_1
  have hr2_2 := (hb2.block _ (lt_heap hr1_2)).trans hr1_2
  have HU2 := Lib.hid (HU1.out.trans (hb2.mono HU1.out.size))
  clear hr1_0 hr1_1 hr1_2 HU1
  rw [decide_eq_true HO3.out]
  have c0_0 := cell_of_row _ _ 0 _ _ _ hr2_0
  have c0_1 := cell_of_row _ _ 1 _ _ _ hr2_0
  have c0_2 := cell_of_row _ _ 2 _ _ _ hr2_0
  have c0_3 := cell_of_row _ _ 3 _ _ _ hr2_0
  have c0_4 := cell_of_row _ _ 4 _ _ _ hr2_0
  have c0_5 := cell_of_row _ _ 5 _ _ _ hr2_0
  have c0_6 := cell_of_row _ _ 6 _ _ _ hr2_0
  have c0_7 := cell_of_row _ _ 7 _ _ _ hr2_0
  simp at c0_0 c0_1 c0_2 c0_3 c0_4 c0_5 c0_6 c0_7
  have c1_0 := cell_of_row _ _ 0 _ _ _ hr2_1
  have c1_1 := cell_of_row _ _ 1 _ _ _ hr2_1
  have c1_2 := cell_of_row _ _ 2 _ _ _ hr2_1
  simp at c1_0 c1_1 c1_2
  go_upto_region 2 with fail
  have hHr := Lib.hid hr2_2
  have hHi := Lib.hid (show (Tryd.prog.info? 24).map (·.size) = some (#[.int .i64 0, .int .i64 0, .slice none 0 0] : Array Value).size by kernel_rfl)
  have hHz := Lib.hid (show (#[.int .i64 0, .int .i64 0, .slice none 0 0] : Array Value).size = (#[.int .i64 0, .int .i64 0, .slice none 0 0] : Array Value).size from rfl)
  have hHo := Lib.hid (show (#[.int .i64 0, .int .i64 0, .slice none 0 0] : Array Value).all (·.oneCell') = true by simp [Value.oneCell'])
  go_wp2_with (first | (refine Au.wpList_store_row rfl 24 (.tmp 6) (.tmp 43) rfl y2 #[.int .i64 0, .int .i64 0, .slice none 0 0] #[.int .i64 0, .int .i64 0, .slice none 0 0] (w.heap.size + 1 + 1) 24 hHr.out rfl rfl hHi.out hHz.out hHo.out ?_))
  clear c1_0 c1_1 c1_2
  clear hHr hHi hHz hHo
  have hN := setRow_heap _ (w.heap.size + 1 + 1) _ #[.int .i64 0, .int .i64 0, .slice none 0 0] _ _ hr2_2
  have hsz := HU2.out.size
  have HUx := below_setRow (g := w.heap.size + 1 + 1) HU2.out (by first | omega | (simp at *; omega)) #[.int .i64 0, .int .i64 0, .slice none 0 0]
  have hO : ∀ kk, kk ≠ w.heap.size + 1 + 1 → (y2.setRow (w.heap.size + 1 + 1) #[.int .i64 0, .int .i64 0, .slice none 0 0]).heap[kk]? = y2.heap[kk]? := fun kk hk => setRow_other _ _ _ _ hk
  obtain ⟨y3, hy3⟩ : ∃ y, y2.setRow (w.heap.size + 1 + 1) #[.int .i64 0, .int .i64 0, .slice none 0 0] = y := ⟨_, rfl⟩
  rw [hy3] at hN HUx hO ⊢
  clear hy3 hsz
  have HU3 := Lib.hid HUx
  clear HUx
  have hr3_0 := (hO _ (by omega)).trans hr2_0
  have hr3_1 := (hO _ (by omega)).trans hr2_1
  have hr3_2 := hN
  clear hN hO
  clear hr2_0 hr2_1 hr2_2 HU2
  clear c0_0 c0_1 c0_2 c0_3 c0_4 c0_5 c0_6 c0_7
  have c2_0 := cell_of_row _ _ 0 _ _ _ hr3_2
  have c2_1 := cell_of_row _ _ 1 _ _ _ hr3_2
  have c2_2 := cell_of_row _ _ 2 _ _ _ hr3_2
  simp at c2_0 c2_1 c2_2
  go_wp2
  exact bodyPost_ret (v := .tuple #[.agg #[.int .i64 0, .int .i64 0, .slice none 0 0], .int .i64 1]) (by simp [results, Tryd.results11, go_sem, c2_0, c2_1, c2_2]) rfl ⟨rfl, HU3.out⟩

set_option maxHeartbeats 4000000 in
set_option maxRecDepth 100000 in
theorem dlevel_big (f : Flm) (p : Pl) (W3 H3 : Int) (a : Option Addr) (n c : Nat) (L : Nat → Int) (lv : Int) (w : World) (hf : FAt w f p) (ho : okF f) (ho3 : okSh W3 H3 n) (hw : f.W = W3) (hh : f.H = H3) (h1 : ¬ lv < 0) (h2 : 5 ≤ lv) : Calls Tryd.prog 11 #[.agg (FC f p), .agg #[.int .i64 W3, .int .i64 H3, .slice a n c], .int .i64 lv] w fun e' w' => e' = .returned (.tuple #[.agg #[.int .i64 0, .int .i64 0, .slice none 0 0], .int .i64 1]) ∧ Below w.heap.size w w' := by
  have HF := Lib.hid hf
  clear hf
  have HO := Lib.hid ho
  clear ho
  have HO3 := Lib.hid ho3
  clear ho3
  have dw : (f.W != W3) = false := by simpa using hw
  clear hw
  have dh : (f.H != H3) = false := by simpa using hh
  clear hh
  have d1 : decide (lv < 0) = false := decide_eq_false h1
  clear h1
  have d2 : decide (5 ≤ lv) = true := decide_eq_true h2
  clear h2
  go_enter Tryd.func11, Tryd.ntmps11
  go_upto_region 1 with fail
  have hR := Au.rows3 w (.cells (FC f p) 29) (.cells #[.int .i64 W3, .int .i64 H3, .slice a n c] 24) (.cells #[.int .i64 0, .int .i64 0, .slice none 0 0] 24)
  have HUx := Ve.below_n3 w (.cells (FC f p) 29) (.cells #[.int .i64 W3, .int .i64 H3, .slice a n c] 24) (.cells #[.int .i64 0, .int .i64 0, .slice none 0 0] 24)
  obtain ⟨y0, hy0⟩ : ∃ y0, ((w.alloc (.cells (FC f p) 29)).alloc (.cells #[.int .i64 W3, .int .i64 H3, .slice a n c] 24)).alloc (.cells #[.int .i64 0, .int .i64 0, .slice none 0 0] 24) = y0 := ⟨_, rfl⟩
  rw [hy0] at hR HUx ⊢
  clear hy0
  have HU0 := Lib.hid HUx
  clear HUx
  obtain ⟨hr0_0, hr0_1, hr0_2⟩ := hR
  have c0_0 := cell_of_row _ _ 0 _ _ _ hr0_0
  have c0_1 := cell_of_row _ _ 1 _ _ _ hr0_0
  have c0_2 := cell_of_row _ _ 2 _ _ _ hr0_0
  have c0_3 := cell_of_row _ _ 3 _ _ _ hr0_0
  have c0_4 := cell_of_row _ _ 4 _ _ _ hr0_0
  have c0_5 := cell_of_row _ _ 5 _ _ _ hr0_0
  have c0_6 := cell_of_row _ _ 6 _ _ _ hr0_0
  have c0_7 := cell_of_row _ _ 7 _ _ _ hr0_0
  simp at c0_0 c0_1 c0_2 c0_3 c0_4 c0_5 c0_6 c0_7
  have c1_0 := cell_of_row _ _ 0 _ _ _ hr0_1
  have c1_1 := cell_of_row _ _ 1 _ _ _ hr0_1
  have c1_2 := cell_of_row _ _ 2 _ _ _ hr0_1
  simp at c1_0 c1_1 c1_2
  go_wp2_with fail
  clear c0_0 c0_1 c0_2 c0_3 c0_4 c0_5 c0_6 c0_7
  refine (dright_any f p _ (HF.out.on HU0.out)).mono ?_
  rintro e y1 ⟨rfl, hb1⟩
  clear c1_0 c1_1 c1_2
  have hr1_0 := (hb1.block _ (lt_heap hr0_0)).trans hr0_0
  have hr1_1 := (hb1.block _ (lt_heap hr0_1)).trans hr0_1
  have hr1_2 := (hb1.block _ (lt_heap hr0_2)).trans hr0_2
  have HU1 := Lib.hid (HU0.out.trans (hb1.mono HU0.out.size))
  clear hr0_0 hr0_1 hr0_2 HU0
  rw [decide_eq_true HO.out]
  have c0_0 := cell_of_row _ _ 0 _ _ _ hr1_0
  have c0_1 := cell_of_row _ _ 1 _ _ _ hr1_0
  have c0_2 := cell_of_row _ _ 2 _ _ _ hr1_0
  have c0_3 := cell_of_row _ _ 3 _ _ _ hr1_0
  have c0_4 := cell_of_row _ _ 4 _ _ _ hr1_0
  have c0_5 := cell_of_row _ _ 5 _ _ _ hr1_0
  have c0_6 := cell_of_row _ _ 6 _ _ _ hr1_0
  have c0_7 := cell_of_row _ _ 7 _ _ _ hr1_0
  simp at c0_0 c0_1 c0_2 c0_3 c0_4 c0_5 c0_6 c0_7
  have c1_0 := cell_of_row _ _ 0 _ _ _ hr1_1
  have c1_1 := cell_of_row _ _ 1 _ _ _ hr1_1
  have c1_2 := cell_of_row _ _ 2 _ _ _ hr1_1
  simp at c1_0 c1_1 c1_2
  go_wp2_with fail
  clear c0_0 c0_1 c0_2 c0_3 c0_4 c0_5 c0_6 c0_7
  refine (drsheet_any W3 H3 a n c _).mono ?_
  rintro e y2 ⟨rfl, hb2⟩
  clear c1_0 c1_1 c1_2
  have hr2_0 := (hb2.block _ (lt_heap hr1_0)).trans hr1_0
  have hr2_1 := (hb2.block _ (lt_heap hr1_1)).trans hr1_1
  have hr2_2 := (hb2.block _ (lt_heap hr1_2)).trans hr1_2
  have HU2 := Lib.hid (HU1.out.trans (hb2.mono HU1.out.size))
  clear hr1_0 hr1_1 hr1_2 HU1
  rw [decide_eq_true HO3.out]
  have c0_0 := cell_of_row _ _ 0 _ _ _ hr2_0
  have c0_1 := cell_of_row _ _ 1 _ _ _ hr2_0
  have c0_2 := cell_of_row _ _ 2 _ _ _ hr2_0
  have c0_3 := cell_of_row _ _ 3 _ _ _ hr2_0
  have c0_4 := cell_of_row _ _ 4 _ _ _ hr2_0
  have c0_5 := cell_of_row _ _ 5 _ _ _ hr2_0
  have c0_6 := cell_of_row _ _ 6 _ _ _ hr2_0
  have c0_7 := cell_of_row _ _ 7 _ _ _ hr2_0
  simp at c0_0 c0_1 c0_2 c0_3 c0_4 c0_5 c0_6 c0_7
  have c1_0 := cell_of_row _ _ 0 _ _ _ hr2_1
  have c1_1 := cell_of_row _ _ 1 _ _ _ hr2_1
  have c1_2 := cell_of_row _ _ 2 _ _ _ hr2_1
  simp at c1_0 c1_1 c1_2
  go_upto_region 2 with fail
  have hHr := Lib.hid hr2_2
  have hHi := Lib.hid (show (Tryd.prog.info? 24).map (·.size) = some (#[.int .i64 0, .int .i64 0, .slice none 0 0] : Array Value).size by kernel_rfl)
  have hHz := Lib.hid (show (#[.int .i64 0, .int .i64 0, .slice none 0 0] : Array Value).size = (#[.int .i64 0, .int .i64 0, .slice none 0 0] : Array Value).size from rfl)
  have hHo := Lib.hid (show (#[.int .i64 0, .int .i64 0, .slice none 0 0] : Array Value).all (·.oneCell') = true by simp [Value.oneCell'])
  go_wp2_with (first | (refine Au.wpList_store_row rfl 24 (.tmp 6) (.tmp 43) rfl y2 #[.int .i64 0, .int .i64 0, .slice none 0 0] #[.int .i64 0, .int .i64 0, .slice none 0 0] (w.heap.size + 1 + 1) 24 hHr.out rfl rfl hHi.out hHz.out hHo.out ?_))
  clear c1_0 c1_1 c1_2
  clear hHr hHi hHz hHo
  have hN := setRow_heap _ (w.heap.size + 1 + 1) _ #[.int .i64 0, .int .i64 0, .slice none 0 0] _ _ hr2_2
  have hsz := HU2.out.size
  have HUx := below_setRow (g := w.heap.size + 1 + 1) HU2.out (by first | omega | (simp at *; omega)) #[.int .i64 0, .int .i64 0, .slice none 0 0]
  have hO : ∀ kk, kk ≠ w.heap.size + 1 + 1 → (y2.setRow (w.heap.size + 1 + 1) #[.int .i64 0, .int .i64 0, .slice none 0 0]).heap[kk]? = y2.heap[kk]? := fun kk hk => setRow_other _ _ _ _ hk
  obtain ⟨y3, hy3⟩ : ∃ y, y2.setRow (w.heap.size + 1 + 1) #[.int .i64 0, .int .i64 0, .slice none 0 0] = y := ⟨_, rfl⟩
  rw [hy3] at hN HUx hO ⊢
  clear hy3 hsz
  have HU3 := Lib.hid HUx
  clear HUx
  have hr3_0 := (hO _ (by omega)).trans hr2_0
  have hr3_1 := (hO _ (by omega)).trans hr2_1
  have hr3_2 := hN
  clear hN hO
  clear hr2_0 hr2_1 hr2_2 HU2
  clear c0_0 c0_1 c0_2 c0_3 c0_4 c0_5 c0_6 c0_7
  have c2_0 := cell_of_row _ _ 0 _ _ _ hr3_2
  have c2_1 := cell_of_row _ _ 1 _ _ _ hr3_2
  have c2_2 := cell_of_row _ _ 2 _ _ _ hr3_2
  simp at c2_0 c2_1 c2_2
  go_wp2
  exact bodyPost_ret (v := .tuple #[.agg #[.int .i64 0, .int .i64 0, .slice none 0 0], .int .i64 1]) (by simp [results, Tryd.results11, go_sem, c2_0, c2_1, c2_2]) rfl ⟨rfl, HU3.out⟩

set_option maxHeartbeats 16000000 in
set_option maxRecDepth 100000 in
theorem dlevel_ok (f : Flm) (p : Pl) (a : Option Addr) (n c : Nat) (L : Nat → Int) (Wn Hn lv : Nat) (w : World) (hf : FAt w f p) (hl : Rw 3 w a n L) (hw : f.W = Wn) (hh : f.H = Hn) (ho : fitP f Wn Hn n) (hn : n = Wn * Hn) (hlv : lv < 5) : Calls Tryd.prog 11 #[.agg (FC f p), .agg #[.int .i64 (Wn : Nat), .int .i64 (Hn : Nat), .slice a n c], .int .i64 lv] w fun e' w' => (∃ a' c', e' = .returned (.tuple #[.agg #[.int .i64 (Wn : Nat), .int .i64 (Hn : Nat), .slice a' n c'], .int .i64 0]) ∧ RwP (fun b => w.heap.size ≤ b) 3 w' a' n (lev f Wn Hn lv L)) ∧ Below w.heap.size w w' := by
  have HF := Lib.hid hf
  have HL := Lib.hid hl
  have HW_ := Lib.hid hw
  have HH_ := Lib.hid hh
  have HO := Lib.hid ho.1
  have HO3 := Lib.hid ho.2.1
  have HN := Lib.hid hn
  have HLV := Lib.hid hlv
  have dw : (f.W != (Wn : Int)) = false := by simpa using hw
  have dh : (f.H != (Hn : Int)) = false := by simpa using hh
  have d1 : decide ((lv : Int) < 0) = false := decide_eq_false (by omega)
  have d2 : decide (5 ≤ (lv : Int)) = false := decide_eq_false (by omega)
  have hwb : 1 ≤ Wn ∧ Wn ≤ 64 ∧ 1 ≤ Hn ∧ Hn ≤ 64 := by have h1 := ho.1.1.1; unfold okSz at h1; rw [hw, hh] at h1; omega
  have hn4 : n ≤ 4096 := by have h1 := okSz_mul ho.1.1.1; rw [hw, hh] at h1; have e : ((Wn * Hn : Nat) : Int) = (Wn : Int) * (Hn : Int) := by push_cast; rfl
                            rw [← e, ← hn] at h1; omega
  clear hf hl hw hh ho hn hlv
  go_enter Tryd.func11, Tryd.ntmps11
  go_upto_region 1 with fail
  have hR := Au.rows3 w (.cells (FC f p) 29) (.cells #[.int .i64 (Wn : Nat), .int .i64 (Hn : Nat), .slice a n c] 24) (.cells #[.int .i64 0, .int .i64 0, .slice none 0 0] 24)
  have HUx := Ve.below_n3 w (.cells (FC f p) 29) (.cells #[.int .i64 (Wn : Nat), .int .i64 (Hn : Nat), .slice a n c] 24) (.cells #[.int .i64 0, .int .i64 0, .slice none 0 0] 24)
  obtain ⟨y0, hy0⟩ : ∃ y0, ((w.alloc (.cells (FC f p) 29)).alloc (.cells #[.int .i64 (Wn : Nat), .int .i64 (Hn : Nat), .slice a n c] 24)).alloc (.cells #[.int .i64 0, .int .i64 0, .slice none 0 0] 24) = y0 := ⟨_, rfl⟩
  rw [hy0] at hR HUx ⊢
  clear hy0
  have HU0 := Lib.hid HUx
  clear HUx
  obtain ⟨hr0_0, hr0_1, hr0_2⟩ := hR
  have c0_0 := cell_of_row _ _ 0 _ _ _ hr0_0
  have c0_1 := cell_of_row _ _ 1 _ _ _ hr0_0
  have c0_2 := cell_of_row _ _ 2 _ _ _ hr0_0
  have c0_3 := cell_of_row _ _ 3 _ _ _ hr0_0
  have c0_4 := cell_of_row _ _ 4 _ _ _ hr0_0
  have c0_5 := cell_of_row _ _ 5 _ _ _ hr0_0
  have c0_6 := cell_of_row _ _ 6 _ _ _ hr0_0
  have c0_7 := cell_of_row _ _ 7 _ _ _ hr0_0
  simp at c0_0 c0_1 c0_2 c0_3 c0_4 c0_5 c0_6 c0_7
  have c1_0 := cell_of_row _ _ 0 _ _ _ hr0_1
  have c1_1 := cell_of_row _ _ 1 _ _ _ hr0_1
  have c1_2 := cell_of_row _ _ 2 _ _ _ hr0_1
  simp at c1_0 c1_1 c1_2
  go_wp2_with fail
  clear c0_0 c0_1 c0_2 c0_3 c0_4 c0_5 c0_6 c0_7
  refine (dright_any f p _ (HF.out.on HU0.out)).mono ?_
  rintro e y1 ⟨rfl, hb1⟩
  clear c1_0 c1_1 c1_2
  have hr1_0 := (hb1.block _ (lt_heap hr0_0)).trans hr0_0
  have hr1_1 := (hb1.block _ (lt_heap hr0_1)).trans hr0_1
  have hr1_2 := (hb1.block _ (lt_heap hr0_2)).trans hr0_2
  have HU1 := Lib.hid (HU0.out.trans (hb1.mono HU0.out.size))
  clear hr0_0 hr0_1 hr0_2 HU0
  rw [decide_eq_true HO.out]
  have c0_0 := cell_of_row _ _ 0 _ _ _ hr1_0
  have c0_1 := cell_of_row _ _ 1 _ _ _ hr1_0
  have c0_2 := cell_of_row _ _ 2 _ _ _ hr1_0
  have c0_3 := cell_of_row _ _ 3 _ _ _ hr1_0
  have c0_4 := cell_of_row _ _ 4 _ _ _ hr1_0
  have c0_5 := cell_of_row _ _ 5 _ _ _ hr1_0
  have c0_6 := cell_of_row _ _ 6 _ _ _ hr1_0
  have c0_7 := cell_of_row _ _ 7 _ _ _ hr1_0
  simp at c0_0 c0_1 c0_2 c0_3 c0_4 c0_5 c0_6 c0_7
  have c1_0 := cell_of_row _ _ 0 _ _ _ hr1_1
  have c1_1 := cell_of_row _ _ 1 _ _ _ hr1_1
  have c1_2 := cell_of_row _ _ 2 _ _ _ hr1_1
  simp at c1_0 c1_1 c1_2
  go_wp2_with fail
  clear c0_0 c0_1 c0_2 c0_3 c0_4 c0_5 c0_6 c0_7
  refine (drsheet_any Wn Hn a n c _).mono ?_
  rintro e y2 ⟨rfl, hb2⟩
  clear c1_0 c1_1 c1_2
  have hr2_0 := (hb2.block _ (lt_heap hr1_0)).trans hr1_0
  have hr2_1 := (hb2.block _ (lt_heap hr1_1)).trans hr1_1
  have hr2_2 := (hb2.block _ (lt_heap hr1_2)).trans hr1_2
  have HU2 := Lib.hid (HU1.out.trans (hb2.mono HU1.out.size))
  clear hr1_0 hr1_1 hr1_2 HU1
  rw [decide_eq_true HO3.out]
  have c0_0 := cell_of_row _ _ 0 _ _ _ hr2_0
  have c0_1 := cell_of_row _ _ 1 _ _ _ hr2_0
  have c0_2 := cell_of_row _ _ 2 _ _ _ hr2_0
  have c0_3 := cell_of_row _ _ 3 _ _ _ hr2_0
  have c0_4 := cell_of_row _ _ 4 _ _ _ hr2_0
  have c0_5 := cell_of_row _ _ 5 _ _ _ hr2_0
  have c0_6 := cell_of_row _ _ 6 _ _ _ hr2_0
  have c0_7 := cell_of_row _ _ 7 _ _ _ hr2_0
  simp at c0_0 c0_1 c0_2 c0_3 c0_4 c0_5 c0_6 c0_7
  have c1_0 := cell_of_row _ _ 0 _ _ _ hr2_1
  have c1_1 := cell_of_row _ _ 1 _ _ _ hr2_1
  have c1_2 := cell_of_row _ _ 2 _ _ _ hr2_1
  simp at c1_0 c1_1 c1_2
  go_upto_region 3 with fail
  clear dw dh d1 d2
  clear c1_0 c1_1 c1_2
  clear c0_0 c0_1 c0_2 c0_3 c0_4 c0_5 c0_6 c0_7
  have c1_0 := cell_of_row _ _ 0 _ _ _ hr2_1
  have c1_1 := cell_of_row _ _ 1 _ _ _ hr2_1
  have c1_2 := cell_of_row _ _ 2 _ _ _ hr2_1
  simp at c1_0 c1_1 c1_2
  have HA := Lib.hid (heap_alloc_last y2 (.cells #[.int .i64 0, .int .i64 0, .slice none 0 0] 24))
  have hHi := Lib.hid (show (Tryd.prog.info? 24).map (·.size) = some (#[.int .i64 (Wn : Nat), .int .i64 (Hn : Nat), .slice none 0 0] : Array Value).size by kernel_rfl)
  have hHz := Lib.hid (show (#[.int .i64 0, .int .i64 0, .slice none 0 0] : Array Value).size = (#[.int .i64 (Wn : Nat), .int .i64 (Hn : Nat), .slice none 0 0] : Array Value).size from rfl)
  have hHo := Lib.hid (show (#[.int .i64 (Wn : Nat), .int .i64 (Hn : Nat), .slice none 0 0] : Array Value).all (·.oneCell') = true by simp [Value.oneCell'])
  go_upto_region 4 with (refine Au.wpList_store_row rfl 24 (.tmp 8) (.tmp 48) rfl (y2.alloc (.cells #[.int .i64 0, .int .i64 0, .slice none 0 0] 24)) #[.int .i64 0, .int .i64 0, .slice none 0 0] #[.int .i64 (Wn : Nat), .int .i64 (Hn : Nat), .slice none 0 0] (y2.heap.size) 24 HA.out rfl rfl hHi.out hHz.out hHo.out ?_)
  clear c1_0 c1_1 c1_2
  clear hHi hHz hHo
  have hN := setRow_heap _ (y2.heap.size) _ #[.int .i64 (Wn : Nat), .int .i64 (Hn : Nat), .slice none 0 0] _ _ HA.out
  clear HA
  have hsz := HU2.out.size
  have hb := Ve.below_n1 y2 (.cells #[.int .i64 0, .int .i64 0, .slice none 0 0] 24)
  have HUx := below_setRow (g := y2.heap.size) (HU2.out.trans (hb.mono HU2.out.size)) (by omega) #[.int .i64 (Wn : Nat), .int .i64 (Hn : Nat), .slice none 0 0]
  have hO : ∀ kk, kk < y2.heap.size → ((y2.alloc (.cells #[.int .i64 0, .int .i64 0, .slice none 0 0] 24)).setRow (y2.heap.size) #[.int .i64 (Wn : Nat), .int .i64 (Hn : Nat), .slice none 0 0]).heap[kk]? = y2.heap[kk]? := fun kk hk => (setRow_other _ _ _ _ (by omega)).trans (hb.block _ hk)
  obtain ⟨y3, hy3⟩ : ∃ y, (y2.alloc (.cells #[.int .i64 0, .int .i64 0, .slice none 0 0] 24)).setRow (y2.heap.size) #[.int .i64 (Wn : Nat), .int .i64 (Hn : Nat), .slice none 0 0] = y := ⟨_, rfl⟩
  have hs3 : y3.heap.size = y2.heap.size + 1 := by rw [← hy3]; simp [World.setRow]
  rw [hy3] at hN HUx hO ⊢
  clear hy3 hsz hb
  have HU3 := Lib.hid HUx
  clear HUx
  have hl3_0 := lt_heap hr2_0
  have hr3_0 := (hO _ hl3_0).trans hr2_0
  have hl3_1 := lt_heap hr2_1
  have hr3_1 := (hO _ hl3_1).trans hr2_1
  have hl3_2 := lt_heap hr2_2
  have hr3_2 := (hO _ hl3_2).trans hr2_2
  have hr3_3 := hN
  clear hN hO
  clear hr2_0 hr2_1 hr2_2 HU2
  obtain ⟨q, hq⟩ : ∃ q, q = y2.heap.size := ⟨_, rfl⟩
  rw [← hq] at hr3_3 ⊢
  have hql := lt_heap hr3_3
  have hqp : w.heap.size + 1 + 1 < q := by have := hl3_2; omega
  clear hq hs3
  obtain ⟨bl, hbl⟩ : ∃ b, b = y3.heap.size := ⟨_, rfl⟩
  have hblq : q < bl := by omega
  have hble : bl ≤ y3.heap.size := by omega
  have hblf : y3.heap.size ≤ bl := by omega
  clear hbl
  go_upto_region 5 with fail
  go_loopw [9] (fun ix wr => ∃ (yy : Nat) (v : Value), yy ≤ Hn ∧ ix = .int .i64 yy ∧ wr.heap[q]? = some (.cells #[.int .i64 (Wn : Nat), .int .i64 (Hn : Nat), v] 24 (0, 0)) ∧ Hid (wr.ownsRow bl 54 3 v (yy * Wn) (flatc 3 (lev f Wn Hn lv L) (yy * Wn))) ∧ Hid (Aw (fun z => z < bl ∧ z ≠ q) y3 wr)) (fun ix _ => Hn - (intOf ix).toNat)
  case atStart => exact ⟨0, _, Nat.zero_le _, rfl, hr3_3, Lib.hid (by rw [Nat.zero_mul]; simpa [flatc] using World.ownsRow_nil _ _ _ _), Lib.hid (Aw.refl _ _)⟩
  case round =>
    obtain ⟨yy, v, hyy, rfl, hrq, HX, HA⟩ := hrel
    have hr4_0 := (HA.out.block _ ⟨by have := lt_heap hr3_0; omega, by omega⟩ (lt_heap hr3_0)).trans hr3_0
    have hr4_1 := (HA.out.block _ ⟨by have := lt_heap hr3_1; omega, by omega⟩ (lt_heap hr3_1)).trans hr3_1
    have hr4_2 := (HA.out.block _ ⟨by have := lt_heap hr3_2; omega, by omega⟩ (lt_heap hr3_2)).trans hr3_2
    have hr4_3 := hrq
    clear hrq
    have HU4 := Lib.hid (HU3.out.trans (aw_low HA.out (b := w.heap.size) (by have := HU3.out.size; omega) (by omega) (HU3.out.size)))
    have hsw4 := HA.out.size
    obtain ⟨y4, hy_⟩ : ∃ y, y = wr := ⟨_, rfl⟩
    rw [← hy_] at HX HA hsw4 HU4 hr4_0 hr4_1 hr4_2 hr4_3 ⊢
    clear hy_
    by_cases hlt : yy < Hn
    · have hlt' : (yy : Int) < Hn := by omega
      have c1_0 := cell_of_row _ _ 0 _ _ _ hr4_1
      have c1_1 := cell_of_row _ _ 1 _ _ _ hr4_1
      have c1_2 := cell_of_row _ _ 2 _ _ _ hr4_1
      simp at c1_0 c1_1 c1_2
      go_upto_region 8 with fail
      clear c1_0 c1_1 c1_2
      go_loopw [10] (fun ix wr => ∃ (xx : Nat) (v : Value), xx ≤ Wn ∧ ix = .int .i64 xx ∧ wr.heap[q]? = some (.cells #[.int .i64 (Wn : Nat), .int .i64 (Hn : Nat), v] 24 (0, 0)) ∧ Hid (wr.ownsRow bl 54 3 v (yy * Wn + xx) (flatc 3 (lev f Wn Hn lv L) (yy * Wn + xx))) ∧ Hid (Aw (fun z => z < bl ∧ z ≠ q) y3 wr)) (fun ix _ => Wn - (intOf ix).toNat)
      case atStart => exact ⟨0, _, Nat.zero_le _, rfl, hr4_3, HX, HA⟩
      case round =>
        clear HX HA
        obtain ⟨xx, v, hxx, rfl, hrq, HX, HA⟩ := hrel
        have hr5_0 := (HA.out.block _ ⟨by have := lt_heap hr3_0; omega, by omega⟩ (lt_heap hr3_0)).trans hr3_0
        have hr5_1 := (HA.out.block _ ⟨by have := lt_heap hr3_1; omega, by omega⟩ (lt_heap hr3_1)).trans hr3_1
        have hr5_2 := (HA.out.block _ ⟨by have := lt_heap hr3_2; omega, by omega⟩ (lt_heap hr3_2)).trans hr3_2
        have hr5_3 := hrq
        clear hrq
        have HU5 := Lib.hid (HU3.out.trans (aw_low HA.out (b := w.heap.size) (by have := HU3.out.size; omega) (by omega) (HU3.out.size)))
        have hsw5 := HA.out.size
        obtain ⟨y5, hy_⟩ : ∃ y, y = wr := ⟨_, rfl⟩
        rw [← hy_] at HX HA hsw5 HU5 hr5_0 hr5_1 hr5_2 hr5_3 ⊢
        clear hy_
        by_cases hlt2 : xx < Wn
        · have hlt2' : (xx : Int) < Wn := by omega
          have hki := idx_lt hlt2 hlt
          rw [← HN.out] at hki
          obtain ⟨k, hk_⟩ : ∃ k, k = yy * Wn + xx := ⟨_, rfl⟩
          obtain ⟨o0, ho0⟩ : ∃ t, t = sm0 f L Wn Hn lv xx yy := ⟨_, rfl⟩
          obtain ⟨o1, ho1⟩ : ∃ t, t = sm1 f L Wn Hn lv xx yy := ⟨_, rfl⟩
          obtain ⟨o2, ho2⟩ : ∃ t, t = sm2 f L Wn Hn lv xx yy := ⟨_, rfl⟩
          have HFL := Lib.hid (flatc_lev f Wn Hn lv xx yy L hlt2 o0 o1 o2 ho0 ho1 ho2)
          rw [← hk_] at HFL HX hki
          have HSM := Lib.hid (show ∀ W : World, Below w.heap.size w W → Calls Tryd.prog 24 #[.agg (FC f p), .agg #[.int .i64 (Wn : Nat), .int .i64 (Hn : Nat), .slice a n c], .int .i64 (xx : Int), .int .i64 (yy : Int), .int .i64 (lv : Int)] W (fun e' w' => e' = .returned (.agg #[.int .i64 o0, .int .i64 o1, .int .i64 o2]) ∧ Below W.heap.size W w') from fun W hW => by rw [ho0, ho1, ho2]; exact dpixel_any f p a n c L Wn Hn lv xx yy W (HF.out.on hW) (HL.out.on hW) HW_.out HH_.out HO.out HN.out HLV.out hlt2 hlt)
          have HK_ := Lib.hid hk_
          clear ho0 ho1 ho2 hk_
          obtain ⟨i0, hi, hz0, hz1, hz2⟩ := info_parts info_dhue
          have c1_0 := cell_of_row _ _ 0 _ _ _ hr5_1
          have c1_1 := cell_of_row _ _ 1 _ _ _ hr5_1
          have c1_2 := cell_of_row _ _ 2 _ _ _ hr5_1
          simp at c1_0 c1_1 c1_2
          go_upto_region 10 with fail
          clear c1_0 c1_1 c1_2
          refine Ol.way_drew (S := fun y => y.heap[q]? = some (.cells #[.int .i64 (Wn : Nat), .int .i64 (Hn : Nat), v] 24 (0, 0)) ∧ y.heap[w.heap.size]? = some (.cells (FC f p) 29 (0, 0)) ∧ y.heap[w.heap.size + 1]? = some (.cells #[.int .i64 (Wn : Nat), .int .i64 (Hn : Nat), .slice a n c] 24 (0, 0))) (stop := 11) (by kernel_rfl) (⟨hr5_3, hr5_0, hr5_1⟩) (fun hS0 => ?_)
          obtain ⟨z0, hz0_⟩ : ∃ y, y5.drew = y := ⟨_, rfl⟩
          have HA0 := Lib.hid (show Aw (fun z => z < bl ∧ z ≠ q) y3 z0 by rw [← hz0_]; exact HA.out.trans (Aw.of (Below.refl _ _).drew))
          have HO0 := Lib.hid (show z0.ownsRow bl 54 3 v k (flatc 3 (lev f Wn Hn lv L) k) by rw [← hz0_]; exact Ls.own_below HX.out (Below.refl _ _).drew)
          have HZ0 := Lib.hid (show Below w.heap.size w z0 by rw [← hz0_]; exact HU5.out.drew)
          have hs0 : y5.heap.size ≤ z0.heap.size := by rw [← hz0_]; exact Nat.le_refl _
          rw [hz0_] at hS0 ⊢
          clear hz0_
          refine Ol.way_plain (i := 0) (v := ?_) rfl (by kernel_rfl) (by kernel_rfl) (by kernel_rfl) (fun _ _ _ h => h) (by decide) (Or.inl ⟨by kernel_rfl, by (intro wz _; go_simp; try with_reducible rfl)⟩) (Ol.on hS0) ?_
          go_simp
          refine Ol.way_take (i := 1) (v := ?_) rfl (by kernel_rfl) (by kernel_rfl) (by kernel_rfl) (fun _ _ _ h => h) (by decide) (by kernel_rfl) (by kernel_rfl) (Or.inl ⟨by kernel_rfl, by (intro wz hSz; have cq_ := cell_of_row _ _ 2 _ _ _ hSz.1; have cf0 := cell_of_row _ _ 0 _ _ _ hSz.2.1; have cf1 := cell_of_row _ _ 1 _ _ _ hSz.2.1; have cf2 := cell_of_row _ _ 2 _ _ _ hSz.2.1; have cf3 := cell_of_row _ _ 3 _ _ _ hSz.2.1; have cf4 := cell_of_row _ _ 4 _ _ _ hSz.2.1; have cf5 := cell_of_row _ _ 5 _ _ _ hSz.2.1; have cf6 := cell_of_row _ _ 6 _ _ _ hSz.2.1; have cf7 := cell_of_row _ _ 7 _ _ _ hSz.2.1; have cg0 := cell_of_row _ _ 0 _ _ _ hSz.2.2; have cg1 := cell_of_row _ _ 1 _ _ _ hSz.2.2; have cg2 := cell_of_row _ _ 2 _ _ _ hSz.2.2; simp at cq_ cf0 cf1 cf2 cf3 cf4 cf5 cf6 cf7 cg0 cg1 cg2; go_simp; try with_reducible rfl)⟩) hS0 ?_
          go_simp
          refine Ol.way_take (i := 2) (v := ?_) rfl (by kernel_rfl) (by kernel_rfl) (by kernel_rfl) (fun _ _ _ h => h) (by decide) (by kernel_rfl) (by kernel_rfl) (Or.inl ⟨by kernel_rfl, by (intro wz hSz; have cq_ := cell_of_row _ _ 2 _ _ _ hSz.1; have cf0 := cell_of_row _ _ 0 _ _ _ hSz.2.1; have cf1 := cell_of_row _ _ 1 _ _ _ hSz.2.1; have cf2 := cell_of_row _ _ 2 _ _ _ hSz.2.1; have cf3 := cell_of_row _ _ 3 _ _ _ hSz.2.1; have cf4 := cell_of_row _ _ 4 _ _ _ hSz.2.1; have cf5 := cell_of_row _ _ 5 _ _ _ hSz.2.1; have cf6 := cell_of_row _ _ 6 _ _ _ hSz.2.1; have cf7 := cell_of_row _ _ 7 _ _ _ hSz.2.1; have cg0 := cell_of_row _ _ 0 _ _ _ hSz.2.2; have cg1 := cell_of_row _ _ 1 _ _ _ hSz.2.2; have cg2 := cell_of_row _ _ 2 _ _ _ hSz.2.2; simp at cq_ cf0 cf1 cf2 cf3 cf4 cf5 cf6 cf7 cg0 cg1 cg2; go_simp; try with_reducible rfl)⟩) hS0 ?_
          go_simp
          refine Ol.way_take (i := 3) (v := ?_) rfl (by kernel_rfl) (by kernel_rfl) (by kernel_rfl) (fun _ _ _ h => h) (by decide) (by kernel_rfl) (by kernel_rfl) (Or.inl ⟨by kernel_rfl, by (intro wz hSz; have cq_ := cell_of_row _ _ 2 _ _ _ hSz.1; have cf0 := cell_of_row _ _ 0 _ _ _ hSz.2.1; have cf1 := cell_of_row _ _ 1 _ _ _ hSz.2.1; have cf2 := cell_of_row _ _ 2 _ _ _ hSz.2.1; have cf3 := cell_of_row _ _ 3 _ _ _ hSz.2.1; have cf4 := cell_of_row _ _ 4 _ _ _ hSz.2.1; have cf5 := cell_of_row _ _ 5 _ _ _ hSz.2.1; have cf6 := cell_of_row _ _ 6 _ _ _ hSz.2.1; have cf7 := cell_of_row _ _ 7 _ _ _ hSz.2.1; have cg0 := cell_of_row _ _ 0 _ _ _ hSz.2.2; have cg1 := cell_of_row _ _ 1 _ _ _ hSz.2.2; have cg2 := cell_of_row _ _ 2 _ _ _ hSz.2.2; simp at cq_ cf0 cf1 cf2 cf3 cf4 cf5 cf6 cf7 cg0 cg1 cg2; go_simp; try with_reducible rfl)⟩) hS0 ?_
          go_simp
          refine Ol.way_plain (i := 4) (v := ?_) rfl (by kernel_rfl) (by kernel_rfl) (by kernel_rfl) (fun _ _ _ h => h) (by decide) (Or.inl ⟨by kernel_rfl, by (intro wz _; go_simp; try with_reducible rfl)⟩) (Ol.on hS0) ?_
          go_simp
          refine Ol.way_plain (i := 5) (v := ?_) rfl (by kernel_rfl) (by kernel_rfl) (by kernel_rfl) (fun _ _ _ h => h) (by decide) (Or.inl ⟨by kernel_rfl, by (intro wz _; go_simp; try with_reducible rfl)⟩) (Ol.on hS0) ?_
          go_simp
          refine Ol.way_plain (i := 6) (v := ?_) rfl (by kernel_rfl) (by kernel_rfl) (by kernel_rfl) (fun _ _ _ h => h) (by decide) (Or.inl ⟨by kernel_rfl, by (intro wz _; go_simp; try with_reducible rfl)⟩) (Ol.on hS0) ?_
          go_simp
          refine Ol.way_ready (rs := [7]) (by kernel_rfl) (by simp) ?_
          refine Ol.Each.cons rfl (fun K hK => ?_) Ol.Each.nil
          go_simp
          go_wp2_with (go_at_call 24; refine (HSM.out _ HZ0.out).mono ?_; rintro e z1 ⟨rfl, hb1⟩)
          have HA1 := Lib.hid (HA0.out.trans (Aw.of hb1))
          have HO1 := Lib.hid (Ls.own_below HO0.out hb1)
          have hs1 := hb1.size
          refine Ol.keep hK _ _ (⟨(hb1.block _ (lt_heap hS0.1)).trans hS0.1, (hb1.block _ (lt_heap hS0.2.1)).trans hS0.2.1, (hb1.block _ (lt_heap hS0.2.2)).trans hS0.2.2⟩) (fun hS1 => ?_)
          clear hK K
          refine Ol.way_ready (rs := [8]) (by kernel_rfl) (by simp) ?_
          refine Ol.Each.cons rfl (fun K hK => ?_) Ol.Each.nil
          go_simp
          have hb2 := Ve.below_n1 z1 (.cells #[.int .i64 o0, .int .i64 o1, .int .i64 o2] 54)
          have hN2 := heap_alloc_last z1 (.cells #[.int .i64 o0, .int .i64 o1, .int .i64 o2] 54)
          obtain ⟨z2, hz2_⟩ : ∃ y, z1.alloc (.cells #[.int .i64 o0, .int .i64 o1, .int .i64 o2] 54) = y := ⟨_, rfl⟩
          rw [hz2_] at hb2 hN2 ⊢
          clear hz2_
          have HA2 := Lib.hid (HA1.out.trans (Aw.of hb2))
          have HO2 := Lib.hid (Ls.own_below HO1.out hb2)
          have hs2 := hb2.size
          refine Ol.keep hK _ _ (⟨(hb2.block _ (lt_heap hS1.1)).trans hS1.1, (hb2.block _ (lt_heap hS1.2.1)).trans hS1.2.1, (hb2.block _ (lt_heap hS1.2.2)).trans hS1.2.2⟩) (fun hS2 => ?_)
          clear hK K
          refine Ol.way_ready (rs := [9]) (by kernel_rfl) (by simp) ?_
          refine Ol.Each.cons rfl (fun K hK => ?_) Ol.Each.nil
          refine step_append_lies _ rfl _ _ 22 rfl bl 54 i0 (.agg #[.int .i64 0, .int .i64 0, .int .i64 0]) 3 24 Tryd.underlying22 hi hz0 hz1 hz2 rfl (by decide) _ _ _ rfl HO2.out ⟨z1.heap.size, 0, none⟩ 1 1 [.int .i64 o0, .int .i64 o1, .int .i64 o2] rfl rfl ?c1 ?c2 (by omega) ?c3 ?c4 ?c5 _ rfl ?_
          case c1 => exact World.news_of_block hN2
          case c2 => intro u hu; simp at hu; rcases hu with rfl | rfl | rfl <;> rfl
          case c3 => unfold maxLen; omega
          case c4 => omega
          case c5 => omega
          intro g9 cg z3 hown hgrow hgk hlt9
          have hqo := fun r hr => (HO2.out.lt r hr).1
          have HA3 := Lib.hid (HA2.out.step hgrow (fun r hr => by have := hqo r hr; omega))
          rw [← HFL.out] at hown
          have hqn : q ≠ g9 := by rcases hgk with h | h <;> first | omega | (have := hqo _ h; omega)
          have hq3 := (hgrow.block q (lt_heap hS2.1) (fun e => by have := hqo _ e.symm; omega)).trans hS2.1
          have hs3 := hgrow.size
          have hww := HU5.out.size
          refine Ol.keep hK _ _ (⟨hq3, (hgrow.block _ (lt_heap hS2.2.1) (fun e => by have := hqo _ e.symm; omega)).trans hS2.2.1, (hgrow.block _ (lt_heap hS2.2.2) (fun e => by have := hqo _ e.symm; omega)).trans hS2.2.2⟩) (fun hS3 => ?_)
          clear hK K
          refine Ol.way_plain (i := 10) (v := ?_) rfl (by kernel_rfl) (by kernel_rfl) (by kernel_rfl) (fun _ _ _ h => h) (by decide) (Or.inl ⟨by kernel_rfl, by (intro wz _; go_simp; try with_reducible rfl)⟩) (Ol.on hS3) ?_
          go_simp
          refine Ol.way_ready (rs := [11]) (by kernel_rfl) (by simp) ?_
          refine Ol.Each.cons rfl (fun K hK => ?_) Ol.Each.nil
          have p0 := cell_of_row _ _ 2 _ _ _ hq3
          simp at p0
          have fz : ∀ j, z3.frozen? ⟨q, j, none⟩ = false := fun j => by simp [World.frozen?, hq3]
          go_simp
          clear fz p0
          have hN : (z3.setCell ⟨q, 2, none⟩ (.slice (some ⟨g9, 0, none⟩) (k + 1) cg)).heap[q]? = some (.cells #[.int .i64 (Wn : Nat), .int .i64 (Hn : Nat), .slice (some ⟨g9, 0, none⟩) (k + 1) cg] 24 (0, 0)) := heap_setCell_same _ _ 2 _ _ _ hq3
          have HA4 := Lib.hid (HA3.out.set (b := q) (fun h => h.2 rfl) 2 (.slice (some ⟨g9, 0, none⟩) (k + 1) cg))
          have HO4 := Lib.hid (own_via (w' := (z3.setCell ⟨q, 2, none⟩ (.slice (some ⟨g9, 0, none⟩) (k + 1) cg))) hown (fun r hr => Below.heap_setCell _ _ _ _ (by simp [Value.ownBlock] at hr; show r ≠ q; omega)))
          refine Ol.past hK (by kernel_rfl) _ _ ?_
          clear hK K
          refine Ol.way_done (by kernel_rfl) ?_ _
          go_wp2_with fail
          go_roundw
          case rel => exact ⟨xx + 1, .slice (some ⟨g9, 0, none⟩) (k + 1) cg, by omega, by go_num, hN, by rw [show yy * Wn + (xx + 1) = k + 1 by rw [HK_.out]; omega]; exact HO4, HA4⟩
          case measure => simp [intOf]; omega
        · have hge2 : ¬ (xx : Int) < Wn := by omega
          have c1_0 := cell_of_row _ _ 0 _ _ _ hr5_1
          have c1_1 := cell_of_row _ _ 1 _ _ _ hr5_1
          have c1_2 := cell_of_row _ _ 2 _ _ _ hr5_1
          simp at c1_0 c1_1 c1_2
          go_wp2_with fail
          go_roundw
          case rel => exact ⟨yy + 1, v, by omega, by go_num, hr5_3, by rw [show (yy + 1) * Wn = yy * Wn + xx by rw [Nat.add_mul]; omega]; exact HX, HA⟩
          case measure => simp [intOf]; omega
    · have hge : ¬ (yy : Int) < Hn := by omega
      have hnn : yy * Wn = n := by rw [show yy = Hn by omega, HN.out, Nat.mul_comm]
      rw [hnn] at HX
      obtain ⟨a9, c9, hv⟩ := own_slice HX.out
      subst hv
      have HXE := Lib.hid (rwp_own (fun b => w.heap.size ≤ b ∧ b ≠ w.heap.size + 1 + 1) HX.out (fun b h1 _ _ => ⟨by omega, by omega⟩))
      have c1_0 := cell_of_row _ _ 0 _ _ _ hr4_1
      have c1_1 := cell_of_row _ _ 1 _ _ _ hr4_1
      have c1_2 := cell_of_row _ _ 2 _ _ _ hr4_1
      have c3_0 := cell_of_row _ _ 0 _ _ _ hr4_3
      have c3_1 := cell_of_row _ _ 1 _ _ _ hr4_3
      have c3_2 := cell_of_row _ _ 2 _ _ _ hr4_3
      simp at c1_0 c1_1 c1_2 c3_0 c3_1 c3_2
      go_upto_region 11 with fail
      have hHr := Lib.hid hr4_2
      have hHi := Lib.hid (show (Tryd.prog.info? 24).map (·.size) = some (#[.int .i64 (Wn : Nat), .int .i64 (Hn : Nat), .slice a9 n c9] : Array Value).size by kernel_rfl)
      have hHz := Lib.hid (show (#[.int .i64 0, .int .i64 0, .slice none 0 0] : Array Value).size = (#[.int .i64 (Wn : Nat), .int .i64 (Hn : Nat), .slice a9 n c9] : Array Value).size from rfl)
      have hHo := Lib.hid (show (#[.int .i64 (Wn : Nat), .int .i64 (Hn : Nat), .slice a9 n c9] : Array Value).all (·.oneCell') = true by simp [Value.oneCell'])
      go_wp2_with (first | (refine Au.wpList_store_row rfl 24 (.tmp 6) (.tmp 72) rfl y4 #[.int .i64 0, .int .i64 0, .slice none 0 0] #[.int .i64 (Wn : Nat), .int .i64 (Hn : Nat), .slice a9 n c9] (w.heap.size + 1 + 1) 24 hHr.out rfl rfl hHi.out hHz.out hHo.out ?_))
      clear c1_0 c1_1 c1_2 c3_0 c3_1 c3_2
      clear hHr hHi hHz hHo
      have hN := setRow_heap _ (w.heap.size + 1 + 1) _ #[.int .i64 (Wn : Nat), .int .i64 (Hn : Nat), .slice a9 n c9] _ _ hr4_2
      have hsz := HU4.out.size
      have HUx := below_setRow (g := w.heap.size + 1 + 1) HU4.out (by first | omega | (simp at *; omega)) #[.int .i64 (Wn : Nat), .int .i64 (Hn : Nat), .slice a9 n c9]
      have hO : ∀ kk, kk ≠ w.heap.size + 1 + 1 → (y4.setRow (w.heap.size + 1 + 1) #[.int .i64 (Wn : Nat), .int .i64 (Hn : Nat), .slice a9 n c9]).heap[kk]? = y4.heap[kk]? := fun kk hk => setRow_other _ _ _ _ hk
      obtain ⟨y5, hy5⟩ : ∃ y, y4.setRow (w.heap.size + 1 + 1) #[.int .i64 (Wn : Nat), .int .i64 (Hn : Nat), .slice a9 n c9] = y := ⟨_, rfl⟩
      rw [hy5] at hN HUx hO ⊢
      clear hy5 hsz
      have HU5 := Lib.hid HUx
      clear HUx
      have hr5_0 := (hO _ (by omega)).trans hr4_0
      have hr5_1 := (hO _ (by omega)).trans hr4_1
      have hr5_2 := hN
      have hr5_3 := (hO _ (by omega)).trans hr4_3
      have HXF := Lib.hid ((HXE.out.keep (fun b hb => hO b (by omega))).weak (P' := fun b => w.heap.size ≤ b) (fun b hb => hb.1))
      clear hN hO
      clear hr4_0 hr4_1 hr4_2 hr4_3 HU4
      have c2_0 := cell_of_row _ _ 0 _ _ _ hr5_2
      have c2_1 := cell_of_row _ _ 1 _ _ _ hr5_2
      have c2_2 := cell_of_row _ _ 2 _ _ _ hr5_2
      simp at c2_0 c2_1 c2_2
      go_wp2
      exact bodyPost_ret (v := .tuple #[.agg #[.int .i64 (Wn : Nat), .int .i64 (Hn : Nat), .slice a9 n c9], .int .i64 0]) (by simp [results, Tryd.results11, go_sem, c2_0, c2_1, c2_2]) rfl (by first | exact ⟨⟨a9, c9, rfl, HXF.out⟩, HU5.out⟩ | exact ⟨⟨a9, ⟨c9, rfl⟩, HXF.out⟩, HU5.out⟩)

theorem dlevel_no (f : Flm) (p : Pl) (W3 H3 : Int) (a : Option Addr) (n c : Nat) (L : Nat → Int) (lv : Int) (w : World) (hf : FAt w f p) (h : ¬ (fitP f W3 H3 n ∧ 0 ≤ lv ∧ lv < 5)) :
    Calls Tryd.prog 11 #[.agg (FC f p), .agg #[.int .i64 W3, .int .i64 H3, .slice a n c], .int .i64 lv] w fun e' w' => e' = .returned (.tuple #[.agg #[.int .i64 0, .int .i64 0, .slice none 0 0], .int .i64 1]) ∧ Below w.heap.size w w' := by
  by_cases h1 : okF f
  case neg => exact dlevel_f f p W3 H3 a n c L lv w hf h1
  by_cases h2 : okSh W3 H3 n
  case neg => exact dlevel_s f p W3 H3 a n c L lv w hf h1 h2
  by_cases h3 : f.W = W3
  case neg => exact dlevel_w f p W3 H3 a n c L lv w hf h1 h2 h3
  by_cases h4 : f.H = H3
  case neg => exact dlevel_h f p W3 H3 a n c L lv w hf h1 h2 h3 h4
  by_cases h5 : lv < 0
  · exact dlevel_neg f p W3 H3 a n c L lv w hf h1 h2 h3 h4 h5
  exact dlevel_big f p W3 H3 a n c L lv w hf h1 h2 h3 h4 h5 (by by_cases h6 : lv < 5; exact absurd ⟨⟨h1, h2, h3, h4⟩, by omega, h6⟩ h; omega)

set_option maxHeartbeats 4000000 in
set_option maxRecDepth 100000 in
theorem dsmooth_no (f : Flm) (p : Pl) (W3 H3 : Int) (a : Option Addr) (n c : Nat) (L : Nat → Int) (w : World) (hf : FAt w f p) (ho : ¬ fitP f W3 H3 n) : Calls Tryd.prog 15 #[.agg (FC f p), .agg #[.int .i64 W3, .int .i64 H3, .slice a n c]] w fun e' w' => e' = .returned (.tuple #[.agg #[.int .i64 0, .int .i64 0, .slice none 0 0], .int .i64 1]) ∧ Below w.heap.size w w' := by
  have HF := Lib.hid hf
  clear hf
  have HO := Lib.hid ho
  clear ho
  go_enter Tryd.func15, Tryd.ntmps15
  go_upto_region 1 with fail
  have hR := Au.rows3 w (.cells (FC f p) 29) (.cells #[.int .i64 W3, .int .i64 H3, .slice a n c] 24) (.cells #[.int .i64 0, .int .i64 0, .slice none 0 0] 24)
  have HUx := Ve.below_n3 w (.cells (FC f p) 29) (.cells #[.int .i64 W3, .int .i64 H3, .slice a n c] 24) (.cells #[.int .i64 0, .int .i64 0, .slice none 0 0] 24)
  obtain ⟨y0, hy0⟩ : ∃ y0, ((w.alloc (.cells (FC f p) 29)).alloc (.cells #[.int .i64 W3, .int .i64 H3, .slice a n c] 24)).alloc (.cells #[.int .i64 0, .int .i64 0, .slice none 0 0] 24) = y0 := ⟨_, rfl⟩
  rw [hy0] at hR HUx ⊢
  clear hy0
  have HU0 := Lib.hid HUx
  clear HUx
  obtain ⟨hr0_0, hr0_1, hr0_2⟩ := hR
  have c0_0 := cell_of_row _ _ 0 _ _ _ hr0_0
  have c0_1 := cell_of_row _ _ 1 _ _ _ hr0_0
  have c0_2 := cell_of_row _ _ 2 _ _ _ hr0_0
  have c0_3 := cell_of_row _ _ 3 _ _ _ hr0_0
  have c0_4 := cell_of_row _ _ 4 _ _ _ hr0_0
  have c0_5 := cell_of_row _ _ 5 _ _ _ hr0_0
  have c0_6 := cell_of_row _ _ 6 _ _ _ hr0_0
  have c0_7 := cell_of_row _ _ 7 _ _ _ hr0_0
  simp at c0_0 c0_1 c0_2 c0_3 c0_4 c0_5 c0_6 c0_7
  have c1_0 := cell_of_row _ _ 0 _ _ _ hr0_1
  have c1_1 := cell_of_row _ _ 1 _ _ _ hr0_1
  have c1_2 := cell_of_row _ _ 2 _ _ _ hr0_1
  simp at c1_0 c1_1 c1_2
  go_wp2_with fail
  refine wp_loop_rounds 1 ?_
  rw [rounds_succ]
  go_wp2_with fail
  clear c0_0 c0_1 c0_2 c0_3 c0_4 c0_5 c0_6 c0_7
  refine (dlevel_no f p W3 H3 a n c L 0 _ (HF.out.on HU0.out) (fun k => HO.out k.1)).mono ?_
  rintro e y1 ⟨rfl, hb1⟩
  clear c1_0 c1_1 c1_2
  have hr1_0 := (hb1.block _ (lt_heap hr0_0)).trans hr0_0
  have hr1_1 := (hb1.block _ (lt_heap hr0_1)).trans hr0_1
  have hr1_2 := (hb1.block _ (lt_heap hr0_2)).trans hr0_2
  have HU1 := Lib.hid (HU0.out.trans (hb1.mono HU0.out.size))
  clear hr0_0 hr0_1 hr0_2 HU0
  go_upto_region 5 with fail
  have hb2 := Ve.below_n1 y1 (.cells #[.int .i64 0, .int .i64 0, .slice none 0 0] 24)
  have hN := heap_alloc_last y1 (.cells #[.int .i64 0, .int .i64 0, .slice none 0 0] 24)
  obtain ⟨y2, hy2⟩ : ∃ y, y1.alloc (.cells #[.int .i64 0, .int .i64 0, .slice none 0 0] 24) = y := ⟨_, rfl⟩
  have hs2 : y2.heap.size = y1.heap.size + 1 := by rw [← hy2]; simp
  rw [hy2] at hb2 hN ⊢
  clear hy2
  have hl2_0 := lt_heap hr1_0
  have hl2_1 := lt_heap hr1_1
  have hl2_2 := lt_heap hr1_2
  have hr2_0 := (hb2.block _ (lt_heap hr1_0)).trans hr1_0
  have hr2_1 := (hb2.block _ (lt_heap hr1_1)).trans hr1_1
  have hr2_2 := (hb2.block _ (lt_heap hr1_2)).trans hr1_2
  have HU2 := Lib.hid (HU1.out.trans (hb2.mono HU1.out.size))
  clear hr1_0 hr1_1 hr1_2 HU1
  have hr2_3 := hN
  clear hN
  go_upto_region 6 with fail
  have hHr := Lib.hid hr2_2
  have hHi := Lib.hid (show (Tryd.prog.info? 24).map (·.size) = some (#[.int .i64 0, .int .i64 0, .slice none 0 0] : Array Value).size by kernel_rfl)
  have hHz := Lib.hid (show (#[.int .i64 0, .int .i64 0, .slice none 0 0] : Array Value).size = (#[.int .i64 0, .int .i64 0, .slice none 0 0] : Array Value).size from rfl)
  have hHo := Lib.hid (show (#[.int .i64 0, .int .i64 0, .slice none 0 0] : Array Value).all (·.oneCell') = true by simp [Value.oneCell'])
  go_wp2_with (first | (refine Au.wpList_store_row rfl 24 (.tmp 4) (.tmp 22) rfl y2 #[.int .i64 0, .int .i64 0, .slice none 0 0] #[.int .i64 0, .int .i64 0, .slice none 0 0] (w.heap.size + 1 + 1) 24 hHr.out rfl rfl hHi.out hHz.out hHo.out ?_))
  clear hHr hHi hHz hHo
  have hN := setRow_heap _ (w.heap.size + 1 + 1) _ #[.int .i64 0, .int .i64 0, .slice none 0 0] _ _ hr2_2
  have hsz := HU2.out.size
  have HUx := below_setRow (g := w.heap.size + 1 + 1) HU2.out (by first | omega | (simp at *; omega)) #[.int .i64 0, .int .i64 0, .slice none 0 0]
  have hO : ∀ kk, kk ≠ w.heap.size + 1 + 1 → (y2.setRow (w.heap.size + 1 + 1) #[.int .i64 0, .int .i64 0, .slice none 0 0]).heap[kk]? = y2.heap[kk]? := fun kk hk => setRow_other _ _ _ _ hk
  obtain ⟨y3, hy3⟩ : ∃ y, y2.setRow (w.heap.size + 1 + 1) #[.int .i64 0, .int .i64 0, .slice none 0 0] = y := ⟨_, rfl⟩
  rw [hy3] at hN HUx hO ⊢
  clear hy3 hsz
  have HU3 := Lib.hid HUx
  clear HUx
  have hr3_0 := (hO _ (by omega)).trans hr2_0
  have hr3_1 := (hO _ (by omega)).trans hr2_1
  have hr3_2 := hN
  have hr3_3 := (hO _ (by omega)).trans hr2_3
  clear hN hO
  clear hr2_0 hr2_1 hr2_2 hr2_3 HU2
  have c2_0 := cell_of_row _ _ 0 _ _ _ hr3_2
  have c2_1 := cell_of_row _ _ 1 _ _ _ hr3_2
  have c2_2 := cell_of_row _ _ 2 _ _ _ hr3_2
  simp at c2_0 c2_1 c2_2
  go_wp2
  exact bodyPost_ret (v := .tuple #[.agg #[.int .i64 0, .int .i64 0, .slice none 0 0], .int .i64 1]) (by simp [results, Tryd.results15, go_sem, c2_0, c2_1, c2_2]) rfl ⟨rfl, HU3.out⟩

set_option maxHeartbeats 8000000 in
set_option maxRecDepth 100000 in
theorem dsmooth_ok (f : Flm) (p : Pl) (a : Option Addr) (n c : Nat) (L : Nat → Int) (Wn Hn : Nat) (w : World) (hf : FAt w f p) (hl : Rw 3 w a n L) (hw : f.W = Wn) (hh : f.H = Hn) (ho : fitP f Wn Hn n) (hn : n = Wn * Hn) : Calls Tryd.prog 15 #[.agg (FC f p), .agg #[.int .i64 (Wn : Nat), .int .i64 (Hn : Nat), .slice a n c]] w fun e' w' => (∃ a' c', e' = .returned (.tuple #[.agg #[.int .i64 (Wn : Nat), .int .i64 (Hn : Nat), .slice a' n c'], .int .i64 0]) ∧ RwP (fun b => w.heap.size ≤ b) 3 w' a' n (lvs f Wn Hn L 5)) ∧ Below w.heap.size w w' := by
  have HF := Lib.hid hf
  have HL := Lib.hid hl
  have HW_ := Lib.hid hw
  have HH_ := Lib.hid hh
  have HO := Lib.hid ho
  have HN := Lib.hid hn
  clear hf hl hw hh ho hn
  go_enter Tryd.func15, Tryd.ntmps15
  go_upto_region 1 with fail
  have hR := Au.rows3 w (.cells (FC f p) 29) (.cells #[.int .i64 (Wn : Nat), .int .i64 (Hn : Nat), .slice a n c] 24) (.cells #[.int .i64 0, .int .i64 0, .slice none 0 0] 24)
  have HUx := Ve.below_n3 w (.cells (FC f p) 29) (.cells #[.int .i64 (Wn : Nat), .int .i64 (Hn : Nat), .slice a n c] 24) (.cells #[.int .i64 0, .int .i64 0, .slice none 0 0] 24)
  obtain ⟨y0, hy0⟩ : ∃ y0, ((w.alloc (.cells (FC f p) 29)).alloc (.cells #[.int .i64 (Wn : Nat), .int .i64 (Hn : Nat), .slice a n c] 24)).alloc (.cells #[.int .i64 0, .int .i64 0, .slice none 0 0] 24) = y0 := ⟨_, rfl⟩
  rw [hy0] at hR HUx ⊢
  clear hy0
  have HU0 := Lib.hid HUx
  clear HUx
  obtain ⟨hr0_0, hr0_1, hr0_2⟩ := hR
  have hl2 := lt_heap hr0_2
  have HR0 := Lib.hid (((rwp_low HL.out).keep (fun b hb => HU0.out.block b hb)).weak (P' := fun b => b ≠ w.heap.size + 1 ∧ b ≠ w.heap.size + 1 + 1 ∧ (0 < 0 → w.heap.size ≤ b)) (fun b hb => ⟨by omega, by omega, fun h => absurd h (by omega)⟩))
  go_upto_region 2 with fail
  go_loopw [6] (fun ix wr => ∃ (lv : Nat) (a1 : Option Addr) (c1 : Nat), lv ≤ 5 ∧ ix = .int .i64 lv ∧ wr.heap[w.heap.size + 1]? = some (.cells #[.int .i64 (Wn : Nat), .int .i64 (Hn : Nat), .slice a1 n c1] 24 (0, 0)) ∧ Hid (RwP (fun b => b ≠ w.heap.size + 1 ∧ b ≠ w.heap.size + 1 + 1 ∧ (0 < lv → w.heap.size ≤ b)) 3 wr a1 n (lvs f Wn Hn L lv)) ∧ Hid (Aw (fun z => z ≠ w.heap.size + 1) y0 wr)) (fun ix _ => 5 - (intOf ix).toNat)
  case atStart => exact ⟨0, a, c, Nat.zero_le _, rfl, hr0_1, HR0, Lib.hid (Aw.refl _ _)⟩
  case round =>
    clear HR0
    obtain ⟨lv, a1, c1, hlv, rfl, hr1, HR, HA⟩ := hrel
    have hr1_0 := (HA.out.block _ (by omega) (lt_heap hr0_0)).trans hr0_0
    have hr1_2 := (HA.out.block _ (by omega) (lt_heap hr0_2)).trans hr0_2
    have hr1_1 := hr1
    clear hr1
    have HU1 := Lib.hid (HU0.out.trans (HA.out.below (B := w.heap.size) (fun k hk => by omega) HU0.out.size))
    obtain ⟨y1, hy_⟩ : ∃ y, y = wr := ⟨_, rfl⟩
    rw [← hy_] at HR HA HU1 hr1_0 hr1_1 hr1_2 ⊢
    clear hy_
    clear hr0_0 hr0_1 hr0_2 HU0
    by_cases hlt : lv < 5
    · have hlt' : (lv : Int) < 5 := by omega
      have c0_0 := cell_of_row _ _ 0 _ _ _ hr1_0
      have c0_1 := cell_of_row _ _ 1 _ _ _ hr1_0
      have c0_2 := cell_of_row _ _ 2 _ _ _ hr1_0
      have c0_3 := cell_of_row _ _ 3 _ _ _ hr1_0
      have c0_4 := cell_of_row _ _ 4 _ _ _ hr1_0
      have c0_5 := cell_of_row _ _ 5 _ _ _ hr1_0
      have c0_6 := cell_of_row _ _ 6 _ _ _ hr1_0
      have c0_7 := cell_of_row _ _ 7 _ _ _ hr1_0
      simp at c0_0 c0_1 c0_2 c0_3 c0_4 c0_5 c0_6 c0_7
      have c1_0 := cell_of_row _ _ 0 _ _ _ hr1_1
      have c1_1 := cell_of_row _ _ 1 _ _ _ hr1_1
      have c1_2 := cell_of_row _ _ 2 _ _ _ hr1_1
      simp at c1_0 c1_1 c1_2
      go_wp2_with fail
      clear c0_0 c0_1 c0_2 c0_3 c0_4 c0_5 c0_6 c0_7
      have hl2 := lt_heap hr1_2
      refine (dlevel_ok f p a1 n c1 (lvs f Wn Hn L lv) Wn Hn lv _ (HF.out.on HU1.out) (HR.out.rw (by decide)) HW_.out HH_.out HO.out HN.out hlt).mono ?_
      rintro e y2 ⟨⟨a2, c2, rfl, hsm⟩, hb2⟩
      clear c1_0 c1_1 c1_2
      have hr2_0 := (hb2.block _ (lt_heap hr1_0)).trans hr1_0
      have hr2_1 := (hb2.block _ (lt_heap hr1_1)).trans hr1_1
      have hr2_2 := (hb2.block _ (lt_heap hr1_2)).trans hr1_2
      have HU2 := Lib.hid (HU1.out.trans (hb2.mono HU1.out.size))
      clear hr1_0 hr1_1 hr1_2 HU1
      have HSM := Lib.hid ((hsm.lt (by decide)).weak (P' := fun b => (b ≠ w.heap.size + 1 ∧ b ≠ w.heap.size + 1 + 1 ∧ (0 < lv + 1 → w.heap.size ≤ b)) ∧ b < y2.heap.size) (fun b hb => ⟨⟨by omega, by omega, fun _ => by omega⟩, hb.2⟩))
      have HA2 := Lib.hid (HA.out.trans (Aw.of hb2))
      clear hsm HR HA
      go_upto_region 5 with fail
      have hb3 := Ve.below_n1 y2 (.cells #[.int .i64 (Wn : Nat), .int .i64 (Hn : Nat), .slice a2 n c2] 24)
      have hN := heap_alloc_last y2 (.cells #[.int .i64 (Wn : Nat), .int .i64 (Hn : Nat), .slice a2 n c2] 24)
      obtain ⟨y3, hy3⟩ : ∃ y, y2.alloc (.cells #[.int .i64 (Wn : Nat), .int .i64 (Hn : Nat), .slice a2 n c2] 24) = y := ⟨_, rfl⟩
      have hs3 : y3.heap.size = y2.heap.size + 1 := by rw [← hy3]; simp
      rw [hy3] at hb3 hN ⊢
      clear hy3
      have hl3_0 := lt_heap hr2_0
      have hl3_1 := lt_heap hr2_1
      have hl3_2 := lt_heap hr2_2
      have hr3_0 := (hb3.block _ (lt_heap hr2_0)).trans hr2_0
      have hr3_1 := (hb3.block _ (lt_heap hr2_1)).trans hr2_1
      have hr3_2 := (hb3.block _ (lt_heap hr2_2)).trans hr2_2
      have HU3 := Lib.hid (HU2.out.trans (hb3.mono HU2.out.size))
      clear hr2_0 hr2_1 hr2_2 HU2
      have hr3_3 := hN
      clear hN
      have HSN := Lib.hid (show RwP (fun b => b ≠ w.heap.size + 1 ∧ b ≠ w.heap.size + 1 + 1 ∧ (0 < lv + 1 → w.heap.size ≤ b)) 3 y3 a2 n (lvs f Wn Hn L (lv + 1)) from (HSM.out.keep (fun b hb => hb3.block b hb.2)).weak (fun b hb => hb.1))
      have HA3 := Lib.hid (HA2.out.trans (Aw.of hb3))
      clear HSM HA2
      have c3_0 := cell_of_row _ _ 0 _ _ _ hr3_3
      have c3_1 := cell_of_row _ _ 1 _ _ _ hr3_3
      have c3_2 := cell_of_row _ _ 2 _ _ _ hr3_3
      simp at c3_0 c3_1 c3_2
      go_upto_region 7 with fail
      have hHr := Lib.hid hr3_1
      have hHi := Lib.hid (show (Tryd.prog.info? 24).map (·.size) = some (#[.int .i64 (Wn : Nat), .int .i64 (Hn : Nat), .slice a2 n c2] : Array Value).size by kernel_rfl)
      have hHz := Lib.hid (show (#[.int .i64 (Wn : Nat), .int .i64 (Hn : Nat), .slice a1 n c1] : Array Value).size = (#[.int .i64 (Wn : Nat), .int .i64 (Hn : Nat), .slice a2 n c2] : Array Value).size from rfl)
      have hHo := Lib.hid (show (#[.int .i64 (Wn : Nat), .int .i64 (Hn : Nat), .slice a2 n c2] : Array Value).all (·.oneCell') = true by simp [Value.oneCell'])
      go_wp2_with (first | (refine Au.wpList_store_row rfl 24 (.tmp 3) (.tmp 24) rfl y3 #[.int .i64 (Wn : Nat), .int .i64 (Hn : Nat), .slice a1 n c1] #[.int .i64 (Wn : Nat), .int .i64 (Hn : Nat), .slice a2 n c2] (w.heap.size + 1) 24 hHr.out rfl rfl hHi.out hHz.out hHo.out ?_))
      clear c3_0 c3_1 c3_2
      clear hHr hHi hHz hHo
      have hN := setRow_heap _ (w.heap.size + 1) _ #[.int .i64 (Wn : Nat), .int .i64 (Hn : Nat), .slice a2 n c2] _ _ hr3_1
      have hsz := HU3.out.size
      have HUx := below_setRow (g := w.heap.size + 1) HU3.out (by first | omega | (simp at *; omega)) #[.int .i64 (Wn : Nat), .int .i64 (Hn : Nat), .slice a2 n c2]
      have hO : ∀ kk, kk ≠ w.heap.size + 1 → (y3.setRow (w.heap.size + 1) #[.int .i64 (Wn : Nat), .int .i64 (Hn : Nat), .slice a2 n c2]).heap[kk]? = y3.heap[kk]? := fun kk hk => setRow_other _ _ _ _ hk
      obtain ⟨y4, hy4⟩ : ∃ y, y3.setRow (w.heap.size + 1) #[.int .i64 (Wn : Nat), .int .i64 (Hn : Nat), .slice a2 n c2] = y := ⟨_, rfl⟩
      rw [hy4] at hN HUx hO ⊢
      have hSo : y4.os = y3.os ∧ y4.tape = y3.tape ∧ y4.output = y3.output ∧ y3.heap.size ≤ y4.heap.size := by rw [← hy4]; exact ⟨rfl, rfl, rfl, by simp [World.setRow]⟩
      clear hy4 hsz
      have HU4 := Lib.hid HUx
      clear HUx
      have hr4_0 := (hO _ (by omega)).trans hr3_0
      have hr4_1 := hN
      have hr4_2 := (hO _ (by omega)).trans hr3_2
      have hr4_3 := (hO _ (by omega)).trans hr3_3
      clear hN
      clear hr3_0 hr3_1 hr3_2 hr3_3 HU3
      have HR3 := Lib.hid (HSN.out.keep (fun b hb => hO b hb.1))
      have HA4 := Lib.hid (show Aw (fun z => z ≠ w.heap.size + 1) y0 y4 from ⟨hSo.1.trans HA3.out.os, hSo.2.1.trans HA3.out.tape, hSo.2.2.1.trans HA3.out.output, Nat.le_trans HA3.out.size hSo.2.2.2, fun k' h1 h2 => (hO k' h1).trans (HA3.out.block k' h1 h2)⟩)
      clear hO hSo HSN HA3
      go_wp2_with fail
      go_roundw
      case rel => exact ⟨lv + 1, a2, c2, by omega, by go_num, hr4_1, HR3, HA4⟩
      case measure => simp [intOf]; omega
    · have hge : ¬ (lv : Int) < 5 := by omega
      obtain rfl : lv = 5 := by omega
      have hl2 := lt_heap hr1_2
      have c1_0 := cell_of_row _ _ 0 _ _ _ hr1_1
      have c1_1 := cell_of_row _ _ 1 _ _ _ hr1_1
      have c1_2 := cell_of_row _ _ 2 _ _ _ hr1_1
      simp at c1_0 c1_1 c1_2
      go_upto_region 8 with fail
      have hHr := Lib.hid hr1_2
      have hHi := Lib.hid (show (Tryd.prog.info? 24).map (·.size) = some (#[.int .i64 (Wn : Nat), .int .i64 (Hn : Nat), .slice a1 n c1] : Array Value).size by kernel_rfl)
      have hHz := Lib.hid (show (#[.int .i64 0, .int .i64 0, .slice none 0 0] : Array Value).size = (#[.int .i64 (Wn : Nat), .int .i64 (Hn : Nat), .slice a1 n c1] : Array Value).size from rfl)
      have hHo := Lib.hid (show (#[.int .i64 (Wn : Nat), .int .i64 (Hn : Nat), .slice a1 n c1] : Array Value).all (·.oneCell') = true by simp [Value.oneCell'])
      go_wp2_with (first | (refine Au.wpList_store_row rfl 24 (.tmp 4) (.tmp 25) rfl y1 #[.int .i64 0, .int .i64 0, .slice none 0 0] #[.int .i64 (Wn : Nat), .int .i64 (Hn : Nat), .slice a1 n c1] (w.heap.size + 1 + 1) 24 hHr.out rfl rfl hHi.out hHz.out hHo.out ?_))
      clear c1_0 c1_1 c1_2
      clear hHr hHi hHz hHo
      have hN := setRow_heap _ (w.heap.size + 1 + 1) _ #[.int .i64 (Wn : Nat), .int .i64 (Hn : Nat), .slice a1 n c1] _ _ hr1_2
      have hsz := HU1.out.size
      have HUx := below_setRow (g := w.heap.size + 1 + 1) HU1.out (by first | omega | (simp at *; omega)) #[.int .i64 (Wn : Nat), .int .i64 (Hn : Nat), .slice a1 n c1]
      have hO : ∀ kk, kk ≠ w.heap.size + 1 + 1 → (y1.setRow (w.heap.size + 1 + 1) #[.int .i64 (Wn : Nat), .int .i64 (Hn : Nat), .slice a1 n c1]).heap[kk]? = y1.heap[kk]? := fun kk hk => setRow_other _ _ _ _ hk
      obtain ⟨y2, hy2⟩ : ∃ y, y1.setRow (w.heap.size + 1 + 1) #[.int .i64 (Wn : Nat), .int .i64 (Hn : Nat), .slice a1 n c1] = y := ⟨_, rfl⟩
      rw [hy2] at hN HUx hO ⊢
      have hSo : y2.os = y1.os ∧ y2.tape = y1.tape ∧ y2.output = y1.output ∧ y1.heap.size ≤ y2.heap.size := by rw [← hy2]; exact ⟨rfl, rfl, rfl, by simp [World.setRow]⟩
      clear hy2 hsz
      have HU2 := Lib.hid HUx
      clear HUx
      have hr2_0 := (hO _ (by omega)).trans hr1_0
      have hr2_1 := (hO _ (by omega)).trans hr1_1
      have hr2_2 := hN
      clear hN
      clear hr1_0 hr1_1 hr1_2 HU1
      clear hSo
      have HXF := Lib.hid (((HR.out.weak (P' := fun b => b ≠ w.heap.size + 1 + 1 ∧ w.heap.size ≤ b) (fun b hb => ⟨hb.2.1, hb.2.2 (by omega)⟩)).keep (fun b hb => hO b hb.1)).weak (P' := fun b => w.heap.size ≤ b) (fun b hb => hb.2))
      clear hO
      have c2_0 := cell_of_row _ _ 0 _ _ _ hr2_2
      have c2_1 := cell_of_row _ _ 1 _ _ _ hr2_2
      have c2_2 := cell_of_row _ _ 2 _ _ _ hr2_2
      simp at c2_0 c2_1 c2_2
      go_wp2
      exact bodyPost_ret (v := .tuple #[.agg #[.int .i64 (Wn : Nat), .int .i64 (Hn : Nat), .slice a1 n c1], .int .i64 0]) (by simp [results, Tryd.results15, go_sem, c2_0, c2_1, c2_2]) rfl (by first | exact ⟨⟨a1, c1, rfl, HXF.out⟩, HU2.out⟩ | exact ⟨⟨a1, ⟨c1, rfl⟩, HXF.out⟩, HU2.out⟩)

end Go.Proofs.YtgpbnpnnbipfpaaDoor.Fm
