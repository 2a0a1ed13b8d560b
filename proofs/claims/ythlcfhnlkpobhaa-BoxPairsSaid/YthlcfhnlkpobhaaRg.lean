/- Boxes: the pair about a moving shape, by the document. -/
import Derived.Test.YthlcfhnlkpobhaaBr
import Derived.Test.YthlcfhnlkpobhaaRr
namespace Go.Proofs.Ythlcfhnlkpobhaa.Bx
open Go.RowKit Go.Proofs.Ythlcfhnlkpobhaa Go.Proofs.Ythlcfhnlkpobhaa.Wa Go.Proofs.Ythlcfhnlkpobhaa.Ve Go.Proofs.Ythlcfhnlkpobhaa.Au
set_option linter.unusedVariables false
set_option linter.unusedSimpArgs false

set_option maxHeartbeats 2000000 in
set_option maxRecDepth 100000 in
theorem rall_any  (w : World)  : Calls Try.prog 76 #[] w fun e' w' => e' = .returned (.agg #[.int .i64 (-2147483648), .int .i64 (-2147483648), .int .i64 (-2147483648), .int .i64 2147483648, .int .i64 2147483648, .int .i64 2147483648]) ∧ Below w.heap.size w w' := by
  go_enter Try.func76, Try.ntmps76
  go_upto_region 1 with fail
  have hR := Au.rows1 w (.cells #[.int .i64 0, .int .i64 0, .int .i64 0, .int .i64 0, .int .i64 0, .int .i64 0] 67)
  have HUx := below_n1 w (.cells #[.int .i64 0, .int .i64 0, .int .i64 0, .int .i64 0, .int .i64 0, .int .i64 0] 67)
  obtain ⟨y0, hy0⟩ : ∃ y0, w.alloc (.cells #[.int .i64 0, .int .i64 0, .int .i64 0, .int .i64 0, .int .i64 0, .int .i64 0] 67) = y0 := ⟨_, rfl⟩
  rw [hy0] at hR HUx ⊢
  clear hy0
  have HU0 := Lib.hid HUx
  clear HUx
  have hr0_0 := hR
  clear hR
  have hHr := Lib.hid hr0_0
  have hHi := Lib.hid (show (Try.prog.info? 67).map (·.size) = some (#[.int .i64 (-2147483648), .int .i64 (-2147483648), .int .i64 (-2147483648), .int .i64 2147483648, .int .i64 2147483648, .int .i64 2147483648] : Array Value).size by kernel_rfl)
  have hHz := Lib.hid (show (#[.int .i64 0, .int .i64 0, .int .i64 0, .int .i64 0, .int .i64 0, .int .i64 0] : Array Value).size = (#[.int .i64 (-2147483648), .int .i64 (-2147483648), .int .i64 (-2147483648), .int .i64 2147483648, .int .i64 2147483648, .int .i64 2147483648] : Array Value).size from rfl)
  have hHo := Lib.hid (show (#[.int .i64 (-2147483648), .int .i64 (-2147483648), .int .i64 (-2147483648), .int .i64 2147483648, .int .i64 2147483648, .int .i64 2147483648] : Array Value).all (·.oneCell') = true by simp [Value.oneCell'])
  go_wp2_with (first | (refine Au.wpList_store_row rfl 67 (.tmp 0) (.tmp 3) rfl y0 #[.int .i64 0, .int .i64 0, .int .i64 0, .int .i64 0, .int .i64 0, .int .i64 0] #[.int .i64 (-2147483648), .int .i64 (-2147483648), .int .i64 (-2147483648), .int .i64 2147483648, .int .i64 2147483648, .int .i64 2147483648] (w.heap.size) 67 hHr.out rfl rfl hHi.out hHz.out hHo.out ?_))
  clear hHr hHi hHz hHo
  have hN := setRow_heap _ (w.heap.size) _ #[.int .i64 (-2147483648), .int .i64 (-2147483648), .int .i64 (-2147483648), .int .i64 2147483648, .int .i64 2147483648, .int .i64 2147483648] _ _ hr0_0
  have hsz := HU0.out.size
  have HUx := below_setRow (g := w.heap.size) HU0.out (by first | omega | (simp at *; omega)) #[.int .i64 (-2147483648), .int .i64 (-2147483648), .int .i64 (-2147483648), .int .i64 2147483648, .int .i64 2147483648, .int .i64 2147483648]
  have hO : ∀ kk, kk ≠ w.heap.size → (y0.setRow (w.heap.size) #[.int .i64 (-2147483648), .int .i64 (-2147483648), .int .i64 (-2147483648), .int .i64 2147483648, .int .i64 2147483648, .int .i64 2147483648]).heap[kk]? = y0.heap[kk]? := fun kk hk => setRow_other _ _ _ _ hk
  obtain ⟨y1, hy1⟩ : ∃ y, y0.setRow (w.heap.size) #[.int .i64 (-2147483648), .int .i64 (-2147483648), .int .i64 (-2147483648), .int .i64 2147483648, .int .i64 2147483648, .int .i64 2147483648] = y := ⟨_, rfl⟩
  rw [hy1] at hN HUx hO ⊢
  clear hy1 hsz
  have HU1 := Lib.hid HUx
  clear HUx
  have hr1_0 := hN
  clear hN hO
  clear hr0_0 HU0
  have c0_0 := cell_of_row _ _ 0 _ _ _ hr1_0
  have c0_1 := cell_of_row _ _ 1 _ _ _ hr1_0
  have c0_2 := cell_of_row _ _ 2 _ _ _ hr1_0
  have c0_3 := cell_of_row _ _ 3 _ _ _ hr1_0
  have c0_4 := cell_of_row _ _ 4 _ _ _ hr1_0
  have c0_5 := cell_of_row _ _ 5 _ _ _ hr1_0
  simp at c0_0 c0_1 c0_2 c0_3 c0_4 c0_5
  go_wp2
  exact bodyPost_ret (v := .agg #[.int .i64 (-2147483648), .int .i64 (-2147483648), .int .i64 (-2147483648), .int .i64 2147483648, .int .i64 2147483648, .int .i64 2147483648]) (by simp [results, Try.results76, go_sem, c0_0, c0_1, c0_2, c0_3, c0_4, c0_5]) rfl ⟨rfl, HU1.out⟩

end Go.Proofs.Ythlcfhnlkpobhaa.Bx
