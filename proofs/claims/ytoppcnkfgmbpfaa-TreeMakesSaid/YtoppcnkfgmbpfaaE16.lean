/- Boxes: the box of some boxes, by the program. -/
import Derived.Test.YtoppcnkfgmbpfaaE10
import Derived.Test.YtoppcnkfgmbpfaaE06
import Derived.Test.YtoppcnkfgmbpfaaE09
import Derived.Test.YtoppcnkfgmbpfaaE15
namespace Go.Proofs.Ytoppcnkfgmbpfaa.Bx
open Go.RowKit Go.Proofs.Ytoppcnkfgmbpfaa Go.Proofs.Ytoppcnkfgmbpfaa.Wa Go.Proofs.Ytoppcnkfgmbpfaa.Ve Go.Proofs.Ytoppcnkfgmbpfaa.Au
set_option linter.unusedVariables false
set_option linter.unusedSimpArgs false

set_option maxHeartbeats 2000000 in
set_option maxRecDepth 100000 in
theorem bjoin_none (f0 f1 f2 f3 f4 f5 : Int) (L : Nat → Int) (w : World)  : Calls Try.prog 37 #[.agg #[.int .i64 f0, .int .i64 f1, .int .i64 f2, .int .i64 f3, .int .i64 f4, .int .i64 f5], .slice none 0 0] w fun e' w' => e' = .returned (.agg #[.int .i64 (foldN min f0 (fun j => L (j * 6)) 0), .int .i64 (foldN min f1 (fun j => L (j * 6 + 1)) 0), .int .i64 (foldN min f2 (fun j => L (j * 6 + 2)) 0), .int .i64 (foldN max f3 (fun j => L (j * 6 + 3)) 0), .int .i64 (foldN max f4 (fun j => L (j * 6 + 4)) 0), .int .i64 (foldN max f5 (fun j => L (j * 6 + 5)) 0)]) ∧ Below w.heap.size w w' := by
  go_enter Try.func37, Try.ntmps37
  go_upto_region 1 with fail
  have hR := Au.rows2 w (.cells #[.int .i64 f0, .int .i64 f1, .int .i64 f2, .int .i64 f3, .int .i64 f4, .int .i64 f5] 41) (.cells #[.int .i64 0, .int .i64 0, .int .i64 0, .int .i64 0, .int .i64 0, .int .i64 0] 41)
  have HUx := below_n2 w (.cells #[.int .i64 f0, .int .i64 f1, .int .i64 f2, .int .i64 f3, .int .i64 f4, .int .i64 f5] 41) (.cells #[.int .i64 0, .int .i64 0, .int .i64 0, .int .i64 0, .int .i64 0, .int .i64 0] 41)
  obtain ⟨y0, hy0⟩ : ∃ y0, (w.alloc (.cells #[.int .i64 f0, .int .i64 f1, .int .i64 f2, .int .i64 f3, .int .i64 f4, .int .i64 f5] 41)).alloc (.cells #[.int .i64 0, .int .i64 0, .int .i64 0, .int .i64 0, .int .i64 0, .int .i64 0] 41) = y0 := ⟨_, rfl⟩
  rw [hy0] at hR HUx ⊢
  clear hy0
  have HU0 := Lib.hid HUx
  clear HUx
  obtain ⟨hr0_0, hr0_1⟩ := hR
  have c0_0 := cell_of_row _ _ 0 _ _ _ hr0_0
  have c0_1 := cell_of_row _ _ 1 _ _ _ hr0_0
  have c0_2 := cell_of_row _ _ 2 _ _ _ hr0_0
  have c0_3 := cell_of_row _ _ 3 _ _ _ hr0_0
  have c0_4 := cell_of_row _ _ 4 _ _ _ hr0_0
  have c0_5 := cell_of_row _ _ 5 _ _ _ hr0_0
  have c1_0 := cell_of_row _ _ 0 _ _ _ hr0_1
  have c1_1 := cell_of_row _ _ 1 _ _ _ hr0_1
  have c1_2 := cell_of_row _ _ 2 _ _ _ hr0_1
  have c1_3 := cell_of_row _ _ 3 _ _ _ hr0_1
  have c1_4 := cell_of_row _ _ 4 _ _ _ hr0_1
  have c1_5 := cell_of_row _ _ 5 _ _ _ hr0_1
  simp at c0_0 c0_1 c0_2 c0_3 c0_4 c0_5 c1_0 c1_1 c1_2 c1_3 c1_4 c1_5
  go_wp2_with fail
  clear c0_0 c0_1 c0_2 c0_3 c0_4 c0_5 c1_0 c1_1 c1_2 c1_3 c1_4 c1_5
  have hb1 := below_n1 y0 (.cells #[.int .i64 f0, .int .i64 f1, .int .i64 f2, .int .i64 f3, .int .i64 f4, .int .i64 f5] 41)
  have hN := heap_alloc_last y0 (.cells #[.int .i64 f0, .int .i64 f1, .int .i64 f2, .int .i64 f3, .int .i64 f4, .int .i64 f5] 41)
  obtain ⟨y1, hy1⟩ : ∃ y, y0.alloc (.cells #[.int .i64 f0, .int .i64 f1, .int .i64 f2, .int .i64 f3, .int .i64 f4, .int .i64 f5] 41) = y := ⟨_, rfl⟩
  rw [hy1] at hb1 hN ⊢
  clear hy1
  have hl1_0 := lt_heap hr0_0
  have hl1_1 := lt_heap hr0_1
  have hr1_0 := (hb1.block _ (lt_heap hr0_0)).trans hr0_0
  have hr1_1 := (hb1.block _ (lt_heap hr0_1)).trans hr0_1
  have HU1 := Lib.hid (HU0.out.trans (hb1.mono HU0.out.size))
  clear hr0_0 hr0_1 HU0
  have hr1_2 := hN
  clear hN
  refine wp_loop_rounds 1 ?_
  rw [rounds_succ]
  have c2_0 := cell_of_row _ _ 0 _ _ _ hr1_2
  have c2_1 := cell_of_row _ _ 1 _ _ _ hr1_2
  have c2_2 := cell_of_row _ _ 2 _ _ _ hr1_2
  have c2_3 := cell_of_row _ _ 3 _ _ _ hr1_2
  have c2_4 := cell_of_row _ _ 4 _ _ _ hr1_2
  have c2_5 := cell_of_row _ _ 5 _ _ _ hr1_2
  simp at c2_0 c2_1 c2_2 c2_3 c2_4 c2_5
  have hHr := Lib.hid hr1_1
  have hHi := Lib.hid (show (Try.prog.info? 41).map (·.size) = some (#[.int .i64 f0, .int .i64 f1, .int .i64 f2, .int .i64 f3, .int .i64 f4, .int .i64 f5] : Array Value).size by kernel_rfl)
  have hHz := Lib.hid (show (#[.int .i64 0, .int .i64 0, .int .i64 0, .int .i64 0, .int .i64 0, .int .i64 0] : Array Value).size = (#[.int .i64 f0, .int .i64 f1, .int .i64 f2, .int .i64 f3, .int .i64 f4, .int .i64 f5] : Array Value).size from rfl)
  have hHo := Lib.hid (show (#[.int .i64 f0, .int .i64 f1, .int .i64 f2, .int .i64 f3, .int .i64 f4, .int .i64 f5] : Array Value).all (·.oneCell') = true by simp [Value.oneCell'])
  go_wp2_with (first | (refine Au.wpList_store_row rfl 41 (.tmp 4) (.tmp 30) rfl y1 #[.int .i64 0, .int .i64 0, .int .i64 0, .int .i64 0, .int .i64 0, .int .i64 0] #[.int .i64 f0, .int .i64 f1, .int .i64 f2, .int .i64 f3, .int .i64 f4, .int .i64 f5] (w.heap.size + 1) 41 hHr.out rfl rfl hHi.out hHz.out hHo.out ?_))
  clear c2_0 c2_1 c2_2 c2_3 c2_4 c2_5
  clear hHr hHi hHz hHo
  have hN := setRow_heap _ (w.heap.size + 1) _ #[.int .i64 f0, .int .i64 f1, .int .i64 f2, .int .i64 f3, .int .i64 f4, .int .i64 f5] _ _ hr1_1
  have hsz := HU1.out.size
  have HUx := below_setRow (g := w.heap.size + 1) HU1.out (by first | omega | (simp at *; omega)) #[.int .i64 f0, .int .i64 f1, .int .i64 f2, .int .i64 f3, .int .i64 f4, .int .i64 f5]
  have hO : ∀ kk, kk ≠ w.heap.size + 1 → (y1.setRow (w.heap.size + 1) #[.int .i64 f0, .int .i64 f1, .int .i64 f2, .int .i64 f3, .int .i64 f4, .int .i64 f5]).heap[kk]? = y1.heap[kk]? := fun kk hk => setRow_other _ _ _ _ hk
  obtain ⟨y2, hy2⟩ : ∃ y, y1.setRow (w.heap.size + 1) #[.int .i64 f0, .int .i64 f1, .int .i64 f2, .int .i64 f3, .int .i64 f4, .int .i64 f5] = y := ⟨_, rfl⟩
  rw [hy2] at hN HUx hO ⊢
  clear hy2 hsz
  have HU2 := Lib.hid HUx
  clear HUx
  have hr2_0 := (hO _ (by omega)).trans hr1_0
  have hr2_1 := hN
  have hr2_2 := (hO _ (by omega)).trans hr1_2
  clear hN hO
  clear hr1_0 hr1_1 hr1_2 HU1
  have c1_0 := cell_of_row _ _ 0 _ _ _ hr2_1
  have c1_1 := cell_of_row _ _ 1 _ _ _ hr2_1
  have c1_2 := cell_of_row _ _ 2 _ _ _ hr2_1
  have c1_3 := cell_of_row _ _ 3 _ _ _ hr2_1
  have c1_4 := cell_of_row _ _ 4 _ _ _ hr2_1
  have c1_5 := cell_of_row _ _ 5 _ _ _ hr2_1
  simp at c1_0 c1_1 c1_2 c1_3 c1_4 c1_5
  go_wp2
  exact bodyPost_ret (v := .agg #[.int .i64 f0, .int .i64 f1, .int .i64 f2, .int .i64 f3, .int .i64 f4, .int .i64 f5]) (by simp [results, Try.results37, go_sem, c1_0, c1_1, c1_2, c1_3, c1_4, c1_5]) rfl ⟨rfl, HU2.out⟩

set_option maxHeartbeats 8000000 in
set_option maxRecDepth 100000 in
theorem bjoin_row (f0 f1 f2 f3 f4 f5 : Int) (gl ol n cap : Nat) (L : Nat → Int) (hn : n ≤ 4611686018427387904) (w : World) (hg : gl < w.heap.size) (hp : ∀ j, j < n * 6 → w.cell? ⟨gl, ol + j, none⟩ = some (.int .i64 (L j))) : Calls Try.prog 37 #[.agg #[.int .i64 f0, .int .i64 f1, .int .i64 f2, .int .i64 f3, .int .i64 f4, .int .i64 f5], .slice (some ⟨gl, ol, none⟩) n cap] w fun e' w' => e' = .returned (.agg #[.int .i64 (foldN min f0 (fun j => L (j * 6)) n), .int .i64 (foldN min f1 (fun j => L (j * 6 + 1)) n), .int .i64 (foldN min f2 (fun j => L (j * 6 + 2)) n), .int .i64 (foldN max f3 (fun j => L (j * 6 + 3)) n), .int .i64 (foldN max f4 (fun j => L (j * 6 + 4)) n), .int .i64 (foldN max f5 (fun j => L (j * 6 + 5)) n)]) ∧ Below w.heap.size w w' := by
  have HP := Lib.hid hp
  clear hp
  go_enter Try.func37, Try.ntmps37
  go_upto_region 1 with fail
  have hR := Au.rows2 w (.cells #[.int .i64 f0, .int .i64 f1, .int .i64 f2, .int .i64 f3, .int .i64 f4, .int .i64 f5] 41) (.cells #[.int .i64 0, .int .i64 0, .int .i64 0, .int .i64 0, .int .i64 0, .int .i64 0] 41)
  have HUx := below_n2 w (.cells #[.int .i64 f0, .int .i64 f1, .int .i64 f2, .int .i64 f3, .int .i64 f4, .int .i64 f5] 41) (.cells #[.int .i64 0, .int .i64 0, .int .i64 0, .int .i64 0, .int .i64 0, .int .i64 0] 41)
  obtain ⟨y0, hy0⟩ : ∃ y0, (w.alloc (.cells #[.int .i64 f0, .int .i64 f1, .int .i64 f2, .int .i64 f3, .int .i64 f4, .int .i64 f5] 41)).alloc (.cells #[.int .i64 0, .int .i64 0, .int .i64 0, .int .i64 0, .int .i64 0, .int .i64 0] 41) = y0 := ⟨_, rfl⟩
  rw [hy0] at hR HUx ⊢
  clear hy0
  have HU0 := Lib.hid HUx
  clear HUx
  obtain ⟨hr0_0, hr0_1⟩ := hR
  have c0_0 := cell_of_row _ _ 0 _ _ _ hr0_0
  have c0_1 := cell_of_row _ _ 1 _ _ _ hr0_0
  have c0_2 := cell_of_row _ _ 2 _ _ _ hr0_0
  have c0_3 := cell_of_row _ _ 3 _ _ _ hr0_0
  have c0_4 := cell_of_row _ _ 4 _ _ _ hr0_0
  have c0_5 := cell_of_row _ _ 5 _ _ _ hr0_0
  have c1_0 := cell_of_row _ _ 0 _ _ _ hr0_1
  have c1_1 := cell_of_row _ _ 1 _ _ _ hr0_1
  have c1_2 := cell_of_row _ _ 2 _ _ _ hr0_1
  have c1_3 := cell_of_row _ _ 3 _ _ _ hr0_1
  have c1_4 := cell_of_row _ _ 4 _ _ _ hr0_1
  have c1_5 := cell_of_row _ _ 5 _ _ _ hr0_1
  simp at c0_0 c0_1 c0_2 c0_3 c0_4 c0_5 c1_0 c1_1 c1_2 c1_3 c1_4 c1_5
  go_wp2_with fail
  clear c0_0 c0_1 c0_2 c0_3 c0_4 c0_5 c1_0 c1_1 c1_2 c1_3 c1_4 c1_5
  have hb1 := below_n1 y0 (.cells #[.int .i64 f0, .int .i64 f1, .int .i64 f2, .int .i64 f3, .int .i64 f4, .int .i64 f5] 41)
  have hN := heap_alloc_last y0 (.cells #[.int .i64 f0, .int .i64 f1, .int .i64 f2, .int .i64 f3, .int .i64 f4, .int .i64 f5] 41)
  obtain ⟨y1, hy1⟩ : ∃ y, y0.alloc (.cells #[.int .i64 f0, .int .i64 f1, .int .i64 f2, .int .i64 f3, .int .i64 f4, .int .i64 f5] 41) = y := ⟨_, rfl⟩
  rw [hy1] at hb1 hN ⊢
  clear hy1
  have hl1_0 := lt_heap hr0_0
  have hl1_1 := lt_heap hr0_1
  have hr1_0 := (hb1.block _ (lt_heap hr0_0)).trans hr0_0
  have hr1_1 := (hb1.block _ (lt_heap hr0_1)).trans hr0_1
  have HU1 := Lib.hid (HU0.out.trans (hb1.mono HU0.out.size))
  clear hr0_0 hr0_1 HU0
  have hr1_2 := hN
  clear hN
  go_loopw [11] (fun i wr => ∃ k : Nat, k ≤ n ∧ i = .int .i64 k ∧ wr.heap[y0.heap.size]? = some (.cells #[.int .i64 (foldN min f0 (fun j => L (j * 6)) k), .int .i64 (foldN min f1 (fun j => L (j * 6 + 1)) k), .int .i64 (foldN min f2 (fun j => L (j * 6 + 2)) k), .int .i64 (foldN max f3 (fun j => L (j * 6 + 3)) k), .int .i64 (foldN max f4 (fun j => L (j * 6 + 4)) k), .int .i64 (foldN max f5 (fun j => L (j * 6 + 5)) k)] 41 (0, 0)) ∧ wr.heap[w.heap.size + 1]? = some (.cells #[.int .i64 0, .int .i64 0, .int .i64 0, .int .i64 0, .int .i64 0, .int .i64 0] 41 (0, 0)) ∧ Hid (Below w.heap.size w wr)) (fun i _ => n - (intOf i).toNat)
  case atStart => exact ⟨0, Nat.zero_le _, rfl, hr1_2, hr1_1, HU1⟩
  case round =>
    clear hr1_0 hr1_1 hr1_2 HU1
    obtain ⟨k, hk, rfl, hr10_1, hr10_0, HU10⟩ := hrel
    obtain ⟨y10, rfl⟩ : ∃ y : World, y = wr := ⟨_, rfl⟩
    by_cases hlt : k < n
    · have hlt' : (k : Int) < n := by omega
      have e0 : y10.cell? ⟨gl, ol + k * 6, none⟩ = some (.int .i64 (L (k * 6))) := (HU10.out.cell (p := ⟨gl, ol + (k * 6 + 0), none⟩) hg).trans (HP.out (k * 6 + 0) (by omega))
      have e1 : y10.cell? ⟨gl, ol + k * 6 + 1, none⟩ = some (.int .i64 (L (k * 6 + 1))) := (HU10.out.cell (p := ⟨gl, ol + (k * 6 + 1), none⟩) hg).trans (HP.out (k * 6 + 1) (by omega))
      have e2 : y10.cell? ⟨gl, ol + k * 6 + 2, none⟩ = some (.int .i64 (L (k * 6 + 2))) := (HU10.out.cell (p := ⟨gl, ol + (k * 6 + 2), none⟩) hg).trans (HP.out (k * 6 + 2) (by omega))
      have e3 : y10.cell? ⟨gl, ol + k * 6 + 3, none⟩ = some (.int .i64 (L (k * 6 + 3))) := (HU10.out.cell (p := ⟨gl, ol + (k * 6 + 3), none⟩) hg).trans (HP.out (k * 6 + 3) (by omega))
      have e4 : y10.cell? ⟨gl, ol + k * 6 + 4, none⟩ = some (.int .i64 (L (k * 6 + 4))) := (HU10.out.cell (p := ⟨gl, ol + (k * 6 + 4), none⟩) hg).trans (HP.out (k * 6 + 4) (by omega))
      have e5 : y10.cell? ⟨gl, ol + k * 6 + 5, none⟩ = some (.int .i64 (L (k * 6 + 5))) := (HU10.out.cell (p := ⟨gl, ol + (k * 6 + 5), none⟩) hg).trans (HP.out (k * 6 + 5) (by omega))
      go_wp2_with fail
      clear e0 e1 e2 e3 e4 e5
      have hb11 := below_n1 y10 (.cells #[.int .i64 (L (k * 6)), .int .i64 (L (k * 6 + 1)), .int .i64 (L (k * 6 + 2)), .int .i64 (L (k * 6 + 3)), .int .i64 (L (k * 6 + 4)), .int .i64 (L (k * 6 + 5))] 41)
      have hN := heap_alloc_last y10 (.cells #[.int .i64 (L (k * 6)), .int .i64 (L (k * 6 + 1)), .int .i64 (L (k * 6 + 2)), .int .i64 (L (k * 6 + 3)), .int .i64 (L (k * 6 + 4)), .int .i64 (L (k * 6 + 5))] 41)
      obtain ⟨y11, hy11⟩ : ∃ y, y10.alloc (.cells #[.int .i64 (L (k * 6)), .int .i64 (L (k * 6 + 1)), .int .i64 (L (k * 6 + 2)), .int .i64 (L (k * 6 + 3)), .int .i64 (L (k * 6 + 4)), .int .i64 (L (k * 6 + 5))] 41) = y := ⟨_, rfl⟩
      rw [hy11] at hb11 hN ⊢
      clear hy11
      have hl11_0 := lt_heap hr10_0
      have hl11_1 := lt_heap hr10_1
      have hr11_0 := (hb11.block _ (lt_heap hr10_0)).trans hr10_0
      have hr11_1 := (hb11.block _ (lt_heap hr10_1)).trans hr10_1
      have HU11 := Lib.hid (HU10.out.trans (hb11.mono HU10.out.size))
      clear hr10_0 hr10_1 HU10
      have hr11_2 := hN
      clear hN
      refine Ol.way_drew (S := fun y => y.heap[y0.heap.size]? = some (.cells #[.int .i64 (foldN min f0 (fun j => L (j * 6)) k), .int .i64 (foldN min f1 (fun j => L (j * 6 + 1)) k), .int .i64 (foldN min f2 (fun j => L (j * 6 + 2)) k), .int .i64 (foldN max f3 (fun j => L (j * 6 + 3)) k), .int .i64 (foldN max f4 (fun j => L (j * 6 + 4)) k), .int .i64 (foldN max f5 (fun j => L (j * 6 + 5)) k)] 41 (0, 0)) ∧ y.heap[y10.heap.size]? = some (.cells #[.int .i64 (L (k * 6)), .int .i64 (L (k * 6 + 1)), .int .i64 (L (k * 6 + 2)), .int .i64 (L (k * 6 + 3)), .int .i64 (L (k * 6 + 4)), .int .i64 (L (k * 6 + 5))] 41 (0, 0))) (stop := 13) (by kernel_rfl) (⟨hr11_1, hr11_2⟩) (fun hS0 => ?_)
      obtain ⟨y12, hy12⟩ : ∃ y, y11.drew = y := ⟨_, rfl⟩
      have HU12 := Lib.hid (show Below w.heap.size w y12 by rw [← hy12]; exact HU11.out.drew)
      have hr12_0 : y12.heap[w.heap.size + 1]? = some (.cells #[.int .i64 0, .int .i64 0, .int .i64 0, .int .i64 0, .int .i64 0, .int .i64 0] 41 (0, 0)) := by rw [← hy12]; exact hr11_0
      have hr12_1 : y12.heap[y0.heap.size]? = some (.cells #[.int .i64 (foldN min f0 (fun j => L (j * 6)) k), .int .i64 (foldN min f1 (fun j => L (j * 6 + 1)) k), .int .i64 (foldN min f2 (fun j => L (j * 6 + 2)) k), .int .i64 (foldN max f3 (fun j => L (j * 6 + 3)) k), .int .i64 (foldN max f4 (fun j => L (j * 6 + 4)) k), .int .i64 (foldN max f5 (fun j => L (j * 6 + 5)) k)] 41 (0, 0)) := by rw [← hy12]; exact hr11_1
      have hr12_2 : y12.heap[y10.heap.size]? = some (.cells #[.int .i64 (L (k * 6)), .int .i64 (L (k * 6 + 1)), .int .i64 (L (k * 6 + 2)), .int .i64 (L (k * 6 + 3)), .int .i64 (L (k * 6 + 4)), .int .i64 (L (k * 6 + 5))] 41 (0, 0)) := by rw [← hy12]; exact hr11_2
      rw [hy12] at hS0 ⊢
      clear hy12
      refine Ol.way_plain (i := 0) (v := ?_) rfl (by kernel_rfl) (by kernel_rfl) (by kernel_rfl) (fun _ _ _ h => h) (by decide) (Or.inl ⟨by kernel_rfl, by (intro wz _; go_simp; try with_reducible rfl)⟩) (Ol.on hS0) ?_
      go_simp
      refine Ol.way_take (i := 1) (v := ?_) rfl (by kernel_rfl) (by kernel_rfl) (by kernel_rfl) (fun _ _ _ h => h) (by decide) (by kernel_rfl) (by kernel_rfl) (Or.inl ⟨by kernel_rfl, by (intro wz hSz; have c1_0 := cell_of_row _ _ 0 _ _ _ hSz.1; have c1_1 := cell_of_row _ _ 1 _ _ _ hSz.1; have c1_2 := cell_of_row _ _ 2 _ _ _ hSz.1; have c1_3 := cell_of_row _ _ 3 _ _ _ hSz.1; have c1_4 := cell_of_row _ _ 4 _ _ _ hSz.1; have c1_5 := cell_of_row _ _ 5 _ _ _ hSz.1; have c2_0 := cell_of_row _ _ 0 _ _ _ hSz.2; have c2_1 := cell_of_row _ _ 1 _ _ _ hSz.2; have c2_2 := cell_of_row _ _ 2 _ _ _ hSz.2; have c2_3 := cell_of_row _ _ 3 _ _ _ hSz.2; have c2_4 := cell_of_row _ _ 4 _ _ _ hSz.2; have c2_5 := cell_of_row _ _ 5 _ _ _ hSz.2; simp at c1_0 c1_1 c1_2 c1_3 c1_4 c1_5 c2_0 c2_1 c2_2 c2_3 c2_4 c2_5; go_simp; try with_reducible rfl)⟩) hS0 ?_
      go_simp
      refine Ol.way_plain (i := 2) (v := ?_) rfl (by kernel_rfl) (by kernel_rfl) (by kernel_rfl) (fun _ _ _ h => h) (by decide) (Or.inl ⟨by kernel_rfl, by (intro wz _; go_simp; try with_reducible rfl)⟩) (Ol.on hS0) ?_
      go_simp
      refine Ol.way_take (i := 3) (v := ?_) rfl (by kernel_rfl) (by kernel_rfl) (by kernel_rfl) (fun _ _ _ h => h) (by decide) (by kernel_rfl) (by kernel_rfl) (Or.inl ⟨by kernel_rfl, by (intro wz hSz; have c1_0 := cell_of_row _ _ 0 _ _ _ hSz.1; have c1_1 := cell_of_row _ _ 1 _ _ _ hSz.1; have c1_2 := cell_of_row _ _ 2 _ _ _ hSz.1; have c1_3 := cell_of_row _ _ 3 _ _ _ hSz.1; have c1_4 := cell_of_row _ _ 4 _ _ _ hSz.1; have c1_5 := cell_of_row _ _ 5 _ _ _ hSz.1; have c2_0 := cell_of_row _ _ 0 _ _ _ hSz.2; have c2_1 := cell_of_row _ _ 1 _ _ _ hSz.2; have c2_2 := cell_of_row _ _ 2 _ _ _ hSz.2; have c2_3 := cell_of_row _ _ 3 _ _ _ hSz.2; have c2_4 := cell_of_row _ _ 4 _ _ _ hSz.2; have c2_5 := cell_of_row _ _ 5 _ _ _ hSz.2; simp at c1_0 c1_1 c1_2 c1_3 c1_4 c1_5 c2_0 c2_1 c2_2 c2_3 c2_4 c2_5; go_simp; try with_reducible rfl)⟩) hS0 ?_
      go_simp
      refine Ol.way_plain (i := 6) (v := ?_) rfl (by kernel_rfl) (by kernel_rfl) (by kernel_rfl) (fun _ _ _ h => h) (by decide) (Or.inl ⟨by kernel_rfl, by (intro wz _; go_simp; try with_reducible rfl)⟩) (Ol.on hS0) ?_
      go_simp
      refine Ol.way_take (i := 7) (v := ?_) rfl (by kernel_rfl) (by kernel_rfl) (by kernel_rfl) (fun _ _ _ h => h) (by decide) (by kernel_rfl) (by kernel_rfl) (Or.inl ⟨by kernel_rfl, by (intro wz hSz; have c1_0 := cell_of_row _ _ 0 _ _ _ hSz.1; have c1_1 := cell_of_row _ _ 1 _ _ _ hSz.1; have c1_2 := cell_of_row _ _ 2 _ _ _ hSz.1; have c1_3 := cell_of_row _ _ 3 _ _ _ hSz.1; have c1_4 := cell_of_row _ _ 4 _ _ _ hSz.1; have c1_5 := cell_of_row _ _ 5 _ _ _ hSz.1; have c2_0 := cell_of_row _ _ 0 _ _ _ hSz.2; have c2_1 := cell_of_row _ _ 1 _ _ _ hSz.2; have c2_2 := cell_of_row _ _ 2 _ _ _ hSz.2; have c2_3 := cell_of_row _ _ 3 _ _ _ hSz.2; have c2_4 := cell_of_row _ _ 4 _ _ _ hSz.2; have c2_5 := cell_of_row _ _ 5 _ _ _ hSz.2; simp at c1_0 c1_1 c1_2 c1_3 c1_4 c1_5 c2_0 c2_1 c2_2 c2_3 c2_4 c2_5; go_simp; try with_reducible rfl)⟩) hS0 ?_
      go_simp
      refine Ol.way_plain (i := 8) (v := ?_) rfl (by kernel_rfl) (by kernel_rfl) (by kernel_rfl) (fun _ _ _ h => h) (by decide) (Or.inl ⟨by kernel_rfl, by (intro wz _; go_simp; try with_reducible rfl)⟩) (Ol.on hS0) ?_
      go_simp
      refine Ol.way_ready (rs := [4, 9]) (by kernel_rfl) (by simp) ?_
      refine Ol.Each.cons rfl (fun K hK => ?_) (Ol.Each.cons rfl (fun K hK => ?_) Ol.Each.nil)
      · skip
        go_simp
        have hb13 := below_n1 y12 (.cells #[.int .i64 (L (k * 6)), .int .i64 (L (k * 6 + 1)), .int .i64 (L (k * 6 + 2))] 39)
        have hN := heap_alloc_last y12 (.cells #[.int .i64 (L (k * 6)), .int .i64 (L (k * 6 + 1)), .int .i64 (L (k * 6 + 2))] 39)
        obtain ⟨y13, hy13⟩ : ∃ y, y12.alloc (.cells #[.int .i64 (L (k * 6)), .int .i64 (L (k * 6 + 1)), .int .i64 (L (k * 6 + 2))] 39) = y := ⟨_, rfl⟩
        rw [hy13] at hb13 hN ⊢
        clear hy13
        have hl13_0 := lt_heap hr12_0
        have hr13_0 := (hb13.block _ (lt_heap hr12_0)).trans hr12_0
        have hl13_1 := lt_heap hr12_1
        have hr13_1 := (hb13.block _ (lt_heap hr12_1)).trans hr12_1
        have hl13_2 := lt_heap hr12_2
        have hr13_2 := (hb13.block _ (lt_heap hr12_2)).trans hr12_2
        have hr13_3 := hN
        clear hN
        have HU13 := Lib.hid (HU12.out.trans (hb13.mono HU12.out.size))
        refine Ol.keep hK _ _ (⟨(hb13.block _ (lt_heap hS0.1)).trans hS0.1, (hb13.block _ (lt_heap hS0.2)).trans hS0.2⟩) (fun hS13a => ?_)
        clear hK K
        refine Ol.way_ready (rs := [5, 9]) (by kernel_rfl) (by simp) ?_
        refine Ol.Each.cons rfl (fun K hK => ?_) (Ol.Each.cons rfl (fun K hK => ?_) Ol.Each.nil)
        · skip
          go_simp
          go_wp2_with (go_at_call 59; refine (least3_u _ _ _ (.slice (some ⟨y12.heap.size, 0, none⟩) 1 1) 1 (fun _ => L (k * 6)) (fun _ => L (k * 6 + 1)) (fun _ => L (k * 6 + 2)) (by omega) _ (.inr ⟨y12.heap.size, 0, 1, rfl, lt_heap hr13_3, fun j hj => by obtain rfl : j = 0 := (by omega); exact ⟨cell_of_row _ _ 0 _ _ _ hr13_3, cell_of_row _ _ 1 _ _ _ hr13_3, cell_of_row _ _ 2 _ _ _ hr13_3⟩⟩)).mono ?_; rintro e y14 ⟨rfl, hb14⟩)
          have hr14_0 := (hb14.block _ (lt_heap hr13_0)).trans hr13_0
          have hr14_1 := (hb14.block _ (lt_heap hr13_1)).trans hr13_1
          have hr14_2 := (hb14.block _ (lt_heap hr13_2)).trans hr13_2
          have hr14_3 := (hb14.block _ (lt_heap hr13_3)).trans hr13_3
          have HU14 := Lib.hid (HU13.out.trans (hb14.mono HU13.out.size))
          refine Ol.keep hK _ _ (⟨(hb14.block _ (lt_heap hS13a.1)).trans hS13a.1, (hb14.block _ (lt_heap hS13a.2)).trans hS13a.2⟩) (fun hS14c => ?_)
          clear hK K
          refine Ol.way_plain (i := 12) (v := ?_) rfl (by kernel_rfl) (by kernel_rfl) (by kernel_rfl) (fun _ _ _ h => h) (by decide) (Or.inl ⟨by kernel_rfl, by (intro wz _; go_simp; try with_reducible rfl)⟩) (Ol.on hS14c) ?_
          go_simp
          refine Ol.way_ready (rs := [9]) (by kernel_rfl) (by simp) ?_
          refine Ol.Each.cons rfl (fun K hK => ?_) Ol.Each.nil
          have p0 := cell_of_row _ _ 0 _ _ _ hr14_2
          have p1 := cell_of_row _ _ 1 _ _ _ hr14_2
          have p2 := cell_of_row _ _ 2 _ _ _ hr14_2
          have p3 := cell_of_row _ _ 3 _ _ _ hr14_2
          have p4 := cell_of_row _ _ 4 _ _ _ hr14_2
          have p5 := cell_of_row _ _ 5 _ _ _ hr14_2
          simp at p0 p1 p2 p3 p4 p5
          go_simp
          clear p0 p1 p2 p3 p4 p5
          refine Ol.keep hK _ _ (hS14c) (fun hS14l9 => ?_)
          clear hK K
          refine Ol.way_ready (rs := [10]) (by kernel_rfl) (by simp) ?_
          refine Ol.Each.cons rfl (fun K hK => ?_) Ol.Each.nil
          go_simp
          have hb15 := below_n1 y14 (.cells #[.int .i64 (L (k * 6 + 3)), .int .i64 (L (k * 6 + 4)), .int .i64 (L (k * 6 + 5))] 39)
          have hN := heap_alloc_last y14 (.cells #[.int .i64 (L (k * 6 + 3)), .int .i64 (L (k * 6 + 4)), .int .i64 (L (k * 6 + 5))] 39)
          obtain ⟨y15, hy15⟩ : ∃ y, y14.alloc (.cells #[.int .i64 (L (k * 6 + 3)), .int .i64 (L (k * 6 + 4)), .int .i64 (L (k * 6 + 5))] 39) = y := ⟨_, rfl⟩
          rw [hy15] at hb15 hN ⊢
          clear hy15
          have hl15_0 := lt_heap hr14_0
          have hr15_0 := (hb15.block _ (lt_heap hr14_0)).trans hr14_0
          have hl15_1 := lt_heap hr14_1
          have hr15_1 := (hb15.block _ (lt_heap hr14_1)).trans hr14_1
          have hl15_2 := lt_heap hr14_2
          have hr15_2 := (hb15.block _ (lt_heap hr14_2)).trans hr14_2
          have hl15_3 := lt_heap hr14_3
          have hr15_3 := (hb15.block _ (lt_heap hr14_3)).trans hr14_3
          have hr15_4 := hN
          clear hN
          have HU15 := Lib.hid (HU14.out.trans (hb15.mono HU14.out.size))
          refine Ol.keep hK _ _ (⟨(hb15.block _ (lt_heap hS14l9.1)).trans hS14l9.1, (hb15.block _ (lt_heap hS14l9.2)).trans hS14l9.2⟩) (fun hS15a => ?_)
          clear hK K
          refine Ol.way_ready (rs := [11]) (by kernel_rfl) (by simp) ?_
          refine Ol.Each.cons rfl (fun K hK => ?_) Ol.Each.nil
          go_simp
          go_wp2_with (go_at_call 60; refine (greatest3_u _ _ _ (.slice (some ⟨y14.heap.size, 0, none⟩) 1 1) 1 (fun _ => L (k * 6 + 3)) (fun _ => L (k * 6 + 4)) (fun _ => L (k * 6 + 5)) (by omega) _ (.inr ⟨y14.heap.size, 0, 1, rfl, lt_heap hr15_4, fun j hj => by obtain rfl : j = 0 := (by omega); exact ⟨cell_of_row _ _ 0 _ _ _ hr15_4, cell_of_row _ _ 1 _ _ _ hr15_4, cell_of_row _ _ 2 _ _ _ hr15_4⟩⟩)).mono ?_; rintro e y16 ⟨rfl, hb16⟩)
          have hr16_0 := (hb16.block _ (lt_heap hr15_0)).trans hr15_0
          have hr16_1 := (hb16.block _ (lt_heap hr15_1)).trans hr15_1
          have hr16_2 := (hb16.block _ (lt_heap hr15_2)).trans hr15_2
          have hr16_3 := (hb16.block _ (lt_heap hr15_3)).trans hr15_3
          have hr16_4 := (hb16.block _ (lt_heap hr15_4)).trans hr15_4
          have HU16 := Lib.hid (HU15.out.trans (hb16.mono HU15.out.size))
          refine Ol.keep hK _ _ (⟨(hb16.block _ (lt_heap hS15a.1)).trans hS15a.1, (hb16.block _ (lt_heap hS15a.2)).trans hS15a.2⟩) (fun hS16c => ?_)
          clear hK K
          refine Ol.way_ready (rs := [13]) (by kernel_rfl) (by simp) ?_
          refine Ol.Each.cons rfl (fun K hK => ?_) Ol.Each.nil
          have p0 := cell_of_row _ _ 0 _ _ _ hr16_1
          have p1 := cell_of_row _ _ 1 _ _ _ hr16_1
          have p2 := cell_of_row _ _ 2 _ _ _ hr16_1
          have p3 := cell_of_row _ _ 3 _ _ _ hr16_1
          have p4 := cell_of_row _ _ 4 _ _ _ hr16_1
          have p5 := cell_of_row _ _ 5 _ _ _ hr16_1
          simp at p0 p1 p2 p3 p4 p5
          have fz : ∀ j, y16.frozen? ⟨y0.heap.size, j, none⟩ = false := fun j => by simp [World.frozen?, hr16_1]
          go_simp
          clear fz p0 p1 p2 p3 p4 p5
          have hN : (((y16.setCell ⟨y0.heap.size, 0, none⟩ (.int .i64 (foldN min (foldN min f0 (fun j => L (j * 6)) k) (fun _ => L (k * 6)) 1))).setCell ⟨y0.heap.size, 1, none⟩ (.int .i64 (foldN min (foldN min f1 (fun j => L (j * 6 + 1)) k) (fun _ => L (k * 6 + 1)) 1))).setCell ⟨y0.heap.size, 2, none⟩ (.int .i64 (foldN min (foldN min f2 (fun j => L (j * 6 + 2)) k) (fun _ => L (k * 6 + 2)) 1))).heap[y0.heap.size]? = some (.cells #[.int .i64 (foldN min (foldN min f0 (fun j => L (j * 6)) k) (fun _ => L (k * 6)) 1), .int .i64 (foldN min (foldN min f1 (fun j => L (j * 6 + 1)) k) (fun _ => L (k * 6 + 1)) 1), .int .i64 (foldN min (foldN min f2 (fun j => L (j * 6 + 2)) k) (fun _ => L (k * 6 + 2)) 1), .int .i64 (foldN max f3 (fun j => L (j * 6 + 3)) k), .int .i64 (foldN max f4 (fun j => L (j * 6 + 4)) k), .int .i64 (foldN max f5 (fun j => L (j * 6 + 5)) k)] 41 (0, 0)) := part3 hr16_1 _ _ _ rfl
          have hsz := HU16.out.size
          have HUx := below_put3 (k := y0.heap.size) HU16.out (by first | omega | (simp at *; omega)) (.int .i64 (foldN min (foldN min f0 (fun j => L (j * 6)) k) (fun _ => L (k * 6)) 1)) (.int .i64 (foldN min (foldN min f1 (fun j => L (j * 6 + 1)) k) (fun _ => L (k * 6 + 1)) 1)) (.int .i64 (foldN min (foldN min f2 (fun j => L (j * 6 + 2)) k) (fun _ => L (k * 6 + 2)) 1))
          have hO : ∀ kk, kk ≠ y0.heap.size → (((y16.setCell ⟨y0.heap.size, 0, none⟩ (.int .i64 (foldN min (foldN min f0 (fun j => L (j * 6)) k) (fun _ => L (k * 6)) 1))).setCell ⟨y0.heap.size, 1, none⟩ (.int .i64 (foldN min (foldN min f1 (fun j => L (j * 6 + 1)) k) (fun _ => L (k * 6 + 1)) 1))).setCell ⟨y0.heap.size, 2, none⟩ (.int .i64 (foldN min (foldN min f2 (fun j => L (j * 6 + 2)) k) (fun _ => L (k * 6 + 2)) 1))).heap[kk]? = y16.heap[kk]? := fun kk hk => put3_other _ _ _ _ _ hk
          obtain ⟨y17, hy17⟩ : ∃ y, ((y16.setCell ⟨y0.heap.size, 0, none⟩ (.int .i64 (foldN min (foldN min f0 (fun j => L (j * 6)) k) (fun _ => L (k * 6)) 1))).setCell ⟨y0.heap.size, 1, none⟩ (.int .i64 (foldN min (foldN min f1 (fun j => L (j * 6 + 1)) k) (fun _ => L (k * 6 + 1)) 1))).setCell ⟨y0.heap.size, 2, none⟩ (.int .i64 (foldN min (foldN min f2 (fun j => L (j * 6 + 2)) k) (fun _ => L (k * 6 + 2)) 1)) = y := ⟨_, rfl⟩
          rw [hy17] at hN HUx hO ⊢
          clear hy17
          have HU17 := Lib.hid HUx
          clear HUx
          have hr17_0 := (hO _ (by omega)).trans hr16_0
          have hr17_1 := hN
          have hr17_2 := (hO _ (by omega)).trans hr16_2
          have hr17_3 := (hO _ (by omega)).trans hr16_3
          have hr17_4 := (hO _ (by omega)).trans hr16_4
          clear hN
          refine Ol.past hK (by kernel_rfl) _ _ ?_
          clear hK K
          refine Ol.way_plain (i := 14) (v := ?_) rfl (by kernel_rfl) (by kernel_rfl) (by kernel_rfl) (fun _ _ _ h => h) (by decide) (Or.inl ⟨by kernel_rfl, by (intro wz _; go_simp; try with_reducible rfl)⟩) (Ol.off (by kernel_rfl)) ?_
          go_simp
          refine Ol.way_ready (rs := [15]) (by kernel_rfl) (by simp) ?_
          refine Ol.Each.cons rfl (fun K hK => ?_) Ol.Each.nil
          have p0 := cell_of_row _ _ 0 _ _ _ hr17_1
          have p1 := cell_of_row _ _ 1 _ _ _ hr17_1
          have p2 := cell_of_row _ _ 2 _ _ _ hr17_1
          have p3 := cell_of_row _ _ 3 _ _ _ hr17_1
          have p4 := cell_of_row _ _ 4 _ _ _ hr17_1
          have p5 := cell_of_row _ _ 5 _ _ _ hr17_1
          simp at p0 p1 p2 p3 p4 p5
          have fz : ∀ j, y17.frozen? ⟨y0.heap.size, j, none⟩ = false := fun j => by simp [World.frozen?, hr17_1]
          go_simp
          clear fz p0 p1 p2 p3 p4 p5
          have hN : (((y17.setCell ⟨y0.heap.size, 3, none⟩ (.int .i64 (foldN max (foldN max f3 (fun j => L (j * 6 + 3)) k) (fun _ => L (k * 6 + 3)) 1))).setCell ⟨y0.heap.size, 4, none⟩ (.int .i64 (foldN max (foldN max f4 (fun j => L (j * 6 + 4)) k) (fun _ => L (k * 6 + 4)) 1))).setCell ⟨y0.heap.size, 5, none⟩ (.int .i64 (foldN max (foldN max f5 (fun j => L (j * 6 + 5)) k) (fun _ => L (k * 6 + 5)) 1))).heap[y0.heap.size]? = some (.cells #[.int .i64 (foldN min (foldN min f0 (fun j => L (j * 6)) k) (fun _ => L (k * 6)) 1), .int .i64 (foldN min (foldN min f1 (fun j => L (j * 6 + 1)) k) (fun _ => L (k * 6 + 1)) 1), .int .i64 (foldN min (foldN min f2 (fun j => L (j * 6 + 2)) k) (fun _ => L (k * 6 + 2)) 1), .int .i64 (foldN max (foldN max f3 (fun j => L (j * 6 + 3)) k) (fun _ => L (k * 6 + 3)) 1), .int .i64 (foldN max (foldN max f4 (fun j => L (j * 6 + 4)) k) (fun _ => L (k * 6 + 4)) 1), .int .i64 (foldN max (foldN max f5 (fun j => L (j * 6 + 5)) k) (fun _ => L (k * 6 + 5)) 1)] 41 (0, 0)) := part3 hr17_1 _ _ _ rfl
          have hsz := HU17.out.size
          have HUx := below_put3o (k := y0.heap.size) (o := 3) HU17.out (by first | omega | (simp at *; omega)) (.int .i64 (foldN max (foldN max f3 (fun j => L (j * 6 + 3)) k) (fun _ => L (k * 6 + 3)) 1)) (.int .i64 (foldN max (foldN max f4 (fun j => L (j * 6 + 4)) k) (fun _ => L (k * 6 + 4)) 1)) (.int .i64 (foldN max (foldN max f5 (fun j => L (j * 6 + 5)) k) (fun _ => L (k * 6 + 5)) 1))
          have hO : ∀ kk, kk ≠ y0.heap.size → (((y17.setCell ⟨y0.heap.size, 3, none⟩ (.int .i64 (foldN max (foldN max f3 (fun j => L (j * 6 + 3)) k) (fun _ => L (k * 6 + 3)) 1))).setCell ⟨y0.heap.size, 4, none⟩ (.int .i64 (foldN max (foldN max f4 (fun j => L (j * 6 + 4)) k) (fun _ => L (k * 6 + 4)) 1))).setCell ⟨y0.heap.size, 5, none⟩ (.int .i64 (foldN max (foldN max f5 (fun j => L (j * 6 + 5)) k) (fun _ => L (k * 6 + 5)) 1))).heap[kk]? = y17.heap[kk]? := fun kk hk => put3_other _ _ _ _ _ hk
          obtain ⟨y18, hy18⟩ : ∃ y, ((y17.setCell ⟨y0.heap.size, 3, none⟩ (.int .i64 (foldN max (foldN max f3 (fun j => L (j * 6 + 3)) k) (fun _ => L (k * 6 + 3)) 1))).setCell ⟨y0.heap.size, 4, none⟩ (.int .i64 (foldN max (foldN max f4 (fun j => L (j * 6 + 4)) k) (fun _ => L (k * 6 + 4)) 1))).setCell ⟨y0.heap.size, 5, none⟩ (.int .i64 (foldN max (foldN max f5 (fun j => L (j * 6 + 5)) k) (fun _ => L (k * 6 + 5)) 1)) = y := ⟨_, rfl⟩
          rw [hy18] at hN HUx hO ⊢
          clear hy18
          have HU18 := Lib.hid HUx
          clear HUx
          have hr18_0 := (hO _ (by omega)).trans hr17_0
          have hr18_1 := hN
          have hr18_2 := (hO _ (by omega)).trans hr17_2
          have hr18_3 := (hO _ (by omega)).trans hr17_3
          have hr18_4 := (hO _ (by omega)).trans hr17_4
          clear hN
          refine Ol.past hK (by kernel_rfl) _ _ ?_
          clear hK K
          refine Ol.way_done (by kernel_rfl) ?_ _
          go_wp2
          go_roundw
          case rel => exact ⟨k + 1, by omega, by go_num, hr18_1, hr18_0, HU18⟩
          case measure => simp [intOf]; omega
        · skip
          have p0 := cell_of_row _ _ 0 _ _ _ hr13_2
          have p1 := cell_of_row _ _ 1 _ _ _ hr13_2
          have p2 := cell_of_row _ _ 2 _ _ _ hr13_2
          have p3 := cell_of_row _ _ 3 _ _ _ hr13_2
          have p4 := cell_of_row _ _ 4 _ _ _ hr13_2
          have p5 := cell_of_row _ _ 5 _ _ _ hr13_2
          simp at p0 p1 p2 p3 p4 p5
          go_simp
          clear p0 p1 p2 p3 p4 p5
          refine Ol.keep hK _ _ (hS13a) (fun hS13l9 => ?_)
          clear hK K
          refine Ol.way_ready (rs := [5, 10]) (by kernel_rfl) (by simp) ?_
          refine Ol.Each.cons rfl (fun K hK => ?_) (Ol.Each.cons rfl (fun K hK => ?_) Ol.Each.nil)
          · skip
            go_simp
            go_wp2_with (go_at_call 59; refine (least3_u _ _ _ (.slice (some ⟨y12.heap.size, 0, none⟩) 1 1) 1 (fun _ => L (k * 6)) (fun _ => L (k * 6 + 1)) (fun _ => L (k * 6 + 2)) (by omega) _ (.inr ⟨y12.heap.size, 0, 1, rfl, lt_heap hr13_3, fun j hj => by obtain rfl : j = 0 := (by omega); exact ⟨cell_of_row _ _ 0 _ _ _ hr13_3, cell_of_row _ _ 1 _ _ _ hr13_3, cell_of_row _ _ 2 _ _ _ hr13_3⟩⟩)).mono ?_; rintro e y14 ⟨rfl, hb14⟩)
            have hr14_0 := (hb14.block _ (lt_heap hr13_0)).trans hr13_0
            have hr14_1 := (hb14.block _ (lt_heap hr13_1)).trans hr13_1
            have hr14_2 := (hb14.block _ (lt_heap hr13_2)).trans hr13_2
            have hr14_3 := (hb14.block _ (lt_heap hr13_3)).trans hr13_3
            have HU14 := Lib.hid (HU13.out.trans (hb14.mono HU13.out.size))
            refine Ol.keep hK _ _ (⟨(hb14.block _ (lt_heap hS13l9.1)).trans hS13l9.1, (hb14.block _ (lt_heap hS13l9.2)).trans hS13l9.2⟩) (fun hS14c => ?_)
            clear hK K
            refine Ol.way_plain (i := 12) (v := ?_) rfl (by kernel_rfl) (by kernel_rfl) (by kernel_rfl) (fun _ _ _ h => h) (by decide) (Or.inl ⟨by kernel_rfl, by (intro wz _; go_simp; try with_reducible rfl)⟩) (Ol.on hS14c) ?_
            go_simp
            refine Ol.way_ready (rs := [10]) (by kernel_rfl) (by simp) ?_
            refine Ol.Each.cons rfl (fun K hK => ?_) Ol.Each.nil
            go_simp
            have hb15 := below_n1 y14 (.cells #[.int .i64 (L (k * 6 + 3)), .int .i64 (L (k * 6 + 4)), .int .i64 (L (k * 6 + 5))] 39)
            have hN := heap_alloc_last y14 (.cells #[.int .i64 (L (k * 6 + 3)), .int .i64 (L (k * 6 + 4)), .int .i64 (L (k * 6 + 5))] 39)
            obtain ⟨y15, hy15⟩ : ∃ y, y14.alloc (.cells #[.int .i64 (L (k * 6 + 3)), .int .i64 (L (k * 6 + 4)), .int .i64 (L (k * 6 + 5))] 39) = y := ⟨_, rfl⟩
            rw [hy15] at hb15 hN ⊢
            clear hy15
            have hl15_0 := lt_heap hr14_0
            have hr15_0 := (hb15.block _ (lt_heap hr14_0)).trans hr14_0
            have hl15_1 := lt_heap hr14_1
            have hr15_1 := (hb15.block _ (lt_heap hr14_1)).trans hr14_1
            have hl15_2 := lt_heap hr14_2
            have hr15_2 := (hb15.block _ (lt_heap hr14_2)).trans hr14_2
            have hl15_3 := lt_heap hr14_3
            have hr15_3 := (hb15.block _ (lt_heap hr14_3)).trans hr14_3
            have hr15_4 := hN
            clear hN
            have HU15 := Lib.hid (HU14.out.trans (hb15.mono HU14.out.size))
            refine Ol.keep hK _ _ (⟨(hb15.block _ (lt_heap hS14c.1)).trans hS14c.1, (hb15.block _ (lt_heap hS14c.2)).trans hS14c.2⟩) (fun hS15a => ?_)
            clear hK K
            refine Ol.way_ready (rs := [11]) (by kernel_rfl) (by simp) ?_
            refine Ol.Each.cons rfl (fun K hK => ?_) Ol.Each.nil
            go_simp
            go_wp2_with (go_at_call 60; refine (greatest3_u _ _ _ (.slice (some ⟨y14.heap.size, 0, none⟩) 1 1) 1 (fun _ => L (k * 6 + 3)) (fun _ => L (k * 6 + 4)) (fun _ => L (k * 6 + 5)) (by omega) _ (.inr ⟨y14.heap.size, 0, 1, rfl, lt_heap hr15_4, fun j hj => by obtain rfl : j = 0 := (by omega); exact ⟨cell_of_row _ _ 0 _ _ _ hr15_4, cell_of_row _ _ 1 _ _ _ hr15_4, cell_of_row _ _ 2 _ _ _ hr15_4⟩⟩)).mono ?_; rintro e y16 ⟨rfl, hb16⟩)
            have hr16_0 := (hb16.block _ (lt_heap hr15_0)).trans hr15_0
            have hr16_1 := (hb16.block _ (lt_heap hr15_1)).trans hr15_1
            have hr16_2 := (hb16.block _ (lt_heap hr15_2)).trans hr15_2
            have hr16_3 := (hb16.block _ (lt_heap hr15_3)).trans hr15_3
            have hr16_4 := (hb16.block _ (lt_heap hr15_4)).trans hr15_4
            have HU16 := Lib.hid (HU15.out.trans (hb16.mono HU15.out.size))
            refine Ol.keep hK _ _ (⟨(hb16.block _ (lt_heap hS15a.1)).trans hS15a.1, (hb16.block _ (lt_heap hS15a.2)).trans hS15a.2⟩) (fun hS16c => ?_)
            clear hK K
            refine Ol.way_ready (rs := [13]) (by kernel_rfl) (by simp) ?_
            refine Ol.Each.cons rfl (fun K hK => ?_) Ol.Each.nil
            have p0 := cell_of_row _ _ 0 _ _ _ hr16_1
            have p1 := cell_of_row _ _ 1 _ _ _ hr16_1
            have p2 := cell_of_row _ _ 2 _ _ _ hr16_1
            have p3 := cell_of_row _ _ 3 _ _ _ hr16_1
            have p4 := cell_of_row _ _ 4 _ _ _ hr16_1
            have p5 := cell_of_row _ _ 5 _ _ _ hr16_1
            simp at p0 p1 p2 p3 p4 p5
            have fz : ∀ j, y16.frozen? ⟨y0.heap.size, j, none⟩ = false := fun j => by simp [World.frozen?, hr16_1]
            go_simp
            clear fz p0 p1 p2 p3 p4 p5
            have hN : (((y16.setCell ⟨y0.heap.size, 0, none⟩ (.int .i64 (foldN min (foldN min f0 (fun j => L (j * 6)) k) (fun _ => L (k * 6)) 1))).setCell ⟨y0.heap.size, 1, none⟩ (.int .i64 (foldN min (foldN min f1 (fun j => L (j * 6 + 1)) k) (fun _ => L (k * 6 + 1)) 1))).setCell ⟨y0.heap.size, 2, none⟩ (.int .i64 (foldN min (foldN min f2 (fun j => L (j * 6 + 2)) k) (fun _ => L (k * 6 + 2)) 1))).heap[y0.heap.size]? = some (.cells #[.int .i64 (foldN min (foldN min f0 (fun j => L (j * 6)) k) (fun _ => L (k * 6)) 1), .int .i64 (foldN min (foldN min f1 (fun j => L (j * 6 + 1)) k) (fun _ => L (k * 6 + 1)) 1), .int .i64 (foldN min (foldN min f2 (fun j => L (j * 6 + 2)) k) (fun _ => L (k * 6 + 2)) 1), .int .i64 (foldN max f3 (fun j => L (j * 6 + 3)) k), .int .i64 (foldN max f4 (fun j => L (j * 6 + 4)) k), .int .i64 (foldN max f5 (fun j => L (j * 6 + 5)) k)] 41 (0, 0)) := part3 hr16_1 _ _ _ rfl
            have hsz := HU16.out.size
            have HUx := below_put3 (k := y0.heap.size) HU16.out (by first | omega | (simp at *; omega)) (.int .i64 (foldN min (foldN min f0 (fun j => L (j * 6)) k) (fun _ => L (k * 6)) 1)) (.int .i64 (foldN min (foldN min f1 (fun j => L (j * 6 + 1)) k) (fun _ => L (k * 6 + 1)) 1)) (.int .i64 (foldN min (foldN min f2 (fun j => L (j * 6 + 2)) k) (fun _ => L (k * 6 + 2)) 1))
            have hO : ∀ kk, kk ≠ y0.heap.size → (((y16.setCell ⟨y0.heap.size, 0, none⟩ (.int .i64 (foldN min (foldN min f0 (fun j => L (j * 6)) k) (fun _ => L (k * 6)) 1))).setCell ⟨y0.heap.size, 1, none⟩ (.int .i64 (foldN min (foldN min f1 (fun j => L (j * 6 + 1)) k) (fun _ => L (k * 6 + 1)) 1))).setCell ⟨y0.heap.size, 2, none⟩ (.int .i64 (foldN min (foldN min f2 (fun j => L (j * 6 + 2)) k) (fun _ => L (k * 6 + 2)) 1))).heap[kk]? = y16.heap[kk]? := fun kk hk => put3_other _ _ _ _ _ hk
            obtain ⟨y17, hy17⟩ : ∃ y, ((y16.setCell ⟨y0.heap.size, 0, none⟩ (.int .i64 (foldN min (foldN min f0 (fun j => L (j * 6)) k) (fun _ => L (k * 6)) 1))).setCell ⟨y0.heap.size, 1, none⟩ (.int .i64 (foldN min (foldN min f1 (fun j => L (j * 6 + 1)) k) (fun _ => L (k * 6 + 1)) 1))).setCell ⟨y0.heap.size, 2, none⟩ (.int .i64 (foldN min (foldN min f2 (fun j => L (j * 6 + 2)) k) (fun _ => L (k * 6 + 2)) 1)) = y := ⟨_, rfl⟩
            rw [hy17] at hN HUx hO ⊢
            clear hy17
            have HU17 := Lib.hid HUx
            clear HUx
            have hr17_0 := (hO _ (by omega)).trans hr16_0
            have hr17_1 := hN
            have hr17_2 := (hO _ (by omega)).trans hr16_2
            have hr17_3 := (hO _ (by omega)).trans hr16_3
            have hr17_4 := (hO _ (by omega)).trans hr16_4
            clear hN
            refine Ol.past hK (by kernel_rfl) _ _ ?_
            clear hK K
            refine Ol.way_plain (i := 14) (v := ?_) rfl (by kernel_rfl) (by kernel_rfl) (by kernel_rfl) (fun _ _ _ h => h) (by decide) (Or.inl ⟨by kernel_rfl, by (intro wz _; go_simp; try with_reducible rfl)⟩) (Ol.off (by kernel_rfl)) ?_
            go_simp
            refine Ol.way_ready (rs := [15]) (by kernel_rfl) (by simp) ?_
            refine Ol.Each.cons rfl (fun K hK => ?_) Ol.Each.nil
            have p0 := cell_of_row _ _ 0 _ _ _ hr17_1
            have p1 := cell_of_row _ _ 1 _ _ _ hr17_1
            have p2 := cell_of_row _ _ 2 _ _ _ hr17_1
            have p3 := cell_of_row _ _ 3 _ _ _ hr17_1
            have p4 := cell_of_row _ _ 4 _ _ _ hr17_1
            have p5 := cell_of_row _ _ 5 _ _ _ hr17_1
            simp at p0 p1 p2 p3 p4 p5
            have fz : ∀ j, y17.frozen? ⟨y0.heap.size, j, none⟩ = false := fun j => by simp [World.frozen?, hr17_1]
            go_simp
            clear fz p0 p1 p2 p3 p4 p5
            have hN : (((y17.setCell ⟨y0.heap.size, 3, none⟩ (.int .i64 (foldN max (foldN max f3 (fun j => L (j * 6 + 3)) k) (fun _ => L (k * 6 + 3)) 1))).setCell ⟨y0.heap.size, 4, none⟩ (.int .i64 (foldN max (foldN max f4 (fun j => L (j * 6 + 4)) k) (fun _ => L (k * 6 + 4)) 1))).setCell ⟨y0.heap.size, 5, none⟩ (.int .i64 (foldN max (foldN max f5 (fun j => L (j * 6 + 5)) k) (fun _ => L (k * 6 + 5)) 1))).heap[y0.heap.size]? = some (.cells #[.int .i64 (foldN min (foldN min f0 (fun j => L (j * 6)) k) (fun _ => L (k * 6)) 1), .int .i64 (foldN min (foldN min f1 (fun j => L (j * 6 + 1)) k) (fun _ => L (k * 6 + 1)) 1), .int .i64 (foldN min (foldN min f2 (fun j => L (j * 6 + 2)) k) (fun _ => L (k * 6 + 2)) 1), .int .i64 (foldN max (foldN max f3 (fun j => L (j * 6 + 3)) k) (fun _ => L (k * 6 + 3)) 1), .int .i64 (foldN max (foldN max f4 (fun j => L (j * 6 + 4)) k) (fun _ => L (k * 6 + 4)) 1), .int .i64 (foldN max (foldN max f5 (fun j => L (j * 6 + 5)) k) (fun _ => L (k * 6 + 5)) 1)] 41 (0, 0)) := part3 hr17_1 _ _ _ rfl
            have hsz := HU17.out.size
            have HUx := below_put3o (k := y0.heap.size) (o := 3) HU17.out (by first | omega | (simp at *; omega)) (.int .i64 (foldN max (foldN max f3 (fun j => L (j * 6 + 3)) k) (fun _ => L (k * 6 + 3)) 1)) (.int .i64 (foldN max (foldN max f4 (fun j => L (j * 6 + 4)) k) (fun _ => L (k * 6 + 4)) 1)) (.int .i64 (foldN max (foldN max f5 (fun j => L (j * 6 + 5)) k) (fun _ => L (k * 6 + 5)) 1))
            have hO : ∀ kk, kk ≠ y0.heap.size → (((y17.setCell ⟨y0.heap.size, 3, none⟩ (.int .i64 (foldN max (foldN max f3 (fun j => L (j * 6 + 3)) k) (fun _ => L (k * 6 + 3)) 1))).setCell ⟨y0.heap.size, 4, none⟩ (.int .i64 (foldN max (foldN max f4 (fun j => L (j * 6 + 4)) k) (fun _ => L (k * 6 + 4)) 1))).setCell ⟨y0.heap.size, 5, none⟩ (.int .i64 (foldN max (foldN max f5 (fun j => L (j * 6 + 5)) k) (fun _ => L (k * 6 + 5)) 1))).heap[kk]? = y17.heap[kk]? := fun kk hk => put3_other _ _ _ _ _ hk
            obtain ⟨y18, hy18⟩ : ∃ y, ((y17.setCell ⟨y0.heap.size, 3, none⟩ (.int .i64 (foldN max (foldN max f3 (fun j => L (j * 6 + 3)) k) (fun _ => L (k * 6 + 3)) 1))).setCell ⟨y0.heap.size, 4, none⟩ (.int .i64 (foldN max (foldN max f4 (fun j => L (j * 6 + 4)) k) (fun _ => L (k * 6 + 4)) 1))).setCell ⟨y0.heap.size, 5, none⟩ (.int .i64 (foldN max (foldN max f5 (fun j => L (j * 6 + 5)) k) (fun _ => L (k * 6 + 5)) 1)) = y := ⟨_, rfl⟩
            rw [hy18] at hN HUx hO ⊢
            clear hy18
            have HU18 := Lib.hid HUx
            clear HUx
            have hr18_0 := (hO _ (by omega)).trans hr17_0
            have hr18_1 := hN
            have hr18_2 := (hO _ (by omega)).trans hr17_2
            have hr18_3 := (hO _ (by omega)).trans hr17_3
            have hr18_4 := (hO _ (by omega)).trans hr17_4
            clear hN
            refine Ol.past hK (by kernel_rfl) _ _ ?_
            clear hK K
            refine Ol.way_done (by kernel_rfl) ?_ _
            go_wp2
            go_roundw
            case rel => exact ⟨k + 1, by omega, by go_num, hr18_1, hr18_0, HU18⟩
            case measure => simp [intOf]; omega
          · skip
            go_simp
            have hb14 := below_n1 y13 (.cells #[.int .i64 (L (k * 6 + 3)), .int .i64 (L (k * 6 + 4)), .int .i64 (L (k * 6 + 5))] 39)
            have hN := heap_alloc_last y13 (.cells #[.int .i64 (L (k * 6 + 3)), .int .i64 (L (k * 6 + 4)), .int .i64 (L (k * 6 + 5))] 39)
            obtain ⟨y14, hy14⟩ : ∃ y, y13.alloc (.cells #[.int .i64 (L (k * 6 + 3)), .int .i64 (L (k * 6 + 4)), .int .i64 (L (k * 6 + 5))] 39) = y := ⟨_, rfl⟩
            rw [hy14] at hb14 hN ⊢
            clear hy14
            have hl14_0 := lt_heap hr13_0
            have hr14_0 := (hb14.block _ (lt_heap hr13_0)).trans hr13_0
            have hl14_1 := lt_heap hr13_1
            have hr14_1 := (hb14.block _ (lt_heap hr13_1)).trans hr13_1
            have hl14_2 := lt_heap hr13_2
            have hr14_2 := (hb14.block _ (lt_heap hr13_2)).trans hr13_2
            have hl14_3 := lt_heap hr13_3
            have hr14_3 := (hb14.block _ (lt_heap hr13_3)).trans hr13_3
            have hr14_4 := hN
            clear hN
            have HU14 := Lib.hid (HU13.out.trans (hb14.mono HU13.out.size))
            refine Ol.keep hK _ _ (⟨(hb14.block _ (lt_heap hS13l9.1)).trans hS13l9.1, (hb14.block _ (lt_heap hS13l9.2)).trans hS13l9.2⟩) (fun hS14a => ?_)
            clear hK K
            refine Ol.way_ready (rs := [5]) (by kernel_rfl) (by simp) ?_
            refine Ol.Each.cons rfl (fun K hK => ?_) Ol.Each.nil
            go_simp
            go_wp2_with (go_at_call 59; refine (least3_u _ _ _ (.slice (some ⟨y12.heap.size, 0, none⟩) 1 1) 1 (fun _ => L (k * 6)) (fun _ => L (k * 6 + 1)) (fun _ => L (k * 6 + 2)) (by omega) _ (.inr ⟨y12.heap.size, 0, 1, rfl, lt_heap hr14_3, fun j hj => by obtain rfl : j = 0 := (by omega); exact ⟨cell_of_row _ _ 0 _ _ _ hr14_3, cell_of_row _ _ 1 _ _ _ hr14_3, cell_of_row _ _ 2 _ _ _ hr14_3⟩⟩)).mono ?_; rintro e y15 ⟨rfl, hb15⟩)
            have hr15_0 := (hb15.block _ (lt_heap hr14_0)).trans hr14_0
            have hr15_1 := (hb15.block _ (lt_heap hr14_1)).trans hr14_1
            have hr15_2 := (hb15.block _ (lt_heap hr14_2)).trans hr14_2
            have hr15_3 := (hb15.block _ (lt_heap hr14_3)).trans hr14_3
            have hr15_4 := (hb15.block _ (lt_heap hr14_4)).trans hr14_4
            have HU15 := Lib.hid (HU14.out.trans (hb15.mono HU14.out.size))
            refine Ol.keep hK _ _ (⟨(hb15.block _ (lt_heap hS14a.1)).trans hS14a.1, (hb15.block _ (lt_heap hS14a.2)).trans hS14a.2⟩) (fun hS15c => ?_)
            clear hK K
            refine Ol.way_plain (i := 12) (v := ?_) rfl (by kernel_rfl) (by kernel_rfl) (by kernel_rfl) (fun _ _ _ h => h) (by decide) (Or.inl ⟨by kernel_rfl, by (intro wz _; go_simp; try with_reducible rfl)⟩) (Ol.on hS15c) ?_
            go_simp
            refine Ol.way_ready (rs := [11]) (by kernel_rfl) (by simp) ?_
            refine Ol.Each.cons rfl (fun K hK => ?_) Ol.Each.nil
            go_simp
            go_wp2_with (go_at_call 60; refine (greatest3_u _ _ _ (.slice (some ⟨y13.heap.size, 0, none⟩) 1 1) 1 (fun _ => L (k * 6 + 3)) (fun _ => L (k * 6 + 4)) (fun _ => L (k * 6 + 5)) (by omega) _ (.inr ⟨y13.heap.size, 0, 1, rfl, lt_heap hr15_4, fun j hj => by obtain rfl : j = 0 := (by omega); exact ⟨cell_of_row _ _ 0 _ _ _ hr15_4, cell_of_row _ _ 1 _ _ _ hr15_4, cell_of_row _ _ 2 _ _ _ hr15_4⟩⟩)).mono ?_; rintro e y16 ⟨rfl, hb16⟩)
            have hr16_0 := (hb16.block _ (lt_heap hr15_0)).trans hr15_0
            have hr16_1 := (hb16.block _ (lt_heap hr15_1)).trans hr15_1
            have hr16_2 := (hb16.block _ (lt_heap hr15_2)).trans hr15_2
            have hr16_3 := (hb16.block _ (lt_heap hr15_3)).trans hr15_3
            have hr16_4 := (hb16.block _ (lt_heap hr15_4)).trans hr15_4
            have HU16 := Lib.hid (HU15.out.trans (hb16.mono HU15.out.size))
            refine Ol.keep hK _ _ (⟨(hb16.block _ (lt_heap hS15c.1)).trans hS15c.1, (hb16.block _ (lt_heap hS15c.2)).trans hS15c.2⟩) (fun hS16c => ?_)
            clear hK K
            refine Ol.way_ready (rs := [13]) (by kernel_rfl) (by simp) ?_
            refine Ol.Each.cons rfl (fun K hK => ?_) Ol.Each.nil
            have p0 := cell_of_row _ _ 0 _ _ _ hr16_1
            have p1 := cell_of_row _ _ 1 _ _ _ hr16_1
            have p2 := cell_of_row _ _ 2 _ _ _ hr16_1
            have p3 := cell_of_row _ _ 3 _ _ _ hr16_1
            have p4 := cell_of_row _ _ 4 _ _ _ hr16_1
            have p5 := cell_of_row _ _ 5 _ _ _ hr16_1
            simp at p0 p1 p2 p3 p4 p5
            have fz : ∀ j, y16.frozen? ⟨y0.heap.size, j, none⟩ = false := fun j => by simp [World.frozen?, hr16_1]
            go_simp
            clear fz p0 p1 p2 p3 p4 p5
            have hN : (((y16.setCell ⟨y0.heap.size, 0, none⟩ (.int .i64 (foldN min (foldN min f0 (fun j => L (j * 6)) k) (fun _ => L (k * 6)) 1))).setCell ⟨y0.heap.size, 1, none⟩ (.int .i64 (foldN min (foldN min f1 (fun j => L (j * 6 + 1)) k) (fun _ => L (k * 6 + 1)) 1))).setCell ⟨y0.heap.size, 2, none⟩ (.int .i64 (foldN min (foldN min f2 (fun j => L (j * 6 + 2)) k) (fun _ => L (k * 6 + 2)) 1))).heap[y0.heap.size]? = some (.cells #[.int .i64 (foldN min (foldN min f0 (fun j => L (j * 6)) k) (fun _ => L (k * 6)) 1), .int .i64 (foldN min (foldN min f1 (fun j => L (j * 6 + 1)) k) (fun _ => L (k * 6 + 1)) 1), .int .i64 (foldN min (foldN min f2 (fun j => L (j * 6 + 2)) k) (fun _ => L (k * 6 + 2)) 1), .int .i64 (foldN max f3 (fun j => L (j * 6 + 3)) k), .int .i64 (foldN max f4 (fun j => L (j * 6 + 4)) k), .int .i64 (foldN max f5 (fun j => L (j * 6 + 5)) k)] 41 (0, 0)) := part3 hr16_1 _ _ _ rfl
            have hsz := HU16.out.size
            have HUx := below_put3 (k := y0.heap.size) HU16.out (by first | omega | (simp at *; omega)) (.int .i64 (foldN min (foldN min f0 (fun j => L (j * 6)) k) (fun _ => L (k * 6)) 1)) (.int .i64 (foldN min (foldN min f1 (fun j => L (j * 6 + 1)) k) (fun _ => L (k * 6 + 1)) 1)) (.int .i64 (foldN min (foldN min f2 (fun j => L (j * 6 + 2)) k) (fun _ => L (k * 6 + 2)) 1))
            have hO : ∀ kk, kk ≠ y0.heap.size → (((y16.setCell ⟨y0.heap.size, 0, none⟩ (.int .i64 (foldN min (foldN min f0 (fun j => L (j * 6)) k) (fun _ => L (k * 6)) 1))).setCell ⟨y0.heap.size, 1, none⟩ (.int .i64 (foldN min (foldN min f1 (fun j => L (j * 6 + 1)) k) (fun _ => L (k * 6 + 1)) 1))).setCell ⟨y0.heap.size, 2, none⟩ (.int .i64 (foldN min (foldN min f2 (fun j => L (j * 6 + 2)) k) (fun _ => L (k * 6 + 2)) 1))).heap[kk]? = y16.heap[kk]? := fun kk hk => put3_other _ _ _ _ _ hk
            obtain ⟨y17, hy17⟩ : ∃ y, ((y16.setCell ⟨y0.heap.size, 0, none⟩ (.int .i64 (foldN min (foldN min f0 (fun j => L (j * 6)) k) (fun _ => L (k * 6)) 1))).setCell ⟨y0.heap.size, 1, none⟩ (.int .i64 (foldN min (foldN min f1 (fun j => L (j * 6 + 1)) k) (fun _ => L (k * 6 + 1)) 1))).setCell ⟨y0.heap.size, 2, none⟩ (.int .i64 (foldN min (foldN min f2 (fun j => L (j * 6 + 2)) k) (fun _ => L (k * 6 + 2)) 1)) = y := ⟨_, rfl⟩
            rw [hy17] at hN HUx hO ⊢
            clear hy17
            have HU17 := Lib.hid HUx
            clear HUx
            have hr17_0 := (hO _ (by omega)).trans hr16_0
            have hr17_1 := hN
            have hr17_2 := (hO _ (by omega)).trans hr16_2
            have hr17_3 := (hO _ (by omega)).trans hr16_3
            have hr17_4 := (hO _ (by omega)).trans hr16_4
            clear hN
            refine Ol.past hK (by kernel_rfl) _ _ ?_
            clear hK K
            refine Ol.way_plain (i := 14) (v := ?_) rfl (by kernel_rfl) (by kernel_rfl) (by kernel_rfl) (fun _ _ _ h => h) (by decide) (Or.inl ⟨by kernel_rfl, by (intro wz _; go_simp; try with_reducible rfl)⟩) (Ol.off (by kernel_rfl)) ?_
            go_simp
            refine Ol.way_ready (rs := [15]) (by kernel_rfl) (by simp) ?_
            refine Ol.Each.cons rfl (fun K hK => ?_) Ol.Each.nil
            have p0 := cell_of_row _ _ 0 _ _ _ hr17_1
            have p1 := cell_of_row _ _ 1 _ _ _ hr17_1
            have p2 := cell_of_row _ _ 2 _ _ _ hr17_1
            have p3 := cell_of_row _ _ 3 _ _ _ hr17_1
            have p4 := cell_of_row _ _ 4 _ _ _ hr17_1
            have p5 := cell_of_row _ _ 5 _ _ _ hr17_1
            simp at p0 p1 p2 p3 p4 p5
            have fz : ∀ j, y17.frozen? ⟨y0.heap.size, j, none⟩ = false := fun j => by simp [World.frozen?, hr17_1]
            go_simp
            clear fz p0 p1 p2 p3 p4 p5
            have hN : (((y17.setCell ⟨y0.heap.size, 3, none⟩ (.int .i64 (foldN max (foldN max f3 (fun j => L (j * 6 + 3)) k) (fun _ => L (k * 6 + 3)) 1))).setCell ⟨y0.heap.size, 4, none⟩ (.int .i64 (foldN max (foldN max f4 (fun j => L (j * 6 + 4)) k) (fun _ => L (k * 6 + 4)) 1))).setCell ⟨y0.heap.size, 5, none⟩ (.int .i64 (foldN max (foldN max f5 (fun j => L (j * 6 + 5)) k) (fun _ => L (k * 6 + 5)) 1))).heap[y0.heap.size]? = some (.cells #[.int .i64 (foldN min (foldN min f0 (fun j => L (j * 6)) k) (fun _ => L (k * 6)) 1), .int .i64 (foldN min (foldN min f1 (fun j => L (j * 6 + 1)) k) (fun _ => L (k * 6 + 1)) 1), .int .i64 (foldN min (foldN min f2 (fun j => L (j * 6 + 2)) k) (fun _ => L (k * 6 + 2)) 1), .int .i64 (foldN max (foldN max f3 (fun j => L (j * 6 + 3)) k) (fun _ => L (k * 6 + 3)) 1), .int .i64 (foldN max (foldN max f4 (fun j => L (j * 6 + 4)) k) (fun _ => L (k * 6 + 4)) 1), .int .i64 (foldN max (foldN max f5 (fun j => L (j * 6 + 5)) k) (fun _ => L (k * 6 + 5)) 1)] 41 (0, 0)) := part3 hr17_1 _ _ _ rfl
            have hsz := HU17.out.size
            have HUx := below_put3o (k := y0.heap.size) (o := 3) HU17.out (by first | omega | (simp at *; omega)) (.int .i64 (foldN max (foldN max f3 (fun j => L (j * 6 + 3)) k) (fun _ => L (k * 6 + 3)) 1)) (.int .i64 (foldN max (foldN max f4 (fun j => L (j * 6 + 4)) k) (fun _ => L (k * 6 + 4)) 1)) (.int .i64 (foldN max (foldN max f5 (fun j => L (j * 6 + 5)) k) (fun _ => L (k * 6 + 5)) 1))
            have hO : ∀ kk, kk ≠ y0.heap.size → (((y17.setCell ⟨y0.heap.size, 3, none⟩ (.int .i64 (foldN max (foldN max f3 (fun j => L (j * 6 + 3)) k) (fun _ => L (k * 6 + 3)) 1))).setCell ⟨y0.heap.size, 4, none⟩ (.int .i64 (foldN max (foldN max f4 (fun j => L (j * 6 + 4)) k) (fun _ => L (k * 6 + 4)) 1))).setCell ⟨y0.heap.size, 5, none⟩ (.int .i64 (foldN max (foldN max f5 (fun j => L (j * 6 + 5)) k) (fun _ => L (k * 6 + 5)) 1))).heap[kk]? = y17.heap[kk]? := fun kk hk => put3_other _ _ _ _ _ hk
            obtain ⟨y18, hy18⟩ : ∃ y, ((y17.setCell ⟨y0.heap.size, 3, none⟩ (.int .i64 (foldN max (foldN max f3 (fun j => L (j * 6 + 3)) k) (fun _ => L (k * 6 + 3)) 1))).setCell ⟨y0.heap.size, 4, none⟩ (.int .i64 (foldN max (foldN max f4 (fun j => L (j * 6 + 4)) k) (fun _ => L (k * 6 + 4)) 1))).setCell ⟨y0.heap.size, 5, none⟩ (.int .i64 (foldN max (foldN max f5 (fun j => L (j * 6 + 5)) k) (fun _ => L (k * 6 + 5)) 1)) = y := ⟨_, rfl⟩
            rw [hy18] at hN HUx hO ⊢
            clear hy18
            have HU18 := Lib.hid HUx
            clear HUx
            have hr18_0 := (hO _ (by omega)).trans hr17_0
            have hr18_1 := hN
            have hr18_2 := (hO _ (by omega)).trans hr17_2
            have hr18_3 := (hO _ (by omega)).trans hr17_3
            have hr18_4 := (hO _ (by omega)).trans hr17_4
            clear hN
            refine Ol.past hK (by kernel_rfl) _ _ ?_
            clear hK K
            refine Ol.way_done (by kernel_rfl) ?_ _
            go_wp2
            go_roundw
            case rel => exact ⟨k + 1, by omega, by go_num, hr18_1, hr18_0, HU18⟩
            case measure => simp [intOf]; omega
      · skip
        have p0 := cell_of_row _ _ 0 _ _ _ hr12_2
        have p1 := cell_of_row _ _ 1 _ _ _ hr12_2
        have p2 := cell_of_row _ _ 2 _ _ _ hr12_2
        have p3 := cell_of_row _ _ 3 _ _ _ hr12_2
        have p4 := cell_of_row _ _ 4 _ _ _ hr12_2
        have p5 := cell_of_row _ _ 5 _ _ _ hr12_2
        simp at p0 p1 p2 p3 p4 p5
        go_simp
        clear p0 p1 p2 p3 p4 p5
        refine Ol.keep hK _ _ (hS0) (fun hS12l9 => ?_)
        clear hK K
        refine Ol.way_ready (rs := [4, 10]) (by kernel_rfl) (by simp) ?_
        refine Ol.Each.cons rfl (fun K hK => ?_) (Ol.Each.cons rfl (fun K hK => ?_) Ol.Each.nil)
        · skip
          go_simp
          have hb13 := below_n1 y12 (.cells #[.int .i64 (L (k * 6)), .int .i64 (L (k * 6 + 1)), .int .i64 (L (k * 6 + 2))] 39)
          have hN := heap_alloc_last y12 (.cells #[.int .i64 (L (k * 6)), .int .i64 (L (k * 6 + 1)), .int .i64 (L (k * 6 + 2))] 39)
          obtain ⟨y13, hy13⟩ : ∃ y, y12.alloc (.cells #[.int .i64 (L (k * 6)), .int .i64 (L (k * 6 + 1)), .int .i64 (L (k * 6 + 2))] 39) = y := ⟨_, rfl⟩
          rw [hy13] at hb13 hN ⊢
          clear hy13
          have hl13_0 := lt_heap hr12_0
          have hr13_0 := (hb13.block _ (lt_heap hr12_0)).trans hr12_0
          have hl13_1 := lt_heap hr12_1
          have hr13_1 := (hb13.block _ (lt_heap hr12_1)).trans hr12_1
          have hl13_2 := lt_heap hr12_2
          have hr13_2 := (hb13.block _ (lt_heap hr12_2)).trans hr12_2
          have hr13_3 := hN
          clear hN
          have HU13 := Lib.hid (HU12.out.trans (hb13.mono HU12.out.size))
          refine Ol.keep hK _ _ (⟨(hb13.block _ (lt_heap hS12l9.1)).trans hS12l9.1, (hb13.block _ (lt_heap hS12l9.2)).trans hS12l9.2⟩) (fun hS13a => ?_)
          clear hK K
          refine Ol.way_ready (rs := [5, 10]) (by kernel_rfl) (by simp) ?_
          refine Ol.Each.cons rfl (fun K hK => ?_) (Ol.Each.cons rfl (fun K hK => ?_) Ol.Each.nil)
          · skip
            go_simp
            go_wp2_with (go_at_call 59; refine (least3_u _ _ _ (.slice (some ⟨y12.heap.size, 0, none⟩) 1 1) 1 (fun _ => L (k * 6)) (fun _ => L (k * 6 + 1)) (fun _ => L (k * 6 + 2)) (by omega) _ (.inr ⟨y12.heap.size, 0, 1, rfl, lt_heap hr13_3, fun j hj => by obtain rfl : j = 0 := (by omega); exact ⟨cell_of_row _ _ 0 _ _ _ hr13_3, cell_of_row _ _ 1 _ _ _ hr13_3, cell_of_row _ _ 2 _ _ _ hr13_3⟩⟩)).mono ?_; rintro e y14 ⟨rfl, hb14⟩)
            have hr14_0 := (hb14.block _ (lt_heap hr13_0)).trans hr13_0
            have hr14_1 := (hb14.block _ (lt_heap hr13_1)).trans hr13_1
            have hr14_2 := (hb14.block _ (lt_heap hr13_2)).trans hr13_2
            have hr14_3 := (hb14.block _ (lt_heap hr13_3)).trans hr13_3
            have HU14 := Lib.hid (HU13.out.trans (hb14.mono HU13.out.size))
            refine Ol.keep hK _ _ (⟨(hb14.block _ (lt_heap hS13a.1)).trans hS13a.1, (hb14.block _ (lt_heap hS13a.2)).trans hS13a.2⟩) (fun hS14c => ?_)
            clear hK K
            refine Ol.way_plain (i := 12) (v := ?_) rfl (by kernel_rfl) (by kernel_rfl) (by kernel_rfl) (fun _ _ _ h => h) (by decide) (Or.inl ⟨by kernel_rfl, by (intro wz _; go_simp; try with_reducible rfl)⟩) (Ol.on hS14c) ?_
            go_simp
            refine Ol.way_ready (rs := [10]) (by kernel_rfl) (by simp) ?_
            refine Ol.Each.cons rfl (fun K hK => ?_) Ol.Each.nil
            go_simp
            have hb15 := below_n1 y14 (.cells #[.int .i64 (L (k * 6 + 3)), .int .i64 (L (k * 6 + 4)), .int .i64 (L (k * 6 + 5))] 39)
            have hN := heap_alloc_last y14 (.cells #[.int .i64 (L (k * 6 + 3)), .int .i64 (L (k * 6 + 4)), .int .i64 (L (k * 6 + 5))] 39)
            obtain ⟨y15, hy15⟩ : ∃ y, y14.alloc (.cells #[.int .i64 (L (k * 6 + 3)), .int .i64 (L (k * 6 + 4)), .int .i64 (L (k * 6 + 5))] 39) = y := ⟨_, rfl⟩
            rw [hy15] at hb15 hN ⊢
            clear hy15
            have hl15_0 := lt_heap hr14_0
            have hr15_0 := (hb15.block _ (lt_heap hr14_0)).trans hr14_0
            have hl15_1 := lt_heap hr14_1
            have hr15_1 := (hb15.block _ (lt_heap hr14_1)).trans hr14_1
            have hl15_2 := lt_heap hr14_2
            have hr15_2 := (hb15.block _ (lt_heap hr14_2)).trans hr14_2
            have hl15_3 := lt_heap hr14_3
            have hr15_3 := (hb15.block _ (lt_heap hr14_3)).trans hr14_3
            have hr15_4 := hN
            clear hN
            have HU15 := Lib.hid (HU14.out.trans (hb15.mono HU14.out.size))
            refine Ol.keep hK _ _ (⟨(hb15.block _ (lt_heap hS14c.1)).trans hS14c.1, (hb15.block _ (lt_heap hS14c.2)).trans hS14c.2⟩) (fun hS15a => ?_)
            clear hK K
            refine Ol.way_ready (rs := [11]) (by kernel_rfl) (by simp) ?_
            refine Ol.Each.cons rfl (fun K hK => ?_) Ol.Each.nil
            go_simp
            go_wp2_with (go_at_call 60; refine (greatest3_u _ _ _ (.slice (some ⟨y14.heap.size, 0, none⟩) 1 1) 1 (fun _ => L (k * 6 + 3)) (fun _ => L (k * 6 + 4)) (fun _ => L (k * 6 + 5)) (by omega) _ (.inr ⟨y14.heap.size, 0, 1, rfl, lt_heap hr15_4, fun j hj => by obtain rfl : j = 0 := (by omega); exact ⟨cell_of_row _ _ 0 _ _ _ hr15_4, cell_of_row _ _ 1 _ _ _ hr15_4, cell_of_row _ _ 2 _ _ _ hr15_4⟩⟩)).mono ?_; rintro e y16 ⟨rfl, hb16⟩)
            have hr16_0 := (hb16.block _ (lt_heap hr15_0)).trans hr15_0
            have hr16_1 := (hb16.block _ (lt_heap hr15_1)).trans hr15_1
            have hr16_2 := (hb16.block _ (lt_heap hr15_2)).trans hr15_2
            have hr16_3 := (hb16.block _ (lt_heap hr15_3)).trans hr15_3
            have hr16_4 := (hb16.block _ (lt_heap hr15_4)).trans hr15_4
            have HU16 := Lib.hid (HU15.out.trans (hb16.mono HU15.out.size))
            refine Ol.keep hK _ _ (⟨(hb16.block _ (lt_heap hS15a.1)).trans hS15a.1, (hb16.block _ (lt_heap hS15a.2)).trans hS15a.2⟩) (fun hS16c => ?_)
            clear hK K
            refine Ol.way_ready (rs := [13]) (by kernel_rfl) (by simp) ?_
            refine Ol.Each.cons rfl (fun K hK => ?_) Ol.Each.nil
            have p0 := cell_of_row _ _ 0 _ _ _ hr16_1
            have p1 := cell_of_row _ _ 1 _ _ _ hr16_1
            have p2 := cell_of_row _ _ 2 _ _ _ hr16_1
            have p3 := cell_of_row _ _ 3 _ _ _ hr16_1
            have p4 := cell_of_row _ _ 4 _ _ _ hr16_1
            have p5 := cell_of_row _ _ 5 _ _ _ hr16_1
            simp at p0 p1 p2 p3 p4 p5
            have fz : ∀ j, y16.frozen? ⟨y0.heap.size, j, none⟩ = false := fun j => by simp [World.frozen?, hr16_1]
            go_simp
            clear fz p0 p1 p2 p3 p4 p5
            have hN : (((y16.setCell ⟨y0.heap.size, 0, none⟩ (.int .i64 (foldN min (foldN min f0 (fun j => L (j * 6)) k) (fun _ => L (k * 6)) 1))).setCell ⟨y0.heap.size, 1, none⟩ (.int .i64 (foldN min (foldN min f1 (fun j => L (j * 6 + 1)) k) (fun _ => L (k * 6 + 1)) 1))).setCell ⟨y0.heap.size, 2, none⟩ (.int .i64 (foldN min (foldN min f2 (fun j => L (j * 6 + 2)) k) (fun _ => L (k * 6 + 2)) 1))).heap[y0.heap.size]? = some (.cells #[.int .i64 (foldN min (foldN min f0 (fun j => L (j * 6)) k) (fun _ => L (k * 6)) 1), .int .i64 (foldN min (foldN min f1 (fun j => L (j * 6 + 1)) k) (fun _ => L (k * 6 + 1)) 1), .int .i64 (foldN min (foldN min f2 (fun j => L (j * 6 + 2)) k) (fun _ => L (k * 6 + 2)) 1), .int .i64 (foldN max f3 (fun j => L (j * 6 + 3)) k), .int .i64 (foldN max f4 (fun j => L (j * 6 + 4)) k), .int .i64 (foldN max f5 (fun j => L (j * 6 + 5)) k)] 41 (0, 0)) := part3 hr16_1 _ _ _ rfl
            have hsz := HU16.out.size
            have HUx := below_put3 (k := y0.heap.size) HU16.out (by first | omega | (simp at *; omega)) (.int .i64 (foldN min (foldN min f0 (fun j => L (j * 6)) k) (fun _ => L (k * 6)) 1)) (.int .i64 (foldN min (foldN min f1 (fun j => L (j * 6 + 1)) k) (fun _ => L (k * 6 + 1)) 1)) (.int .i64 (foldN min (foldN min f2 (fun j => L (j * 6 + 2)) k) (fun _ => L (k * 6 + 2)) 1))
            have hO : ∀ kk, kk ≠ y0.heap.size → (((y16.setCell ⟨y0.heap.size, 0, none⟩ (.int .i64 (foldN min (foldN min f0 (fun j => L (j * 6)) k) (fun _ => L (k * 6)) 1))).setCell ⟨y0.heap.size, 1, none⟩ (.int .i64 (foldN min (foldN min f1 (fun j => L (j * 6 + 1)) k) (fun _ => L (k * 6 + 1)) 1))).setCell ⟨y0.heap.size, 2, none⟩ (.int .i64 (foldN min (foldN min f2 (fun j => L (j * 6 + 2)) k) (fun _ => L (k * 6 + 2)) 1))).heap[kk]? = y16.heap[kk]? := fun kk hk => put3_other _ _ _ _ _ hk
            obtain ⟨y17, hy17⟩ : ∃ y, ((y16.setCell ⟨y0.heap.size, 0, none⟩ (.int .i64 (foldN min (foldN min f0 (fun j => L (j * 6)) k) (fun _ => L (k * 6)) 1))).setCell ⟨y0.heap.size, 1, none⟩ (.int .i64 (foldN min (foldN min f1 (fun j => L (j * 6 + 1)) k) (fun _ => L (k * 6 + 1)) 1))).setCell ⟨y0.heap.size, 2, none⟩ (.int .i64 (foldN min (foldN min f2 (fun j => L (j * 6 + 2)) k) (fun _ => L (k * 6 + 2)) 1)) = y := ⟨_, rfl⟩
            rw [hy17] at hN HUx hO ⊢
            clear hy17
            have HU17 := Lib.hid HUx
            clear HUx
            have hr17_0 := (hO _ (by omega)).trans hr16_0
            have hr17_1 := hN
            have hr17_2 := (hO _ (by omega)).trans hr16_2
            have hr17_3 := (hO _ (by omega)).trans hr16_3
            have hr17_4 := (hO _ (by omega)).trans hr16_4
            clear hN
            refine Ol.past hK (by kernel_rfl) _ _ ?_
            clear hK K
            refine Ol.way_plain (i := 14) (v := ?_) rfl (by kernel_rfl) (by kernel_rfl) (by kernel_rfl) (fun _ _ _ h => h) (by decide) (Or.inl ⟨by kernel_rfl, by (intro wz _; go_simp; try with_reducible rfl)⟩) (Ol.off (by kernel_rfl)) ?_
            go_simp
            refine Ol.way_ready (rs := [15]) (by kernel_rfl) (by simp) ?_
            refine Ol.Each.cons rfl (fun K hK => ?_) Ol.Each.nil
            have p0 := cell_of_row _ _ 0 _ _ _ hr17_1
            have p1 := cell_of_row _ _ 1 _ _ _ hr17_1
            have p2 := cell_of_row _ _ 2 _ _ _ hr17_1
            have p3 := cell_of_row _ _ 3 _ _ _ hr17_1
            have p4 := cell_of_row _ _ 4 _ _ _ hr17_1
            have p5 := cell_of_row _ _ 5 _ _ _ hr17_1
            simp at p0 p1 p2 p3 p4 p5
            have fz : ∀ j, y17.frozen? ⟨y0.heap.size, j, none⟩ = false := fun j => by simp [World.frozen?, hr17_1]
            go_simp
            clear fz p0 p1 p2 p3 p4 p5
            have hN : (((y17.setCell ⟨y0.heap.size, 3, none⟩ (.int .i64 (foldN max (foldN max f3 (fun j => L (j * 6 + 3)) k) (fun _ => L (k * 6 + 3)) 1))).setCell ⟨y0.heap.size, 4, none⟩ (.int .i64 (foldN max (foldN max f4 (fun j => L (j * 6 + 4)) k) (fun _ => L (k * 6 + 4)) 1))).setCell ⟨y0.heap.size, 5, none⟩ (.int .i64 (foldN max (foldN max f5 (fun j => L (j * 6 + 5)) k) (fun _ => L (k * 6 + 5)) 1))).heap[y0.heap.size]? = some (.cells #[.int .i64 (foldN min (foldN min f0 (fun j => L (j * 6)) k) (fun _ => L (k * 6)) 1), .int .i64 (foldN min (foldN min f1 (fun j => L (j * 6 + 1)) k) (fun _ => L (k * 6 + 1)) 1), .int .i64 (foldN min (foldN min f2 (fun j => L (j * 6 + 2)) k) (fun _ => L (k * 6 + 2)) 1), .int .i64 (foldN max (foldN max f3 (fun j => L (j * 6 + 3)) k) (fun _ => L (k * 6 + 3)) 1), .int .i64 (foldN max (foldN max f4 (fun j => L (j * 6 + 4)) k) (fun _ => L (k * 6 + 4)) 1), .int .i64 (foldN max (foldN max f5 (fun j => L (j * 6 + 5)) k) (fun _ => L (k * 6 + 5)) 1)] 41 (0, 0)) := part3 hr17_1 _ _ _ rfl
            have hsz := HU17.out.size
            have HUx := below_put3o (k := y0.heap.size) (o := 3) HU17.out (by first | omega | (simp at *; omega)) (.int .i64 (foldN max (foldN max f3 (fun j => L (j * 6 + 3)) k) (fun _ => L (k * 6 + 3)) 1)) (.int .i64 (foldN max (foldN max f4 (fun j => L (j * 6 + 4)) k) (fun _ => L (k * 6 + 4)) 1)) (.int .i64 (foldN max (foldN max f5 (fun j => L (j * 6 + 5)) k) (fun _ => L (k * 6 + 5)) 1))
            have hO : ∀ kk, kk ≠ y0.heap.size → (((y17.setCell ⟨y0.heap.size, 3, none⟩ (.int .i64 (foldN max (foldN max f3 (fun j => L (j * 6 + 3)) k) (fun _ => L (k * 6 + 3)) 1))).setCell ⟨y0.heap.size, 4, none⟩ (.int .i64 (foldN max (foldN max f4 (fun j => L (j * 6 + 4)) k) (fun _ => L (k * 6 + 4)) 1))).setCell ⟨y0.heap.size, 5, none⟩ (.int .i64 (foldN max (foldN max f5 (fun j => L (j * 6 + 5)) k) (fun _ => L (k * 6 + 5)) 1))).heap[kk]? = y17.heap[kk]? := fun kk hk => put3_other _ _ _ _ _ hk
            obtain ⟨y18, hy18⟩ : ∃ y, ((y17.setCell ⟨y0.heap.size, 3, none⟩ (.int .i64 (foldN max (foldN max f3 (fun j => L (j * 6 + 3)) k) (fun _ => L (k * 6 + 3)) 1))).setCell ⟨y0.heap.size, 4, none⟩ (.int .i64 (foldN max (foldN max f4 (fun j => L (j * 6 + 4)) k) (fun _ => L (k * 6 + 4)) 1))).setCell ⟨y0.heap.size, 5, none⟩ (.int .i64 (foldN max (foldN max f5 (fun j => L (j * 6 + 5)) k) (fun _ => L (k * 6 + 5)) 1)) = y := ⟨_, rfl⟩
            rw [hy18] at hN HUx hO ⊢
            clear hy18
            have HU18 := Lib.hid HUx
            clear HUx
            have hr18_0 := (hO _ (by omega)).trans hr17_0
            have hr18_1 := hN
            have hr18_2 := (hO _ (by omega)).trans hr17_2
            have hr18_3 := (hO _ (by omega)).trans hr17_3
            have hr18_4 := (hO _ (by omega)).trans hr17_4
            clear hN
            refine Ol.past hK (by kernel_rfl) _ _ ?_
            clear hK K
            refine Ol.way_done (by kernel_rfl) ?_ _
            go_wp2
            go_roundw
            case rel => exact ⟨k + 1, by omega, by go_num, hr18_1, hr18_0, HU18⟩
            case measure => simp [intOf]; omega
          · skip
            go_simp
            have hb14 := below_n1 y13 (.cells #[.int .i64 (L (k * 6 + 3)), .int .i64 (L (k * 6 + 4)), .int .i64 (L (k * 6 + 5))] 39)
            have hN := heap_alloc_last y13 (.cells #[.int .i64 (L (k * 6 + 3)), .int .i64 (L (k * 6 + 4)), .int .i64 (L (k * 6 + 5))] 39)
            obtain ⟨y14, hy14⟩ : ∃ y, y13.alloc (.cells #[.int .i64 (L (k * 6 + 3)), .int .i64 (L (k * 6 + 4)), .int .i64 (L (k * 6 + 5))] 39) = y := ⟨_, rfl⟩
            rw [hy14] at hb14 hN ⊢
            clear hy14
            have hl14_0 := lt_heap hr13_0
            have hr14_0 := (hb14.block _ (lt_heap hr13_0)).trans hr13_0
            have hl14_1 := lt_heap hr13_1
            have hr14_1 := (hb14.block _ (lt_heap hr13_1)).trans hr13_1
            have hl14_2 := lt_heap hr13_2
            have hr14_2 := (hb14.block _ (lt_heap hr13_2)).trans hr13_2
            have hl14_3 := lt_heap hr13_3
            have hr14_3 := (hb14.block _ (lt_heap hr13_3)).trans hr13_3
            have hr14_4 := hN
            clear hN
            have HU14 := Lib.hid (HU13.out.trans (hb14.mono HU13.out.size))
            refine Ol.keep hK _ _ (⟨(hb14.block _ (lt_heap hS13a.1)).trans hS13a.1, (hb14.block _ (lt_heap hS13a.2)).trans hS13a.2⟩) (fun hS14a => ?_)
            clear hK K
            refine Ol.way_ready (rs := [5]) (by kernel_rfl) (by simp) ?_
            refine Ol.Each.cons rfl (fun K hK => ?_) Ol.Each.nil
            go_simp
            go_wp2_with (go_at_call 59; refine (least3_u _ _ _ (.slice (some ⟨y12.heap.size, 0, none⟩) 1 1) 1 (fun _ => L (k * 6)) (fun _ => L (k * 6 + 1)) (fun _ => L (k * 6 + 2)) (by omega) _ (.inr ⟨y12.heap.size, 0, 1, rfl, lt_heap hr14_3, fun j hj => by obtain rfl : j = 0 := (by omega); exact ⟨cell_of_row _ _ 0 _ _ _ hr14_3, cell_of_row _ _ 1 _ _ _ hr14_3, cell_of_row _ _ 2 _ _ _ hr14_3⟩⟩)).mono ?_; rintro e y15 ⟨rfl, hb15⟩)
            have hr15_0 := (hb15.block _ (lt_heap hr14_0)).trans hr14_0
            have hr15_1 := (hb15.block _ (lt_heap hr14_1)).trans hr14_1
            have hr15_2 := (hb15.block _ (lt_heap hr14_2)).trans hr14_2
            have hr15_3 := (hb15.block _ (lt_heap hr14_3)).trans hr14_3
            have hr15_4 := (hb15.block _ (lt_heap hr14_4)).trans hr14_4
            have HU15 := Lib.hid (HU14.out.trans (hb15.mono HU14.out.size))
            refine Ol.keep hK _ _ (⟨(hb15.block _ (lt_heap hS14a.1)).trans hS14a.1, (hb15.block _ (lt_heap hS14a.2)).trans hS14a.2⟩) (fun hS15c => ?_)
            clear hK K
            refine Ol.way_plain (i := 12) (v := ?_) rfl (by kernel_rfl) (by kernel_rfl) (by kernel_rfl) (fun _ _ _ h => h) (by decide) (Or.inl ⟨by kernel_rfl, by (intro wz _; go_simp; try with_reducible rfl)⟩) (Ol.on hS15c) ?_
            go_simp
            refine Ol.way_ready (rs := [11]) (by kernel_rfl) (by simp) ?_
            refine Ol.Each.cons rfl (fun K hK => ?_) Ol.Each.nil
            go_simp
            go_wp2_with (go_at_call 60; refine (greatest3_u _ _ _ (.slice (some ⟨y13.heap.size, 0, none⟩) 1 1) 1 (fun _ => L (k * 6 + 3)) (fun _ => L (k * 6 + 4)) (fun _ => L (k * 6 + 5)) (by omega) _ (.inr ⟨y13.heap.size, 0, 1, rfl, lt_heap hr15_4, fun j hj => by obtain rfl : j = 0 := (by omega); exact ⟨cell_of_row _ _ 0 _ _ _ hr15_4, cell_of_row _ _ 1 _ _ _ hr15_4, cell_of_row _ _ 2 _ _ _ hr15_4⟩⟩)).mono ?_; rintro e y16 ⟨rfl, hb16⟩)
            have hr16_0 := (hb16.block _ (lt_heap hr15_0)).trans hr15_0
            have hr16_1 := (hb16.block _ (lt_heap hr15_1)).trans hr15_1
            have hr16_2 := (hb16.block _ (lt_heap hr15_2)).trans hr15_2
            have hr16_3 := (hb16.block _ (lt_heap hr15_3)).trans hr15_3
            have hr16_4 := (hb16.block _ (lt_heap hr15_4)).trans hr15_4
            have HU16 := Lib.hid (HU15.out.trans (hb16.mono HU15.out.size))
            refine Ol.keep hK _ _ (⟨(hb16.block _ (lt_heap hS15c.1)).trans hS15c.1, (hb16.block _ (lt_heap hS15c.2)).trans hS15c.2⟩) (fun hS16c => ?_)
            clear hK K
            refine Ol.way_ready (rs := [13]) (by kernel_rfl) (by simp) ?_
            refine Ol.Each.cons rfl (fun K hK => ?_) Ol.Each.nil
            have p0 := cell_of_row _ _ 0 _ _ _ hr16_1
            have p1 := cell_of_row _ _ 1 _ _ _ hr16_1
            have p2 := cell_of_row _ _ 2 _ _ _ hr16_1
            have p3 := cell_of_row _ _ 3 _ _ _ hr16_1
            have p4 := cell_of_row _ _ 4 _ _ _ hr16_1
            have p5 := cell_of_row _ _ 5 _ _ _ hr16_1
            simp at p0 p1 p2 p3 p4 p5
            have fz : ∀ j, y16.frozen? ⟨y0.heap.size, j, none⟩ = false := fun j => by simp [World.frozen?, hr16_1]
            go_simp
            clear fz p0 p1 p2 p3 p4 p5
            have hN : (((y16.setCell ⟨y0.heap.size, 0, none⟩ (.int .i64 (foldN min (foldN min f0 (fun j => L (j * 6)) k) (fun _ => L (k * 6)) 1))).setCell ⟨y0.heap.size, 1, none⟩ (.int .i64 (foldN min (foldN min f1 (fun j => L (j * 6 + 1)) k) (fun _ => L (k * 6 + 1)) 1))).setCell ⟨y0.heap.size, 2, none⟩ (.int .i64 (foldN min (foldN min f2 (fun j => L (j * 6 + 2)) k) (fun _ => L (k * 6 + 2)) 1))).heap[y0.heap.size]? = some (.cells #[.int .i64 (foldN min (foldN min f0 (fun j => L (j * 6)) k) (fun _ => L (k * 6)) 1), .int .i64 (foldN min (foldN min f1 (fun j => L (j * 6 + 1)) k) (fun _ => L (k * 6 + 1)) 1), .int .i64 (foldN min (foldN min f2 (fun j => L (j * 6 + 2)) k) (fun _ => L (k * 6 + 2)) 1), .int .i64 (foldN max f3 (fun j => L (j * 6 + 3)) k), .int .i64 (foldN max f4 (fun j => L (j * 6 + 4)) k), .int .i64 (foldN max f5 (fun j => L (j * 6 + 5)) k)] 41 (0, 0)) := part3 hr16_1 _ _ _ rfl
            have hsz := HU16.out.size
            have HUx := below_put3 (k := y0.heap.size) HU16.out (by first | omega | (simp at *; omega)) (.int .i64 (foldN min (foldN min f0 (fun j => L (j * 6)) k) (fun _ => L (k * 6)) 1)) (.int .i64 (foldN min (foldN min f1 (fun j => L (j * 6 + 1)) k) (fun _ => L (k * 6 + 1)) 1)) (.int .i64 (foldN min (foldN min f2 (fun j => L (j * 6 + 2)) k) (fun _ => L (k * 6 + 2)) 1))
            have hO : ∀ kk, kk ≠ y0.heap.size → (((y16.setCell ⟨y0.heap.size, 0, none⟩ (.int .i64 (foldN min (foldN min f0 (fun j => L (j * 6)) k) (fun _ => L (k * 6)) 1))).setCell ⟨y0.heap.size, 1, none⟩ (.int .i64 (foldN min (foldN min f1 (fun j => L (j * 6 + 1)) k) (fun _ => L (k * 6 + 1)) 1))).setCell ⟨y0.heap.size, 2, none⟩ (.int .i64 (foldN min (foldN min f2 (fun j => L (j * 6 + 2)) k) (fun _ => L (k * 6 + 2)) 1))).heap[kk]? = y16.heap[kk]? := fun kk hk => put3_other _ _ _ _ _ hk
            obtain ⟨y17, hy17⟩ : ∃ y, ((y16.setCell ⟨y0.heap.size, 0, none⟩ (.int .i64 (foldN min (foldN min f0 (fun j => L (j * 6)) k) (fun _ => L (k * 6)) 1))).setCell ⟨y0.heap.size, 1, none⟩ (.int .i64 (foldN min (foldN min f1 (fun j => L (j * 6 + 1)) k) (fun _ => L (k * 6 + 1)) 1))).setCell ⟨y0.heap.size, 2, none⟩ (.int .i64 (foldN min (foldN min f2 (fun j => L (j * 6 + 2)) k) (fun _ => L (k * 6 + 2)) 1)) = y := ⟨_, rfl⟩
            rw [hy17] at hN HUx hO ⊢
            clear hy17
            have HU17 := Lib.hid HUx
            clear HUx
            have hr17_0 := (hO _ (by omega)).trans hr16_0
            have hr17_1 := hN
            have hr17_2 := (hO _ (by omega)).trans hr16_2
            have hr17_3 := (hO _ (by omega)).trans hr16_3
            have hr17_4 := (hO _ (by omega)).trans hr16_4
            clear hN
            refine Ol.past hK (by kernel_rfl) _ _ ?_
            clear hK K
            refine Ol.way_plain (i := 14) (v := ?_) rfl (by kernel_rfl) (by kernel_rfl) (by kernel_rfl) (fun _ _ _ h => h) (by decide) (Or.inl ⟨by kernel_rfl, by (intro wz _; go_simp; try with_reducible rfl)⟩) (Ol.off (by kernel_rfl)) ?_
            go_simp
            refine Ol.way_ready (rs := [15]) (by kernel_rfl) (by simp) ?_
            refine Ol.Each.cons rfl (fun K hK => ?_) Ol.Each.nil
            have p0 := cell_of_row _ _ 0 _ _ _ hr17_1
            have p1 := cell_of_row _ _ 1 _ _ _ hr17_1
            have p2 := cell_of_row _ _ 2 _ _ _ hr17_1
            have p3 := cell_of_row _ _ 3 _ _ _ hr17_1
            have p4 := cell_of_row _ _ 4 _ _ _ hr17_1
            have p5 := cell_of_row _ _ 5 _ _ _ hr17_1
            simp at p0 p1 p2 p3 p4 p5
            have fz : ∀ j, y17.frozen? ⟨y0.heap.size, j, none⟩ = false := fun j => by simp [World.frozen?, hr17_1]
            go_simp
            clear fz p0 p1 p2 p3 p4 p5
            have hN : (((y17.setCell ⟨y0.heap.size, 3, none⟩ (.int .i64 (foldN max (foldN max f3 (fun j => L (j * 6 + 3)) k) (fun _ => L (k * 6 + 3)) 1))).setCell ⟨y0.heap.size, 4, none⟩ (.int .i64 (foldN max (foldN max f4 (fun j => L (j * 6 + 4)) k) (fun _ => L (k * 6 + 4)) 1))).setCell ⟨y0.heap.size, 5, none⟩ (.int .i64 (foldN max (foldN max f5 (fun j => L (j * 6 + 5)) k) (fun _ => L (k * 6 + 5)) 1))).heap[y0.heap.size]? = some (.cells #[.int .i64 (foldN min (foldN min f0 (fun j => L (j * 6)) k) (fun _ => L (k * 6)) 1), .int .i64 (foldN min (foldN min f1 (fun j => L (j * 6 + 1)) k) (fun _ => L (k * 6 + 1)) 1), .int .i64 (foldN min (foldN min f2 (fun j => L (j * 6 + 2)) k) (fun _ => L (k * 6 + 2)) 1), .int .i64 (foldN max (foldN max f3 (fun j => L (j * 6 + 3)) k) (fun _ => L (k * 6 + 3)) 1), .int .i64 (foldN max (foldN max f4 (fun j => L (j * 6 + 4)) k) (fun _ => L (k * 6 + 4)) 1), .int .i64 (foldN max (foldN max f5 (fun j => L (j * 6 + 5)) k) (fun _ => L (k * 6 + 5)) 1)] 41 (0, 0)) := part3 hr17_1 _ _ _ rfl
            have hsz := HU17.out.size
            have HUx := below_put3o (k := y0.heap.size) (o := 3) HU17.out (by first | omega | (simp at *; omega)) (.int .i64 (foldN max (foldN max f3 (fun j => L (j * 6 + 3)) k) (fun _ => L (k * 6 + 3)) 1)) (.int .i64 (foldN max (foldN max f4 (fun j => L (j * 6 + 4)) k) (fun _ => L (k * 6 + 4)) 1)) (.int .i64 (foldN max (foldN max f5 (fun j => L (j * 6 + 5)) k) (fun _ => L (k * 6 + 5)) 1))
            have hO : ∀ kk, kk ≠ y0.heap.size → (((y17.setCell ⟨y0.heap.size, 3, none⟩ (.int .i64 (foldN max (foldN max f3 (fun j => L (j * 6 + 3)) k) (fun _ => L (k * 6 + 3)) 1))).setCell ⟨y0.heap.size, 4, none⟩ (.int .i64 (foldN max (foldN max f4 (fun j => L (j * 6 + 4)) k) (fun _ => L (k * 6 + 4)) 1))).setCell ⟨y0.heap.size, 5, none⟩ (.int .i64 (foldN max (foldN max f5 (fun j => L (j * 6 + 5)) k) (fun _ => L (k * 6 + 5)) 1))).heap[kk]? = y17.heap[kk]? := fun kk hk => put3_other _ _ _ _ _ hk
            obtain ⟨y18, hy18⟩ : ∃ y, ((y17.setCell ⟨y0.heap.size, 3, none⟩ (.int .i64 (foldN max (foldN max f3 (fun j => L (j * 6 + 3)) k) (fun _ => L (k * 6 + 3)) 1))).setCell ⟨y0.heap.size, 4, none⟩ (.int .i64 (foldN max (foldN max f4 (fun j => L (j * 6 + 4)) k) (fun _ => L (k * 6 + 4)) 1))).setCell ⟨y0.heap.size, 5, none⟩ (.int .i64 (foldN max (foldN max f5 (fun j => L (j * 6 + 5)) k) (fun _ => L (k * 6 + 5)) 1)) = y := ⟨_, rfl⟩
            rw [hy18] at hN HUx hO ⊢
            clear hy18
            have HU18 := Lib.hid HUx
            clear HUx
            have hr18_0 := (hO _ (by omega)).trans hr17_0
            have hr18_1 := hN
            have hr18_2 := (hO _ (by omega)).trans hr17_2
            have hr18_3 := (hO _ (by omega)).trans hr17_3
            have hr18_4 := (hO _ (by omega)).trans hr17_4
            clear hN
            refine Ol.past hK (by kernel_rfl) _ _ ?_
            clear hK K
            refine Ol.way_done (by kernel_rfl) ?_ _
            go_wp2
            go_roundw
            case rel => exact ⟨k + 1, by omega, by go_num, hr18_1, hr18_0, HU18⟩
            case measure => simp [intOf]; omega
        · skip
          go_simp
          have hb13 := below_n1 y12 (.cells #[.int .i64 (L (k * 6 + 3)), .int .i64 (L (k * 6 + 4)), .int .i64 (L (k * 6 + 5))] 39)
          have hN := heap_alloc_last y12 (.cells #[.int .i64 (L (k * 6 + 3)), .int .i64 (L (k * 6 + 4)), .int .i64 (L (k * 6 + 5))] 39)
          obtain ⟨y13, hy13⟩ : ∃ y, y12.alloc (.cells #[.int .i64 (L (k * 6 + 3)), .int .i64 (L (k * 6 + 4)), .int .i64 (L (k * 6 + 5))] 39) = y := ⟨_, rfl⟩
          rw [hy13] at hb13 hN ⊢
          clear hy13
          have hl13_0 := lt_heap hr12_0
          have hr13_0 := (hb13.block _ (lt_heap hr12_0)).trans hr12_0
          have hl13_1 := lt_heap hr12_1
          have hr13_1 := (hb13.block _ (lt_heap hr12_1)).trans hr12_1
          have hl13_2 := lt_heap hr12_2
          have hr13_2 := (hb13.block _ (lt_heap hr12_2)).trans hr12_2
          have hr13_3 := hN
          clear hN
          have HU13 := Lib.hid (HU12.out.trans (hb13.mono HU12.out.size))
          refine Ol.keep hK _ _ (⟨(hb13.block _ (lt_heap hS12l9.1)).trans hS12l9.1, (hb13.block _ (lt_heap hS12l9.2)).trans hS12l9.2⟩) (fun hS13a => ?_)
          clear hK K
          refine Ol.way_ready (rs := [4]) (by kernel_rfl) (by simp) ?_
          refine Ol.Each.cons rfl (fun K hK => ?_) Ol.Each.nil
          go_simp
          have hb14 := below_n1 y13 (.cells #[.int .i64 (L (k * 6)), .int .i64 (L (k * 6 + 1)), .int .i64 (L (k * 6 + 2))] 39)
          have hN := heap_alloc_last y13 (.cells #[.int .i64 (L (k * 6)), .int .i64 (L (k * 6 + 1)), .int .i64 (L (k * 6 + 2))] 39)
          obtain ⟨y14, hy14⟩ : ∃ y, y13.alloc (.cells #[.int .i64 (L (k * 6)), .int .i64 (L (k * 6 + 1)), .int .i64 (L (k * 6 + 2))] 39) = y := ⟨_, rfl⟩
          rw [hy14] at hb14 hN ⊢
          clear hy14
          have hl14_0 := lt_heap hr13_0
          have hr14_0 := (hb14.block _ (lt_heap hr13_0)).trans hr13_0
          have hl14_1 := lt_heap hr13_1
          have hr14_1 := (hb14.block _ (lt_heap hr13_1)).trans hr13_1
          have hl14_2 := lt_heap hr13_2
          have hr14_2 := (hb14.block _ (lt_heap hr13_2)).trans hr13_2
          have hl14_3 := lt_heap hr13_3
          have hr14_3 := (hb14.block _ (lt_heap hr13_3)).trans hr13_3
          have hr14_4 := hN
          clear hN
          have HU14 := Lib.hid (HU13.out.trans (hb14.mono HU13.out.size))
          refine Ol.keep hK _ _ (⟨(hb14.block _ (lt_heap hS13a.1)).trans hS13a.1, (hb14.block _ (lt_heap hS13a.2)).trans hS13a.2⟩) (fun hS14a => ?_)
          clear hK K
          refine Ol.way_ready (rs := [5]) (by kernel_rfl) (by simp) ?_
          refine Ol.Each.cons rfl (fun K hK => ?_) Ol.Each.nil
          go_simp
          go_wp2_with (go_at_call 59; refine (least3_u _ _ _ (.slice (some ⟨y13.heap.size, 0, none⟩) 1 1) 1 (fun _ => L (k * 6)) (fun _ => L (k * 6 + 1)) (fun _ => L (k * 6 + 2)) (by omega) _ (.inr ⟨y13.heap.size, 0, 1, rfl, lt_heap hr14_4, fun j hj => by obtain rfl : j = 0 := (by omega); exact ⟨cell_of_row _ _ 0 _ _ _ hr14_4, cell_of_row _ _ 1 _ _ _ hr14_4, cell_of_row _ _ 2 _ _ _ hr14_4⟩⟩)).mono ?_; rintro e y15 ⟨rfl, hb15⟩)
          have hr15_0 := (hb15.block _ (lt_heap hr14_0)).trans hr14_0
          have hr15_1 := (hb15.block _ (lt_heap hr14_1)).trans hr14_1
          have hr15_2 := (hb15.block _ (lt_heap hr14_2)).trans hr14_2
          have hr15_3 := (hb15.block _ (lt_heap hr14_3)).trans hr14_3
          have hr15_4 := (hb15.block _ (lt_heap hr14_4)).trans hr14_4
          have HU15 := Lib.hid (HU14.out.trans (hb15.mono HU14.out.size))
          refine Ol.keep hK _ _ (⟨(hb15.block _ (lt_heap hS14a.1)).trans hS14a.1, (hb15.block _ (lt_heap hS14a.2)).trans hS14a.2⟩) (fun hS15c => ?_)
          clear hK K
          refine Ol.way_plain (i := 12) (v := ?_) rfl (by kernel_rfl) (by kernel_rfl) (by kernel_rfl) (fun _ _ _ h => h) (by decide) (Or.inl ⟨by kernel_rfl, by (intro wz _; go_simp; try with_reducible rfl)⟩) (Ol.on hS15c) ?_
          go_simp
          refine Ol.way_ready (rs := [11]) (by kernel_rfl) (by simp) ?_
          refine Ol.Each.cons rfl (fun K hK => ?_) Ol.Each.nil
          go_simp
          go_wp2_with (go_at_call 60; refine (greatest3_u _ _ _ (.slice (some ⟨y12.heap.size, 0, none⟩) 1 1) 1 (fun _ => L (k * 6 + 3)) (fun _ => L (k * 6 + 4)) (fun _ => L (k * 6 + 5)) (by omega) _ (.inr ⟨y12.heap.size, 0, 1, rfl, lt_heap hr15_3, fun j hj => by obtain rfl : j = 0 := (by omega); exact ⟨cell_of_row _ _ 0 _ _ _ hr15_3, cell_of_row _ _ 1 _ _ _ hr15_3, cell_of_row _ _ 2 _ _ _ hr15_3⟩⟩)).mono ?_; rintro e y16 ⟨rfl, hb16⟩)
          have hr16_0 := (hb16.block _ (lt_heap hr15_0)).trans hr15_0
          have hr16_1 := (hb16.block _ (lt_heap hr15_1)).trans hr15_1
          have hr16_2 := (hb16.block _ (lt_heap hr15_2)).trans hr15_2
          have hr16_3 := (hb16.block _ (lt_heap hr15_3)).trans hr15_3
          have hr16_4 := (hb16.block _ (lt_heap hr15_4)).trans hr15_4
          have HU16 := Lib.hid (HU15.out.trans (hb16.mono HU15.out.size))
          refine Ol.keep hK _ _ (⟨(hb16.block _ (lt_heap hS15c.1)).trans hS15c.1, (hb16.block _ (lt_heap hS15c.2)).trans hS15c.2⟩) (fun hS16c => ?_)
          clear hK K
          refine Ol.way_ready (rs := [13]) (by kernel_rfl) (by simp) ?_
          refine Ol.Each.cons rfl (fun K hK => ?_) Ol.Each.nil
          have p0 := cell_of_row _ _ 0 _ _ _ hr16_1
          have p1 := cell_of_row _ _ 1 _ _ _ hr16_1
          have p2 := cell_of_row _ _ 2 _ _ _ hr16_1
          have p3 := cell_of_row _ _ 3 _ _ _ hr16_1
          have p4 := cell_of_row _ _ 4 _ _ _ hr16_1
          have p5 := cell_of_row _ _ 5 _ _ _ hr16_1
          simp at p0 p1 p2 p3 p4 p5
          have fz : ∀ j, y16.frozen? ⟨y0.heap.size, j, none⟩ = false := fun j => by simp [World.frozen?, hr16_1]
          go_simp
          clear fz p0 p1 p2 p3 p4 p5
          have hN : (((y16.setCell ⟨y0.heap.size, 0, none⟩ (.int .i64 (foldN min (foldN min f0 (fun j => L (j * 6)) k) (fun _ => L (k * 6)) 1))).setCell ⟨y0.heap.size, 1, none⟩ (.int .i64 (foldN min (foldN min f1 (fun j => L (j * 6 + 1)) k) (fun _ => L (k * 6 + 1)) 1))).setCell ⟨y0.heap.size, 2, none⟩ (.int .i64 (foldN min (foldN min f2 (fun j => L (j * 6 + 2)) k) (fun _ => L (k * 6 + 2)) 1))).heap[y0.heap.size]? = some (.cells #[.int .i64 (foldN min (foldN min f0 (fun j => L (j * 6)) k) (fun _ => L (k * 6)) 1), .int .i64 (foldN min (foldN min f1 (fun j => L (j * 6 + 1)) k) (fun _ => L (k * 6 + 1)) 1), .int .i64 (foldN min (foldN min f2 (fun j => L (j * 6 + 2)) k) (fun _ => L (k * 6 + 2)) 1), .int .i64 (foldN max f3 (fun j => L (j * 6 + 3)) k), .int .i64 (foldN max f4 (fun j => L (j * 6 + 4)) k), .int .i64 (foldN max f5 (fun j => L (j * 6 + 5)) k)] 41 (0, 0)) := part3 hr16_1 _ _ _ rfl
          have hsz := HU16.out.size
          have HUx := below_put3 (k := y0.heap.size) HU16.out (by first | omega | (simp at *; omega)) (.int .i64 (foldN min (foldN min f0 (fun j => L (j * 6)) k) (fun _ => L (k * 6)) 1)) (.int .i64 (foldN min (foldN min f1 (fun j => L (j * 6 + 1)) k) (fun _ => L (k * 6 + 1)) 1)) (.int .i64 (foldN min (foldN min f2 (fun j => L (j * 6 + 2)) k) (fun _ => L (k * 6 + 2)) 1))
          have hO : ∀ kk, kk ≠ y0.heap.size → (((y16.setCell ⟨y0.heap.size, 0, none⟩ (.int .i64 (foldN min (foldN min f0 (fun j => L (j * 6)) k) (fun _ => L (k * 6)) 1))).setCell ⟨y0.heap.size, 1, none⟩ (.int .i64 (foldN min (foldN min f1 (fun j => L (j * 6 + 1)) k) (fun _ => L (k * 6 + 1)) 1))).setCell ⟨y0.heap.size, 2, none⟩ (.int .i64 (foldN min (foldN min f2 (fun j => L (j * 6 + 2)) k) (fun _ => L (k * 6 + 2)) 1))).heap[kk]? = y16.heap[kk]? := fun kk hk => put3_other _ _ _ _ _ hk
          obtain ⟨y17, hy17⟩ : ∃ y, ((y16.setCell ⟨y0.heap.size, 0, none⟩ (.int .i64 (foldN min (foldN min f0 (fun j => L (j * 6)) k) (fun _ => L (k * 6)) 1))).setCell ⟨y0.heap.size, 1, none⟩ (.int .i64 (foldN min (foldN min f1 (fun j => L (j * 6 + 1)) k) (fun _ => L (k * 6 + 1)) 1))).setCell ⟨y0.heap.size, 2, none⟩ (.int .i64 (foldN min (foldN min f2 (fun j => L (j * 6 + 2)) k) (fun _ => L (k * 6 + 2)) 1)) = y := ⟨_, rfl⟩
          rw [hy17] at hN HUx hO ⊢
          clear hy17
          have HU17 := Lib.hid HUx
          clear HUx
          have hr17_0 := (hO _ (by omega)).trans hr16_0
          have hr17_1 := hN
          have hr17_2 := (hO _ (by omega)).trans hr16_2
          have hr17_3 := (hO _ (by omega)).trans hr16_3
          have hr17_4 := (hO _ (by omega)).trans hr16_4
          clear hN
          refine Ol.past hK (by kernel_rfl) _ _ ?_
          clear hK K
          refine Ol.way_plain (i := 14) (v := ?_) rfl (by kernel_rfl) (by kernel_rfl) (by kernel_rfl) (fun _ _ _ h => h) (by decide) (Or.inl ⟨by kernel_rfl, by (intro wz _; go_simp; try with_reducible rfl)⟩) (Ol.off (by kernel_rfl)) ?_
          go_simp
          refine Ol.way_ready (rs := [15]) (by kernel_rfl) (by simp) ?_
          refine Ol.Each.cons rfl (fun K hK => ?_) Ol.Each.nil
          have p0 := cell_of_row _ _ 0 _ _ _ hr17_1
          have p1 := cell_of_row _ _ 1 _ _ _ hr17_1
          have p2 := cell_of_row _ _ 2 _ _ _ hr17_1
          have p3 := cell_of_row _ _ 3 _ _ _ hr17_1
          have p4 := cell_of_row _ _ 4 _ _ _ hr17_1
          have p5 := cell_of_row _ _ 5 _ _ _ hr17_1
          simp at p0 p1 p2 p3 p4 p5
          have fz : ∀ j, y17.frozen? ⟨y0.heap.size, j, none⟩ = false := fun j => by simp [World.frozen?, hr17_1]
          go_simp
          clear fz p0 p1 p2 p3 p4 p5
          have hN : (((y17.setCell ⟨y0.heap.size, 3, none⟩ (.int .i64 (foldN max (foldN max f3 (fun j => L (j * 6 + 3)) k) (fun _ => L (k * 6 + 3)) 1))).setCell ⟨y0.heap.size, 4, none⟩ (.int .i64 (foldN max (foldN max f4 (fun j => L (j * 6 + 4)) k) (fun _ => L (k * 6 + 4)) 1))).setCell ⟨y0.heap.size, 5, none⟩ (.int .i64 (foldN max (foldN max f5 (fun j => L (j * 6 + 5)) k) (fun _ => L (k * 6 + 5)) 1))).heap[y0.heap.size]? = some (.cells #[.int .i64 (foldN min (foldN min f0 (fun j => L (j * 6)) k) (fun _ => L (k * 6)) 1), .int .i64 (foldN min (foldN min f1 (fun j => L (j * 6 + 1)) k) (fun _ => L (k * 6 + 1)) 1), .int .i64 (foldN min (foldN min f2 (fun j => L (j * 6 + 2)) k) (fun _ => L (k * 6 + 2)) 1), .int .i64 (foldN max (foldN max f3 (fun j => L (j * 6 + 3)) k) (fun _ => L (k * 6 + 3)) 1), .int .i64 (foldN max (foldN max f4 (fun j => L (j * 6 + 4)) k) (fun _ => L (k * 6 + 4)) 1), .int .i64 (foldN max (foldN max f5 (fun j => L (j * 6 + 5)) k) (fun _ => L (k * 6 + 5)) 1)] 41 (0, 0)) := part3 hr17_1 _ _ _ rfl
          have hsz := HU17.out.size
          have HUx := below_put3o (k := y0.heap.size) (o := 3) HU17.out (by first | omega | (simp at *; omega)) (.int .i64 (foldN max (foldN max f3 (fun j => L (j * 6 + 3)) k) (fun _ => L (k * 6 + 3)) 1)) (.int .i64 (foldN max (foldN max f4 (fun j => L (j * 6 + 4)) k) (fun _ => L (k * 6 + 4)) 1)) (.int .i64 (foldN max (foldN max f5 (fun j => L (j * 6 + 5)) k) (fun _ => L (k * 6 + 5)) 1))
          have hO : ∀ kk, kk ≠ y0.heap.size → (((y17.setCell ⟨y0.heap.size, 3, none⟩ (.int .i64 (foldN max (foldN max f3 (fun j => L (j * 6 + 3)) k) (fun _ => L (k * 6 + 3)) 1))).setCell ⟨y0.heap.size, 4, none⟩ (.int .i64 (foldN max (foldN max f4 (fun j => L (j * 6 + 4)) k) (fun _ => L (k * 6 + 4)) 1))).setCell ⟨y0.heap.size, 5, none⟩ (.int .i64 (foldN max (foldN max f5 (fun j => L (j * 6 + 5)) k) (fun _ => L (k * 6 + 5)) 1))).heap[kk]? = y17.heap[kk]? := fun kk hk => put3_other _ _ _ _ _ hk
          obtain ⟨y18, hy18⟩ : ∃ y, ((y17.setCell ⟨y0.heap.size, 3, none⟩ (.int .i64 (foldN max (foldN max f3 (fun j => L (j * 6 + 3)) k) (fun _ => L (k * 6 + 3)) 1))).setCell ⟨y0.heap.size, 4, none⟩ (.int .i64 (foldN max (foldN max f4 (fun j => L (j * 6 + 4)) k) (fun _ => L (k * 6 + 4)) 1))).setCell ⟨y0.heap.size, 5, none⟩ (.int .i64 (foldN max (foldN max f5 (fun j => L (j * 6 + 5)) k) (fun _ => L (k * 6 + 5)) 1)) = y := ⟨_, rfl⟩
          rw [hy18] at hN HUx hO ⊢
          clear hy18
          have HU18 := Lib.hid HUx
          clear HUx
          have hr18_0 := (hO _ (by omega)).trans hr17_0
          have hr18_1 := hN
          have hr18_2 := (hO _ (by omega)).trans hr17_2
          have hr18_3 := (hO _ (by omega)).trans hr17_3
          have hr18_4 := (hO _ (by omega)).trans hr17_4
          clear hN
          refine Ol.past hK (by kernel_rfl) _ _ ?_
          clear hK K
          refine Ol.way_done (by kernel_rfl) ?_ _
          go_wp2
          go_roundw
          case rel => exact ⟨k + 1, by omega, by go_num, hr18_1, hr18_0, HU18⟩
          case measure => simp [intOf]; omega
    · obtain rfl : k = n := by omega
      have c1_0 := cell_of_row _ _ 0 _ _ _ hr10_1
      have c1_1 := cell_of_row _ _ 1 _ _ _ hr10_1
      have c1_2 := cell_of_row _ _ 2 _ _ _ hr10_1
      have c1_3 := cell_of_row _ _ 3 _ _ _ hr10_1
      have c1_4 := cell_of_row _ _ 4 _ _ _ hr10_1
      have c1_5 := cell_of_row _ _ 5 _ _ _ hr10_1
      simp at c1_0 c1_1 c1_2 c1_3 c1_4 c1_5
      have hHr := Lib.hid hr10_0
      have hHi := Lib.hid (show (Try.prog.info? 41).map (·.size) = some (#[.int .i64 (foldN min f0 (fun j => L (j * 6)) k), .int .i64 (foldN min f1 (fun j => L (j * 6 + 1)) k), .int .i64 (foldN min f2 (fun j => L (j * 6 + 2)) k), .int .i64 (foldN max f3 (fun j => L (j * 6 + 3)) k), .int .i64 (foldN max f4 (fun j => L (j * 6 + 4)) k), .int .i64 (foldN max f5 (fun j => L (j * 6 + 5)) k)] : Array Value).size by kernel_rfl)
      have hHz := Lib.hid (show (#[.int .i64 0, .int .i64 0, .int .i64 0, .int .i64 0, .int .i64 0, .int .i64 0] : Array Value).size = (#[.int .i64 (foldN min f0 (fun j => L (j * 6)) k), .int .i64 (foldN min f1 (fun j => L (j * 6 + 1)) k), .int .i64 (foldN min f2 (fun j => L (j * 6 + 2)) k), .int .i64 (foldN max f3 (fun j => L (j * 6 + 3)) k), .int .i64 (foldN max f4 (fun j => L (j * 6 + 4)) k), .int .i64 (foldN max f5 (fun j => L (j * 6 + 5)) k)] : Array Value).size from rfl)
      have hHo := Lib.hid (show (#[.int .i64 (foldN min f0 (fun j => L (j * 6)) k), .int .i64 (foldN min f1 (fun j => L (j * 6 + 1)) k), .int .i64 (foldN min f2 (fun j => L (j * 6 + 2)) k), .int .i64 (foldN max f3 (fun j => L (j * 6 + 3)) k), .int .i64 (foldN max f4 (fun j => L (j * 6 + 4)) k), .int .i64 (foldN max f5 (fun j => L (j * 6 + 5)) k)] : Array Value).all (·.oneCell') = true by simp [Value.oneCell'])
      go_wp2_with (first | (refine Au.wpList_store_row rfl 41 (.tmp 4) (.tmp 30) rfl y10 #[.int .i64 0, .int .i64 0, .int .i64 0, .int .i64 0, .int .i64 0, .int .i64 0] #[.int .i64 (foldN min f0 (fun j => L (j * 6)) k), .int .i64 (foldN min f1 (fun j => L (j * 6 + 1)) k), .int .i64 (foldN min f2 (fun j => L (j * 6 + 2)) k), .int .i64 (foldN max f3 (fun j => L (j * 6 + 3)) k), .int .i64 (foldN max f4 (fun j => L (j * 6 + 4)) k), .int .i64 (foldN max f5 (fun j => L (j * 6 + 5)) k)] (w.heap.size + 1) 41 hHr.out rfl rfl hHi.out hHz.out hHo.out ?_))
      clear c1_0 c1_1 c1_2 c1_3 c1_4 c1_5
      clear hHr hHi hHz hHo
      have hN := setRow_heap _ (w.heap.size + 1) _ #[.int .i64 (foldN min f0 (fun j => L (j * 6)) k), .int .i64 (foldN min f1 (fun j => L (j * 6 + 1)) k), .int .i64 (foldN min f2 (fun j => L (j * 6 + 2)) k), .int .i64 (foldN max f3 (fun j => L (j * 6 + 3)) k), .int .i64 (foldN max f4 (fun j => L (j * 6 + 4)) k), .int .i64 (foldN max f5 (fun j => L (j * 6 + 5)) k)] _ _ hr10_0
      have hsz := HU10.out.size
      have HUx := below_setRow (g := w.heap.size + 1) HU10.out (by first | omega | (simp at *; omega)) #[.int .i64 (foldN min f0 (fun j => L (j * 6)) k), .int .i64 (foldN min f1 (fun j => L (j * 6 + 1)) k), .int .i64 (foldN min f2 (fun j => L (j * 6 + 2)) k), .int .i64 (foldN max f3 (fun j => L (j * 6 + 3)) k), .int .i64 (foldN max f4 (fun j => L (j * 6 + 4)) k), .int .i64 (foldN max f5 (fun j => L (j * 6 + 5)) k)]
      have hO : ∀ kk, kk ≠ w.heap.size + 1 → (y10.setRow (w.heap.size + 1) #[.int .i64 (foldN min f0 (fun j => L (j * 6)) k), .int .i64 (foldN min f1 (fun j => L (j * 6 + 1)) k), .int .i64 (foldN min f2 (fun j => L (j * 6 + 2)) k), .int .i64 (foldN max f3 (fun j => L (j * 6 + 3)) k), .int .i64 (foldN max f4 (fun j => L (j * 6 + 4)) k), .int .i64 (foldN max f5 (fun j => L (j * 6 + 5)) k)]).heap[kk]? = y10.heap[kk]? := fun kk hk => setRow_other _ _ _ _ hk
      obtain ⟨y11, hy11⟩ : ∃ y, y10.setRow (w.heap.size + 1) #[.int .i64 (foldN min f0 (fun j => L (j * 6)) k), .int .i64 (foldN min f1 (fun j => L (j * 6 + 1)) k), .int .i64 (foldN min f2 (fun j => L (j * 6 + 2)) k), .int .i64 (foldN max f3 (fun j => L (j * 6 + 3)) k), .int .i64 (foldN max f4 (fun j => L (j * 6 + 4)) k), .int .i64 (foldN max f5 (fun j => L (j * 6 + 5)) k)] = y := ⟨_, rfl⟩
      rw [hy11] at hN HUx hO ⊢
      clear hy11 hsz
      have HU11 := Lib.hid HUx
      clear HUx
      have hr11_0 := hN
      have hr11_1 := (hO _ (by omega)).trans hr10_1
      clear hN hO
      clear hr10_0 hr10_1 HU10
      have c0_0 := cell_of_row _ _ 0 _ _ _ hr11_0
      have c0_1 := cell_of_row _ _ 1 _ _ _ hr11_0
      have c0_2 := cell_of_row _ _ 2 _ _ _ hr11_0
      have c0_3 := cell_of_row _ _ 3 _ _ _ hr11_0
      have c0_4 := cell_of_row _ _ 4 _ _ _ hr11_0
      have c0_5 := cell_of_row _ _ 5 _ _ _ hr11_0
      simp at c0_0 c0_1 c0_2 c0_3 c0_4 c0_5
      go_wp2
      exact bodyPost_ret (v := .agg #[.int .i64 (foldN min f0 (fun j => L (j * 6)) k), .int .i64 (foldN min f1 (fun j => L (j * 6 + 1)) k), .int .i64 (foldN min f2 (fun j => L (j * 6 + 2)) k), .int .i64 (foldN max f3 (fun j => L (j * 6 + 3)) k), .int .i64 (foldN max f4 (fun j => L (j * 6 + 4)) k), .int .i64 (foldN max f5 (fun j => L (j * 6 + 5)) k)]) (by simp [results, Try.results37, go_sem, c0_0, c0_1, c0_2, c0_3, c0_4, c0_5]) rfl ⟨rfl, HU11.out⟩

theorem bjoin_any (f0 f1 f2 f3 f4 f5 : Int) (v : Value) (n : Nat) (L : Nat → Int) (hn : n ≤ 4611686018427387904) (w : World) (hp : RowU 6 w v n L) :
    Calls Try.prog 37 #[.agg #[.int .i64 f0, .int .i64 f1, .int .i64 f2, .int .i64 f3, .int .i64 f4, .int .i64 f5], v] w fun e w' => e = .returned (.agg #[.int .i64 (foldN min f0 (fun j => L (j * 6)) n), .int .i64 (foldN min f1 (fun j => L (j * 6 + 1)) n), .int .i64 (foldN min f2 (fun j => L (j * 6 + 2)) n), .int .i64 (foldN max f3 (fun j => L (j * 6 + 3)) n), .int .i64 (foldN max f4 (fun j => L (j * 6 + 4)) n), .int .i64 (foldN max f5 (fun j => L (j * 6 + 5)) n)]) ∧ Below w.heap.size w w' := by
  rcases hp with ⟨rfl, rfl⟩ | ⟨g, o, cap, rfl, hg, hp⟩
  · exact bjoin_none f0 f1 f2 f3 f4 f5 L w
  · exact bjoin_row f0 f1 f2 f3 f4 f5 g o n cap L hn w hg hp

end Go.Proofs.Ytoppcnkfgmbpfaa.Bx
