/- Boxes: the document's box of some points; the boxes of a list's things, by both sides. -/
import Derived.Test.YtoppcnkfgmbpfaaE10
import Derived.Test.YtoppcnkfgmbpfaaE14
import Derived.Test.YtoppcnkfgmbpfaaE20
import Derived.Test.YtoppcnkfgmbpfaaE16
import Derived.Test.YtoppcnkfgmbpfaaE21
import Derived.Test.YtoppcnkfgmbpfaaE23
namespace Go.Proofs.Ytoppcnkfgmbpfaa.Bx
open Go.RowKit Go.Proofs.Ytoppcnkfgmbpfaa Go.Proofs.Ytoppcnkfgmbpfaa.Wa Go.Proofs.Ytoppcnkfgmbpfaa.Ve Go.Proofs.Ytoppcnkfgmbpfaa.Au
set_option linter.unusedVariables false
set_option linter.unusedSimpArgs false

set_option maxHeartbeats 2000000 in
set_option maxRecDepth 100000 in
theorem rof_row (gl ol n cap : Nat) (L : Nat → Int) (h1 : 1 ≤ n) (hm : n ≤ 4611686018427387904) (w : World) (hp : NumsF w gl ol n L) : Calls Try.prog 31 #[.slice (some ⟨gl, ol, none⟩) n cap] w fun e' w' => e' = .returned (.agg #[.int .i64 (lo L 0 n), .int .i64 (lo L 1 n), .int .i64 (lo L 2 n), .int .i64 (hig L 0 n), .int .i64 (hig L 1 n), .int .i64 (hig L 2 n)]) ∧ Below w.heap.size w w' := by
  have HP := Lib.hid hp
  clear hp
  go_enter Try.func31, Try.ntmps31
  go_upto_region 1 with fail
  have hR := Au.rows1 w (.cells #[.int .i64 0, .int .i64 0, .int .i64 0, .int .i64 0, .int .i64 0, .int .i64 0] 49)
  have HUx := below_n1 w (.cells #[.int .i64 0, .int .i64 0, .int .i64 0, .int .i64 0, .int .i64 0, .int .i64 0] 49)
  obtain ⟨y0, hy0⟩ : ∃ y0, w.alloc (.cells #[.int .i64 0, .int .i64 0, .int .i64 0, .int .i64 0, .int .i64 0, .int .i64 0] 49) = y0 := ⟨_, rfl⟩
  rw [hy0] at hR HUx ⊢
  clear hy0
  have HU0 := Lib.hid HUx
  clear HUx
  have hr0_0 := hR
  clear hR
  go_wp2_with fail
  refine (ends_o gl ol n cap L h1 hm _ (HP.out.on HU0.out)).mono ?_
  rintro e y1 ⟨rfl, hb1⟩
  have hr1_0 := (hb1.block _ (lt_heap hr0_0)).trans hr0_0
  have HU1 := Lib.hid (HU0.out.trans (hb1.mono HU0.out.size))
  clear hr0_0 HU0
  go_upto_region 2 with fail
  have hb2 := below_n1 y1 (.cells #[.int .i64 (lo L 0 n), .int .i64 (lo L 1 n), .int .i64 (lo L 2 n)] 47)
  have hN := heap_alloc_last y1 (.cells #[.int .i64 (lo L 0 n), .int .i64 (lo L 1 n), .int .i64 (lo L 2 n)] 47)
  obtain ⟨y2, hy2⟩ : ∃ y, y1.alloc (.cells #[.int .i64 (lo L 0 n), .int .i64 (lo L 1 n), .int .i64 (lo L 2 n)] 47) = y := ⟨_, rfl⟩
  have hs2 : y2.heap.size = y1.heap.size + 1 := by rw [← hy2]; simp
  rw [hy2] at hb2 hN ⊢
  clear hy2
  have hl2_0 := lt_heap hr1_0
  have hr2_0 := (hb2.block _ (lt_heap hr1_0)).trans hr1_0
  have HU2 := Lib.hid (HU1.out.trans (hb2.mono HU1.out.size))
  clear hr1_0 HU1
  have hr2_1 := hN
  clear hN
  have hb3 := below_n1 y2 (.cells #[.int .i64 (hig L 0 n), .int .i64 (hig L 1 n), .int .i64 (hig L 2 n)] 47)
  have hN := heap_alloc_last y2 (.cells #[.int .i64 (hig L 0 n), .int .i64 (hig L 1 n), .int .i64 (hig L 2 n)] 47)
  obtain ⟨y3, hy3⟩ : ∃ y, y2.alloc (.cells #[.int .i64 (hig L 0 n), .int .i64 (hig L 1 n), .int .i64 (hig L 2 n)] 47) = y := ⟨_, rfl⟩
  have hs3 : y3.heap.size = y2.heap.size + 1 := by rw [← hy3]; simp
  rw [hy3] at hb3 hN ⊢
  clear hy3
  rw [hs2] at hN
  have hl3_0 := lt_heap hr2_0
  have hl3_1 := lt_heap hr2_1
  have hr3_0 := (hb3.block _ (lt_heap hr2_0)).trans hr2_0
  have hr3_1 := (hb3.block _ (lt_heap hr2_1)).trans hr2_1
  have HU3 := Lib.hid (HU2.out.trans (hb3.mono HU2.out.size))
  clear hr2_0 hr2_1 HU2
  have hr3_2 := hN
  clear hN
  have c0_0 := cell_of_row _ _ 0 _ _ _ hr3_0
  have c0_1 := cell_of_row _ _ 1 _ _ _ hr3_0
  have c0_2 := cell_of_row _ _ 2 _ _ _ hr3_0
  have c0_3 := cell_of_row _ _ 3 _ _ _ hr3_0
  have c0_4 := cell_of_row _ _ 4 _ _ _ hr3_0
  have c0_5 := cell_of_row _ _ 5 _ _ _ hr3_0
  have c1_0 := cell_of_row _ _ 0 _ _ _ hr3_1
  have c1_1 := cell_of_row _ _ 1 _ _ _ hr3_1
  have c1_2 := cell_of_row _ _ 2 _ _ _ hr3_1
  have c2_0 := cell_of_row _ _ 0 _ _ _ hr3_2
  have c2_1 := cell_of_row _ _ 1 _ _ _ hr3_2
  have c2_2 := cell_of_row _ _ 2 _ _ _ hr3_2
  simp at c0_0 c0_1 c0_2 c0_3 c0_4 c0_5 c1_0 c1_1 c1_2 c2_0 c2_1 c2_2
  have hHr := Lib.hid hr3_0
  have hHi := Lib.hid (show (Try.prog.info? 49).map (·.size) = some (#[.int .i64 (lo L 0 n), .int .i64 (lo L 1 n), .int .i64 (lo L 2 n), .int .i64 (hig L 0 n), .int .i64 (hig L 1 n), .int .i64 (hig L 2 n)] : Array Value).size by kernel_rfl)
  have hHz := Lib.hid (show (#[.int .i64 0, .int .i64 0, .int .i64 0, .int .i64 0, .int .i64 0, .int .i64 0] : Array Value).size = (#[.int .i64 (lo L 0 n), .int .i64 (lo L 1 n), .int .i64 (lo L 2 n), .int .i64 (hig L 0 n), .int .i64 (hig L 1 n), .int .i64 (hig L 2 n)] : Array Value).size from rfl)
  have hHo := Lib.hid (show (#[.int .i64 (lo L 0 n), .int .i64 (lo L 1 n), .int .i64 (lo L 2 n), .int .i64 (hig L 0 n), .int .i64 (hig L 1 n), .int .i64 (hig L 2 n)] : Array Value).all (·.oneCell') = true by simp [Value.oneCell'])
  go_wp2_with (first | (refine Au.wpList_store_row rfl 49 (.tmp 2) (.tmp 12) rfl y3 #[.int .i64 0, .int .i64 0, .int .i64 0, .int .i64 0, .int .i64 0, .int .i64 0] #[.int .i64 (lo L 0 n), .int .i64 (lo L 1 n), .int .i64 (lo L 2 n), .int .i64 (hig L 0 n), .int .i64 (hig L 1 n), .int .i64 (hig L 2 n)] (w.heap.size) 49 hHr.out rfl rfl hHi.out hHz.out hHo.out ?_))
  clear c0_0 c0_1 c0_2 c0_3 c0_4 c0_5 c1_0 c1_1 c1_2 c2_0 c2_1 c2_2
  clear hHr hHi hHz hHo
  have hN := setRow_heap _ (w.heap.size) _ #[.int .i64 (lo L 0 n), .int .i64 (lo L 1 n), .int .i64 (lo L 2 n), .int .i64 (hig L 0 n), .int .i64 (hig L 1 n), .int .i64 (hig L 2 n)] _ _ hr3_0
  have hsz := HU3.out.size
  have HUx := below_setRow (g := w.heap.size) HU3.out (by first | omega | (simp at *; omega)) #[.int .i64 (lo L 0 n), .int .i64 (lo L 1 n), .int .i64 (lo L 2 n), .int .i64 (hig L 0 n), .int .i64 (hig L 1 n), .int .i64 (hig L 2 n)]
  have hO : ∀ kk, kk ≠ w.heap.size → (y3.setRow (w.heap.size) #[.int .i64 (lo L 0 n), .int .i64 (lo L 1 n), .int .i64 (lo L 2 n), .int .i64 (hig L 0 n), .int .i64 (hig L 1 n), .int .i64 (hig L 2 n)]).heap[kk]? = y3.heap[kk]? := fun kk hk => setRow_other _ _ _ _ hk
  obtain ⟨y4, hy4⟩ : ∃ y, y3.setRow (w.heap.size) #[.int .i64 (lo L 0 n), .int .i64 (lo L 1 n), .int .i64 (lo L 2 n), .int .i64 (hig L 0 n), .int .i64 (hig L 1 n), .int .i64 (hig L 2 n)] = y := ⟨_, rfl⟩
  rw [hy4] at hN HUx hO ⊢
  clear hy4 hsz
  have HU4 := Lib.hid HUx
  clear HUx
  have hr4_0 := hN
  have hr4_1 := (hO _ (by omega)).trans hr3_1
  have hr4_2 := (hO _ (by omega)).trans hr3_2
  clear hN hO
  clear hr3_0 hr3_1 hr3_2 HU3
  have c0_0 := cell_of_row _ _ 0 _ _ _ hr4_0
  have c0_1 := cell_of_row _ _ 1 _ _ _ hr4_0
  have c0_2 := cell_of_row _ _ 2 _ _ _ hr4_0
  have c0_3 := cell_of_row _ _ 3 _ _ _ hr4_0
  have c0_4 := cell_of_row _ _ 4 _ _ _ hr4_0
  have c0_5 := cell_of_row _ _ 5 _ _ _ hr4_0
  simp at c0_0 c0_1 c0_2 c0_3 c0_4 c0_5
  go_wp2
  exact bodyPost_ret (v := .agg #[.int .i64 (lo L 0 n), .int .i64 (lo L 1 n), .int .i64 (lo L 2 n), .int .i64 (hig L 0 n), .int .i64 (hig L 1 n), .int .i64 (hig L 2 n)]) (by simp [results, Try.results31, go_sem, c0_0, c0_1, c0_2, c0_3, c0_4, c0_5]) rfl ⟨rfl, HU4.out⟩

theorem numsF_mk {w : World} {g o n : Nat} {L : Nat → Int} (h1 : g < w.heap.size) (h2 : ∀ j, j < n * 3 → w.cell? ⟨g, o + j, none⟩ = some (.int .i64 (L j))) : NumsF w g o n L := ⟨h1, h2⟩

theorem fold_next (f : Int → Int → Int) (a : Int) (l l' : Nat → Int) (h0 : f a (l 0) = a) (h : ∀ j, l (j + 1) = l' j) : ∀ k, foldN f a l' k = foldN f a l (k + 1)
  | 0 => h0.symm
  | k + 1 => by
    show f (foldN f a l' k) (l' k) = f (foldN f a l (k + 1)) (l (k + 1))
    rw [fold_next f a l l' h0 h k, h]

theorem lo_next (L : Nat → Int) (i n : Nat) (hn : 1 ≤ n) : foldN min (L i) (fun j => L ((j + 1) * 3 + i)) (n - 1) = lo L i n := by
  obtain ⟨k, rfl⟩ : ∃ k, n = k + 1 := ⟨n - 1, by omega⟩
  exact fold_next min (L i) (fun j => L (j * 3 + i)) _ (by simp only [show 0 * 3 + i = i by omega]; omega) (fun _ => rfl) k

theorem hig_next (L : Nat → Int) (i n : Nat) (hn : 1 ≤ n) : foldN max (L i) (fun j => L ((j + 1) * 3 + i)) (n - 1) = hig L i n := by
  obtain ⟨k, rfl⟩ : ∃ k, n = k + 1 := ⟨n - 1, by omega⟩
  exact fold_next max (L i) (fun j => L (j * 3 + i)) _ (by simp only [show 0 * 3 + i = i by omega]; omega) (fun _ => rfl) k

theorem lo6_next (L : Nat → Int) (i n : Nat) (hn : 1 ≤ n) : foldN min (L i) (fun j => L ((j + 1) * 6 + i)) (n - 1) = lo6 L i n := by
  obtain ⟨k, rfl⟩ : ∃ k, n = k + 1 := ⟨n - 1, by omega⟩
  exact fold_next min (L i) (fun j => L (j * 6 + i)) _ (by simp only [show 0 * 6 + i = i by omega]; omega) (fun _ => rfl) k

theorem hi6_next (L : Nat → Int) (i n : Nat) (hn : 1 ≤ n) : foldN max (L (3 + i)) (fun j => L ((j + 1) * 6 + (3 + i))) (n - 1) = hi6 L i n := by
  obtain ⟨k, rfl⟩ : ∃ k, n = k + 1 := ⟨n - 1, by omega⟩
  exact fold_next max (L (3 + i)) (fun j => L (j * 6 + (3 + i))) _ (by simp only [show 0 * 6 + (3 + i) = 3 + i by omega]; omega) (fun _ => rfl) k

/-- the box of a list's points: the first one, and the others behind it -/
theorem of_list (g o n cap : Nat) (ho : n = 1 ∨ o = 3) (L : Nat → Int) (hn : 1 ≤ n) (hm : n ≤ 1000000) (w : World) (hg : g < w.heap.size) (hp : ∀ j, j < n * 3 → w.cell? ⟨g, j, none⟩ = some (.int .i64 (L j))) :
    Calls Try.prog 40 #[V3 (L 0) (L 1) (L 2), .slice (some ⟨g, o, none⟩) (n - 1) cap] w fun e w' => e = .returned (.agg #[.int .i64 (lo L 0 n), .int .i64 (lo L 1 n), .int .i64 (lo L 2 n), .int .i64 (hig L 0 n), .int .i64 (hig L 1 n), .int .i64 (hig L 2 n)]) ∧ Below w.heap.size w w' := by
  have h := of_any (L 0) (L 1) (L 2) (.slice (some ⟨g, o, none⟩) (n - 1) cap) (n - 1) (fun j => L ((j + 1) * 3)) (fun j => L ((j + 1) * 3 + 1)) (fun j => L ((j + 1) * 3 + 2)) (by omega) w
    (.inr ⟨g, o, cap, rfl, hg, fun j hj => by
      obtain rfl : o = 3 := by omega
      rw [show 3 + j * 3 = (j + 1) * 3 by omega]
      exact ⟨hp _ (by omega), hp _ (by omega), hp _ (by omega)⟩⟩)
  have e0 := lo_next L 0 n hn
  have e1 := lo_next L 1 n hn
  have e2 := lo_next L 2 n hn
  have e3 := hig_next L 0 n hn
  have e4 := hig_next L 1 n hn
  have e5 := hig_next L 2 n hn
  simp only [Nat.add_zero] at e0 e3
  rw [e0, e1, e2, e3, e4, e5] at h
  exact h

/-- the box of a list's boxes -/
theorem join_list (g o n cap : Nat) (ho : n = 1 ∨ o = 6) (L : Nat → Int) (hn : 1 ≤ n) (hm : n ≤ 1000000) (w : World) (hg : g < w.heap.size) (hp : ∀ j, j < n * 6 → w.cell? ⟨g, j, none⟩ = some (.int .i64 (L j))) :
    Calls Try.prog 37 #[.agg #[.int .i64 (L 0), .int .i64 (L 1), .int .i64 (L 2), .int .i64 (L 3), .int .i64 (L 4), .int .i64 (L 5)], .slice (some ⟨g, o, none⟩) (n - 1) cap] w fun e w' => e = .returned (.agg #[.int .i64 (lo6 L 0 n), .int .i64 (lo6 L 1 n), .int .i64 (lo6 L 2 n), .int .i64 (hi6 L 0 n), .int .i64 (hi6 L 1 n), .int .i64 (hi6 L 2 n)]) ∧ Below w.heap.size w w' := by
  have h := bjoin_any (L 0) (L 1) (L 2) (L 3) (L 4) (L 5) (.slice (some ⟨g, o, none⟩) (n - 1) cap) (n - 1) (fun j => L (j + 6)) (by omega) w
    (.inr ⟨g, o, cap, rfl, hg, fun j hj => by
      obtain rfl : o = 6 := by omega
      rw [Nat.add_comm 6 j]
      exact hp _ (by omega)⟩)
  have e0 := lo6_next L 0 n hn
  have e1 := lo6_next L 1 n hn
  have e2 := lo6_next L 2 n hn
  have e3 := hi6_next L 0 n hn
  have e4 := hi6_next L 1 n hn
  have e5 := hi6_next L 2 n hn
  simp only [Nat.add_zero, Nat.succ_mul, Nat.reduceAdd] at e0 e1 e2 e3 e4 e5
  have c : ∀ j i : Nat, j * 6 + 6 + i = j * 6 + i + 6 := fun j i => by omega
  have d : ∀ j : Nat, j * 6 + 6 = j * 6 + 6 := fun j => rfl
  simp only [c] at e1 e2 e3 e4 e5
  rw [e0, e1, e2, e3, e4, e5] at h
  exact h

theorem eq_v3d (d : Nat) (x y z : Int) (W : World) : (Op.equalIn (d + 2) 47 (.agg #[.int .i64 x, .int .i64 y, .int .i64 z]) (.agg #[.int .i64 x, .int .i64 y, .int .i64 z])).run Try.prog W = .ok true W := by
  obtain ⟨i0, hi, hz0, hz1, hz2⟩ := info_parts infoInt
  rw [run_equalIn_array W (d + 1) _ _ Try.underlying47 hi, cellsInt]
  simp only [show List.range 3 = [0, 1, 2] from rfl, Op.eqItems, Sem.run_bind]
  simp [go_sem]

theorem eq_b6 (a b c d e f : Int) (W : World) : (Op.equalIn 10000 49 (.agg #[.int .i64 a, .int .i64 b, .int .i64 c, .int .i64 d, .int .i64 e, .int .i64 f]) (.agg #[.int .i64 a, .int .i64 b, .int .i64 c, .int .i64 d, .int .i64 e, .int .i64 f])).run Try.prog W = .ok true W := by
  rw [run_equalIn_struct W 9999 49 _ _ (by kernel_rfl) (by kernel_rfl)]
  simp only [Program.fieldsOf, Try.underlying49, Op.eqFields]
  have hv := fun x y z => eq_v3d 9997 x y z
  simp [go_sem, hv]

end Go.Proofs.Ytoppcnkfgmbpfaa.Bx
