/- Trees: the document's Whole, Middle and Part. -/
import Derived.Test.YtoppcnkfgmbpfaaE22
import Derived.Test.YtoppcnkfgmbpfaaE07
import Derived.Test.YtoppcnkfgmbpfaaE24
namespace Go.Proofs.Ytoppcnkfgmbpfaa.Tr
open Go.RowKit Go.Proofs.Ytoppcnkfgmbpfaa Go.Proofs.Ytoppcnkfgmbpfaa.Wa Go.Proofs.Ytoppcnkfgmbpfaa.Ve Go.Proofs.Ytoppcnkfgmbpfaa.Au Go.Proofs.Ytoppcnkfgmbpfaa.Bx
set_option linter.unusedVariables false
set_option linter.unusedSimpArgs false

/-- in which part a number lies -/
def part (x low wide : Int) : Int := if 7 < Pl.mul 524288 (Pl.div (Pl.sub x low) wide) / 65536 then 7 else Pl.mul 524288 (Pl.div (Pl.sub x low) wide) / 65536

theorem rjoin_lit (p0_ p1_ p2_ p3_ p4_ p5_ p6_ p7_ p8_ p9_ p10_ p11_ : Int) (g cap : Nat) (t : TypeId) (w : World) (hg : w.heap[g]? = some (.cells #[.int .i64 p0_, .int .i64 p1_, .int .i64 p2_, .int .i64 p3_, .int .i64 p4_, .int .i64 p5_, .int .i64 p6_, .int .i64 p7_, .int .i64 p8_, .int .i64 p9_, .int .i64 p10_, .int .i64 p11_] t (0, 0))) :
    Calls Try.prog 50 #[.slice (some ⟨g, 0, none⟩) 2 cap] w fun e w' => e = .returned (.agg #[.int .i64 (min p0_ p6_), .int .i64 (min p1_ p7_), .int .i64 (min p2_ p8_), .int .i64 (max p3_ p9_), .int .i64 (max p4_ p10_), .int .i64 (max p5_ p11_)]) ∧ Below w.heap.size w w' :=
  rjoin_two g cap (fun j => [p0_, p1_, p2_, p3_, p4_, p5_, p6_, p7_, p8_, p9_, p10_, p11_].getD j 0) w (lt_heap hg) (fun j hj => by
    rw [cell_of_row _ _ j _ _ _ hg]
    match j, hj with
    | 0, _ => rfl
    | 1, _ => rfl
    | 2, _ => rfl
    | 3, _ => rfl
    | 4, _ => rfl
    | 5, _ => rfl
    | 6, _ => rfl
    | 7, _ => rfl
    | 8, _ => rfl
    | 9, _ => rfl
    | 10, _ => rfl
    | 11, _ => rfl)

set_option maxHeartbeats 4000000 in
set_option maxRecDepth 100000 in
theorem rwhole_any (p0_ p1_ p2_ p3_ p4_ p5_ p6_ p7_ p8_ p9_ p10_ p11_ : Int) (w : World)  : Calls Try.prog 36 #[.agg #[.int .i64 p0_, .int .i64 p1_, .int .i64 p2_, .int .i64 p3_, .int .i64 p4_, .int .i64 p5_, .int .i64 p6_, .int .i64 p7_, .int .i64 p8_, .int .i64 p9_, .int .i64 p10_, .int .i64 p11_]] w fun e' w' => e' = .returned (.agg #[.int .i64 (min p0_ p6_), .int .i64 (min p1_ p7_), .int .i64 (min p2_ p8_), .int .i64 (max p3_ p9_), .int .i64 (max p4_ p10_), .int .i64 (max p5_ p11_)]) ∧ Below w.heap.size w w' := by
  go_enter Try.func36, Try.ntmps36
  go_upto_region 1 with fail
  have hR := Au.rows2 w (.cells #[.int .i64 p0_, .int .i64 p1_, .int .i64 p2_, .int .i64 p3_, .int .i64 p4_, .int .i64 p5_, .int .i64 p6_, .int .i64 p7_, .int .i64 p8_, .int .i64 p9_, .int .i64 p10_, .int .i64 p11_] 51) (.cells #[.int .i64 0, .int .i64 0, .int .i64 0, .int .i64 0, .int .i64 0, .int .i64 0] 49)
  have HUx := below_n2 w (.cells #[.int .i64 p0_, .int .i64 p1_, .int .i64 p2_, .int .i64 p3_, .int .i64 p4_, .int .i64 p5_, .int .i64 p6_, .int .i64 p7_, .int .i64 p8_, .int .i64 p9_, .int .i64 p10_, .int .i64 p11_] 51) (.cells #[.int .i64 0, .int .i64 0, .int .i64 0, .int .i64 0, .int .i64 0, .int .i64 0] 49)
  obtain ⟨y0, hy0⟩ : ∃ y0, (w.alloc (.cells #[.int .i64 p0_, .int .i64 p1_, .int .i64 p2_, .int .i64 p3_, .int .i64 p4_, .int .i64 p5_, .int .i64 p6_, .int .i64 p7_, .int .i64 p8_, .int .i64 p9_, .int .i64 p10_, .int .i64 p11_] 51)).alloc (.cells #[.int .i64 0, .int .i64 0, .int .i64 0, .int .i64 0, .int .i64 0, .int .i64 0] 49) = y0 := ⟨_, rfl⟩
  rw [hy0] at hR HUx ⊢
  clear hy0
  have HU0 := Lib.hid HUx
  clear HUx
  obtain ⟨hr0_0, hr0_1⟩ := hR
  have c0_0 := cell_of_row _ _ 0 _ _ _ hr0_0
  have c0_1 := cell_of_row _ _ 1 _ _ _ hr0_0
  have c0_2 := cell_of_row _ _ 2 _ _ _ hr0_0
  have c0_3 := cell_of_row _ _ 3 _ _ _ hr0_0
  have c0_4 := cell_of_row _ _ 4 _ _ _ hr0_0
  have c0_5 := cell_of_row _ _ 5 _ _ _ hr0_0
  have c0_6 := cell_of_row _ _ 6 _ _ _ hr0_0
  have c0_7 := cell_of_row _ _ 7 _ _ _ hr0_0
  have c0_8 := cell_of_row _ _ 8 _ _ _ hr0_0
  have c0_9 := cell_of_row _ _ 9 _ _ _ hr0_0
  have c0_10 := cell_of_row _ _ 10 _ _ _ hr0_0
  have c0_11 := cell_of_row _ _ 11 _ _ _ hr0_0
  simp at c0_0 c0_1 c0_2 c0_3 c0_4 c0_5 c0_6 c0_7 c0_8 c0_9 c0_10 c0_11
  go_wp2_with fail
  clear c0_0 c0_1 c0_2 c0_3 c0_4 c0_5 c0_6 c0_7 c0_8 c0_9 c0_10 c0_11
  have hb1 := below_n1 y0 (.cells #[.int .i64 p0_, .int .i64 p1_, .int .i64 p2_, .int .i64 p3_, .int .i64 p4_, .int .i64 p5_, .int .i64 p6_, .int .i64 p7_, .int .i64 p8_, .int .i64 p9_, .int .i64 p10_, .int .i64 p11_] 49)
  have hN := heap_alloc_last y0 (.cells #[.int .i64 p0_, .int .i64 p1_, .int .i64 p2_, .int .i64 p3_, .int .i64 p4_, .int .i64 p5_, .int .i64 p6_, .int .i64 p7_, .int .i64 p8_, .int .i64 p9_, .int .i64 p10_, .int .i64 p11_] 49)
  obtain ⟨y1, hy1⟩ : ∃ y, y0.alloc (.cells #[.int .i64 p0_, .int .i64 p1_, .int .i64 p2_, .int .i64 p3_, .int .i64 p4_, .int .i64 p5_, .int .i64 p6_, .int .i64 p7_, .int .i64 p8_, .int .i64 p9_, .int .i64 p10_, .int .i64 p11_] 49) = y := ⟨_, rfl⟩
  have hs1 : y1.heap.size = y0.heap.size + 1 := by rw [← hy1]; simp
  rw [hy1] at hb1 hN ⊢
  clear hy1
  have hl1_0 := lt_heap hr0_0
  have hl1_1 := lt_heap hr0_1
  have hr1_0 := (hb1.block _ (lt_heap hr0_0)).trans hr0_0
  have hr1_1 := (hb1.block _ (lt_heap hr0_1)).trans hr0_1
  have HU1 := Lib.hid (HU0.out.trans (hb1.mono HU0.out.size))
  clear hr0_0 hr0_1 HU0
  have hr1_2 := hN
  clear hN
  refine (rjoin_lit _ _ _ _ _ _ _ _ _ _ _ _ _ _ _ _ hr1_2).mono ?_
  rintro e y2 ⟨rfl, hb2⟩
  have hr2_0 := (hb2.block _ (lt_heap hr1_0)).trans hr1_0
  have hr2_1 := (hb2.block _ (lt_heap hr1_1)).trans hr1_1
  have hr2_2 := (hb2.block _ (lt_heap hr1_2)).trans hr1_2
  have HU2 := Lib.hid (HU1.out.trans (hb2.mono HU1.out.size))
  clear hr1_0 hr1_1 hr1_2 HU1
  have hHr := Lib.hid hr2_1
  have hHi := Lib.hid (show (Try.prog.info? 49).map (·.size) = some (#[.int .i64 (min p0_ p6_), .int .i64 (min p1_ p7_), .int .i64 (min p2_ p8_), .int .i64 (max p3_ p9_), .int .i64 (max p4_ p10_), .int .i64 (max p5_ p11_)] : Array Value).size by kernel_rfl)
  have hHz := Lib.hid (show (#[.int .i64 0, .int .i64 0, .int .i64 0, .int .i64 0, .int .i64 0, .int .i64 0] : Array Value).size = (#[.int .i64 (min p0_ p6_), .int .i64 (min p1_ p7_), .int .i64 (min p2_ p8_), .int .i64 (max p3_ p9_), .int .i64 (max p4_ p10_), .int .i64 (max p5_ p11_)] : Array Value).size from rfl)
  have hHo := Lib.hid (show (#[.int .i64 (min p0_ p6_), .int .i64 (min p1_ p7_), .int .i64 (min p2_ p8_), .int .i64 (max p3_ p9_), .int .i64 (max p4_ p10_), .int .i64 (max p5_ p11_)] : Array Value).all (·.oneCell') = true by simp [Value.oneCell'])
  go_wp2_with (first | (refine Au.wpList_store_row rfl 49 (.tmp 2) (.tmp 8) rfl y2 #[.int .i64 0, .int .i64 0, .int .i64 0, .int .i64 0, .int .i64 0, .int .i64 0] #[.int .i64 (min p0_ p6_), .int .i64 (min p1_ p7_), .int .i64 (min p2_ p8_), .int .i64 (max p3_ p9_), .int .i64 (max p4_ p10_), .int .i64 (max p5_ p11_)] (w.heap.size + 1) 49 hHr.out rfl rfl hHi.out hHz.out hHo.out ?_))
  clear hHr hHi hHz hHo
  have hN := setRow_heap _ (w.heap.size + 1) _ #[.int .i64 (min p0_ p6_), .int .i64 (min p1_ p7_), .int .i64 (min p2_ p8_), .int .i64 (max p3_ p9_), .int .i64 (max p4_ p10_), .int .i64 (max p5_ p11_)] _ _ hr2_1
  have hsz := HU2.out.size
  have HUx := below_setRow (g := w.heap.size + 1) HU2.out (by first | omega | (simp at *; omega)) #[.int .i64 (min p0_ p6_), .int .i64 (min p1_ p7_), .int .i64 (min p2_ p8_), .int .i64 (max p3_ p9_), .int .i64 (max p4_ p10_), .int .i64 (max p5_ p11_)]
  have hO : ∀ kk, kk ≠ w.heap.size + 1 → (y2.setRow (w.heap.size + 1) #[.int .i64 (min p0_ p6_), .int .i64 (min p1_ p7_), .int .i64 (min p2_ p8_), .int .i64 (max p3_ p9_), .int .i64 (max p4_ p10_), .int .i64 (max p5_ p11_)]).heap[kk]? = y2.heap[kk]? := fun kk hk => setRow_other _ _ _ _ hk
  obtain ⟨y3, hy3⟩ : ∃ y, y2.setRow (w.heap.size + 1) #[.int .i64 (min p0_ p6_), .int .i64 (min p1_ p7_), .int .i64 (min p2_ p8_), .int .i64 (max p3_ p9_), .int .i64 (max p4_ p10_), .int .i64 (max p5_ p11_)] = y := ⟨_, rfl⟩
  rw [hy3] at hN HUx hO ⊢
  clear hy3 hsz
  have HU3 := Lib.hid HUx
  clear HUx
  have hr3_0 := (hO _ (by omega)).trans hr2_0
  have hr3_1 := hN
  have hr3_2 := (hO _ (by omega)).trans hr2_2
  clear hN hO
  clear hr2_0 hr2_1 hr2_2 HU2
  have c1_0 := cell_of_row _ _ 0 _ _ _ hr3_1
  have c1_1 := cell_of_row _ _ 1 _ _ _ hr3_1
  have c1_2 := cell_of_row _ _ 2 _ _ _ hr3_1
  have c1_3 := cell_of_row _ _ 3 _ _ _ hr3_1
  have c1_4 := cell_of_row _ _ 4 _ _ _ hr3_1
  have c1_5 := cell_of_row _ _ 5 _ _ _ hr3_1
  simp at c1_0 c1_1 c1_2 c1_3 c1_4 c1_5
  go_wp2
  exact bodyPost_ret (v := .agg #[.int .i64 (min p0_ p6_), .int .i64 (min p1_ p7_), .int .i64 (min p2_ p8_), .int .i64 (max p3_ p9_), .int .i64 (max p4_ p10_), .int .i64 (max p5_ p11_)]) (by simp [results, Try.results36, go_sem, c1_0, c1_1, c1_2, c1_3, c1_4, c1_5]) rfl ⟨rfl, HU3.out⟩

set_option maxHeartbeats 4000000 in
set_option maxRecDepth 100000 in
theorem rmiddle_any (p0_ p1_ p2_ p3_ p4_ p5_ p6_ p7_ p8_ p9_ p10_ p11_ : Int) (w : World)  : Calls Try.prog 30 #[.agg #[.int .i64 p0_, .int .i64 p1_, .int .i64 p2_, .int .i64 p3_, .int .i64 p4_, .int .i64 p5_, .int .i64 p6_, .int .i64 p7_, .int .i64 p8_, .int .i64 p9_, .int .i64 p10_, .int .i64 p11_]] w fun e' w' => e' = .returned (.agg #[.int .i64 (Pl.lerp (min p0_ p6_) (max p3_ p9_) 32768), .int .i64 (Pl.lerp (min p1_ p7_) (max p4_ p10_) 32768), .int .i64 (Pl.lerp (min p2_ p8_) (max p5_ p11_) 32768)]) ∧ Below w.heap.size w w' := by
  go_enter Try.func30, Try.ntmps30
  go_upto_region 1 with fail
  have hR := Au.rows2 w (.cells #[.int .i64 p0_, .int .i64 p1_, .int .i64 p2_, .int .i64 p3_, .int .i64 p4_, .int .i64 p5_, .int .i64 p6_, .int .i64 p7_, .int .i64 p8_, .int .i64 p9_, .int .i64 p10_, .int .i64 p11_] 51) (.cells #[.int .i64 0, .int .i64 0, .int .i64 0] 47)
  have HUx := below_n2 w (.cells #[.int .i64 p0_, .int .i64 p1_, .int .i64 p2_, .int .i64 p3_, .int .i64 p4_, .int .i64 p5_, .int .i64 p6_, .int .i64 p7_, .int .i64 p8_, .int .i64 p9_, .int .i64 p10_, .int .i64 p11_] 51) (.cells #[.int .i64 0, .int .i64 0, .int .i64 0] 47)
  obtain ⟨y0, hy0⟩ : ∃ y0, (w.alloc (.cells #[.int .i64 p0_, .int .i64 p1_, .int .i64 p2_, .int .i64 p3_, .int .i64 p4_, .int .i64 p5_, .int .i64 p6_, .int .i64 p7_, .int .i64 p8_, .int .i64 p9_, .int .i64 p10_, .int .i64 p11_] 51)).alloc (.cells #[.int .i64 0, .int .i64 0, .int .i64 0] 47) = y0 := ⟨_, rfl⟩
  rw [hy0] at hR HUx ⊢
  clear hy0
  have HU0 := Lib.hid HUx
  clear HUx
  obtain ⟨hr0_0, hr0_1⟩ := hR
  have c0_0 := cell_of_row _ _ 0 _ _ _ hr0_0
  have c0_1 := cell_of_row _ _ 1 _ _ _ hr0_0
  have c0_2 := cell_of_row _ _ 2 _ _ _ hr0_0
  have c0_3 := cell_of_row _ _ 3 _ _ _ hr0_0
  have c0_4 := cell_of_row _ _ 4 _ _ _ hr0_0
  have c0_5 := cell_of_row _ _ 5 _ _ _ hr0_0
  have c0_6 := cell_of_row _ _ 6 _ _ _ hr0_0
  have c0_7 := cell_of_row _ _ 7 _ _ _ hr0_0
  have c0_8 := cell_of_row _ _ 8 _ _ _ hr0_0
  have c0_9 := cell_of_row _ _ 9 _ _ _ hr0_0
  have c0_10 := cell_of_row _ _ 10 _ _ _ hr0_0
  have c0_11 := cell_of_row _ _ 11 _ _ _ hr0_0
  simp at c0_0 c0_1 c0_2 c0_3 c0_4 c0_5 c0_6 c0_7 c0_8 c0_9 c0_10 c0_11
  go_wp2_with fail
  refine (rwhole_any _ _ _ _ _ _ _ _ _ _ _ _ _).mono ?_
  rintro e y1 ⟨rfl, hb1⟩
  clear c0_0 c0_1 c0_2 c0_3 c0_4 c0_5 c0_6 c0_7 c0_8 c0_9 c0_10 c0_11
  have hr1_0 := (hb1.block _ (lt_heap hr0_0)).trans hr0_0
  have hr1_1 := (hb1.block _ (lt_heap hr0_1)).trans hr0_1
  have HU1 := Lib.hid (HU0.out.trans (hb1.mono HU0.out.size))
  clear hr0_0 hr0_1 HU0
  have c0_0 := cell_of_row _ _ 0 _ _ _ hr1_0
  have c0_1 := cell_of_row _ _ 1 _ _ _ hr1_0
  have c0_2 := cell_of_row _ _ 2 _ _ _ hr1_0
  have c0_3 := cell_of_row _ _ 3 _ _ _ hr1_0
  have c0_4 := cell_of_row _ _ 4 _ _ _ hr1_0
  have c0_5 := cell_of_row _ _ 5 _ _ _ hr1_0
  have c0_6 := cell_of_row _ _ 6 _ _ _ hr1_0
  have c0_7 := cell_of_row _ _ 7 _ _ _ hr1_0
  have c0_8 := cell_of_row _ _ 8 _ _ _ hr1_0
  have c0_9 := cell_of_row _ _ 9 _ _ _ hr1_0
  have c0_10 := cell_of_row _ _ 10 _ _ _ hr1_0
  have c0_11 := cell_of_row _ _ 11 _ _ _ hr1_0
  have c1_0 := cell_of_row _ _ 0 _ _ _ hr1_1
  have c1_1 := cell_of_row _ _ 1 _ _ _ hr1_1
  have c1_2 := cell_of_row _ _ 2 _ _ _ hr1_1
  simp at c0_0 c0_1 c0_2 c0_3 c0_4 c0_5 c0_6 c0_7 c0_8 c0_9 c0_10 c0_11 c1_0 c1_1 c1_2
  have HA := Lib.hid (heap_alloc_last y1 (.cells #[.int .i64 0, .int .i64 0, .int .i64 0, .int .i64 0, .int .i64 0, .int .i64 0] 49))
  have hHi := Lib.hid (show (Try.prog.info? 49).map (·.size) = some (#[.int .i64 (min p0_ p6_), .int .i64 (min p1_ p7_), .int .i64 (min p2_ p8_), .int .i64 (max p3_ p9_), .int .i64 (max p4_ p10_), .int .i64 (max p5_ p11_)] : Array Value).size by kernel_rfl)
  have hHz := Lib.hid (show (#[.int .i64 0, .int .i64 0, .int .i64 0, .int .i64 0, .int .i64 0, .int .i64 0] : Array Value).size = (#[.int .i64 (min p0_ p6_), .int .i64 (min p1_ p7_), .int .i64 (min p2_ p8_), .int .i64 (max p3_ p9_), .int .i64 (max p4_ p10_), .int .i64 (max p5_ p11_)] : Array Value).size from rfl)
  have hHo := Lib.hid (show (#[.int .i64 (min p0_ p6_), .int .i64 (min p1_ p7_), .int .i64 (min p2_ p8_), .int .i64 (max p3_ p9_), .int .i64 (max p4_ p10_), .int .i64 (max p5_ p11_)] : Array Value).all (·.oneCell') = true by simp [Value.oneCell'])
  go_upto_region 2 with (refine Au.wpList_store_row rfl 49 (.tmp 3) (.tmp 5) rfl (y1.alloc (.cells #[.int .i64 0, .int .i64 0, .int .i64 0, .int .i64 0, .int .i64 0, .int .i64 0] 49)) #[.int .i64 0, .int .i64 0, .int .i64 0, .int .i64 0, .int .i64 0, .int .i64 0] #[.int .i64 (min p0_ p6_), .int .i64 (min p1_ p7_), .int .i64 (min p2_ p8_), .int .i64 (max p3_ p9_), .int .i64 (max p4_ p10_), .int .i64 (max p5_ p11_)] (y1.heap.size) 49 HA.out rfl rfl hHi.out hHz.out hHo.out ?_)
  clear c0_0 c0_1 c0_2 c0_3 c0_4 c0_5 c0_6 c0_7 c0_8 c0_9 c0_10 c0_11 c1_0 c1_1 c1_2
  clear hHi hHz hHo
  have hN := setRow_heap _ (y1.heap.size) _ #[.int .i64 (min p0_ p6_), .int .i64 (min p1_ p7_), .int .i64 (min p2_ p8_), .int .i64 (max p3_ p9_), .int .i64 (max p4_ p10_), .int .i64 (max p5_ p11_)] _ _ HA.out
  clear HA
  have hsz := HU1.out.size
  have hb := below_n1 y1 (.cells #[.int .i64 0, .int .i64 0, .int .i64 0, .int .i64 0, .int .i64 0, .int .i64 0] 49)
  have HUx := below_setRow (g := y1.heap.size) (HU1.out.trans (hb.mono HU1.out.size)) (by omega) #[.int .i64 (min p0_ p6_), .int .i64 (min p1_ p7_), .int .i64 (min p2_ p8_), .int .i64 (max p3_ p9_), .int .i64 (max p4_ p10_), .int .i64 (max p5_ p11_)]
  have hO : ∀ kk, kk < y1.heap.size → ((y1.alloc (.cells #[.int .i64 0, .int .i64 0, .int .i64 0, .int .i64 0, .int .i64 0, .int .i64 0] 49)).setRow (y1.heap.size) #[.int .i64 (min p0_ p6_), .int .i64 (min p1_ p7_), .int .i64 (min p2_ p8_), .int .i64 (max p3_ p9_), .int .i64 (max p4_ p10_), .int .i64 (max p5_ p11_)]).heap[kk]? = y1.heap[kk]? := fun kk hk => (setRow_other _ _ _ _ (by omega)).trans (hb.block _ hk)
  obtain ⟨y2, hy2⟩ : ∃ y, (y1.alloc (.cells #[.int .i64 0, .int .i64 0, .int .i64 0, .int .i64 0, .int .i64 0, .int .i64 0] 49)).setRow (y1.heap.size) #[.int .i64 (min p0_ p6_), .int .i64 (min p1_ p7_), .int .i64 (min p2_ p8_), .int .i64 (max p3_ p9_), .int .i64 (max p4_ p10_), .int .i64 (max p5_ p11_)] = y := ⟨_, rfl⟩
  have hs2 : y2.heap.size = y1.heap.size + 1 := by rw [← hy2]; simp [World.setRow]
  rw [hy2] at hN HUx hO ⊢
  clear hy2 hsz hb
  have HU2 := Lib.hid HUx
  clear HUx
  have hl2_0 := lt_heap hr1_0
  have hr2_0 := (hO _ hl2_0).trans hr1_0
  have hl2_1 := lt_heap hr1_1
  have hr2_1 := (hO _ hl2_1).trans hr1_1
  have hr2_2 := hN
  clear hN hO
  clear hr1_0 hr1_1 HU1
  have c2_0 := cell_of_row _ _ 0 _ _ _ hr2_2
  have c2_1 := cell_of_row _ _ 1 _ _ _ hr2_2
  have c2_2 := cell_of_row _ _ 2 _ _ _ hr2_2
  have c2_3 := cell_of_row _ _ 3 _ _ _ hr2_2
  have c2_4 := cell_of_row _ _ 4 _ _ _ hr2_2
  have c2_5 := cell_of_row _ _ 5 _ _ _ hr2_2
  simp at c2_0 c2_1 c2_2 c2_3 c2_4 c2_5
  go_wp2_with fail
  refine (rmix_any _ _ _ _ _ _ _ _).mono ?_
  rintro e y3 ⟨rfl, hb3⟩
  clear c2_0 c2_1 c2_2 c2_3 c2_4 c2_5
  have hr3_0 := (hb3.block _ (lt_heap hr2_0)).trans hr2_0
  have hr3_1 := (hb3.block _ (lt_heap hr2_1)).trans hr2_1
  have hr3_2 := (hb3.block _ (lt_heap hr2_2)).trans hr2_2
  have HU3 := Lib.hid (HU2.out.trans (hb3.mono HU2.out.size))
  clear hr2_0 hr2_1 hr2_2 HU2
  have hHr := Lib.hid hr3_1
  have hHi := Lib.hid (show (Try.prog.info? 47).map (·.size) = some (#[.int .i64 (Pl.lerp (min p0_ p6_) (max p3_ p9_) 32768), .int .i64 (Pl.lerp (min p1_ p7_) (max p4_ p10_) 32768), .int .i64 (Pl.lerp (min p2_ p8_) (max p5_ p11_) 32768)] : Array Value).size by kernel_rfl)
  have hHz := Lib.hid (show (#[.int .i64 0, .int .i64 0, .int .i64 0] : Array Value).size = (#[.int .i64 (Pl.lerp (min p0_ p6_) (max p3_ p9_) 32768), .int .i64 (Pl.lerp (min p1_ p7_) (max p4_ p10_) 32768), .int .i64 (Pl.lerp (min p2_ p8_) (max p5_ p11_) 32768)] : Array Value).size from rfl)
  have hHo := Lib.hid (show (#[.int .i64 (Pl.lerp (min p0_ p6_) (max p3_ p9_) 32768), .int .i64 (Pl.lerp (min p1_ p7_) (max p4_ p10_) 32768), .int .i64 (Pl.lerp (min p2_ p8_) (max p5_ p11_) 32768)] : Array Value).all (·.oneCell') = true by simp [Value.oneCell'])
  go_wp2_with (first | (refine Au.wpList_store_row rfl 47 (.tmp 2) (.tmp 10) rfl y3 #[.int .i64 0, .int .i64 0, .int .i64 0] #[.int .i64 (Pl.lerp (min p0_ p6_) (max p3_ p9_) 32768), .int .i64 (Pl.lerp (min p1_ p7_) (max p4_ p10_) 32768), .int .i64 (Pl.lerp (min p2_ p8_) (max p5_ p11_) 32768)] (w.heap.size + 1) 47 hHr.out rfl rfl hHi.out hHz.out hHo.out ?_))
  clear hHr hHi hHz hHo
  have hN := setRow_heap _ (w.heap.size + 1) _ #[.int .i64 (Pl.lerp (min p0_ p6_) (max p3_ p9_) 32768), .int .i64 (Pl.lerp (min p1_ p7_) (max p4_ p10_) 32768), .int .i64 (Pl.lerp (min p2_ p8_) (max p5_ p11_) 32768)] _ _ hr3_1
  have hsz := HU3.out.size
  have HUx := below_setRow (g := w.heap.size + 1) HU3.out (by first | omega | (simp at *; omega)) #[.int .i64 (Pl.lerp (min p0_ p6_) (max p3_ p9_) 32768), .int .i64 (Pl.lerp (min p1_ p7_) (max p4_ p10_) 32768), .int .i64 (Pl.lerp (min p2_ p8_) (max p5_ p11_) 32768)]
  have hO : ∀ kk, kk ≠ w.heap.size + 1 → (y3.setRow (w.heap.size + 1) #[.int .i64 (Pl.lerp (min p0_ p6_) (max p3_ p9_) 32768), .int .i64 (Pl.lerp (min p1_ p7_) (max p4_ p10_) 32768), .int .i64 (Pl.lerp (min p2_ p8_) (max p5_ p11_) 32768)]).heap[kk]? = y3.heap[kk]? := fun kk hk => setRow_other _ _ _ _ hk
  obtain ⟨y4, hy4⟩ : ∃ y, y3.setRow (w.heap.size + 1) #[.int .i64 (Pl.lerp (min p0_ p6_) (max p3_ p9_) 32768), .int .i64 (Pl.lerp (min p1_ p7_) (max p4_ p10_) 32768), .int .i64 (Pl.lerp (min p2_ p8_) (max p5_ p11_) 32768)] = y := ⟨_, rfl⟩
  rw [hy4] at hN HUx hO ⊢
  clear hy4 hsz
  have HU4 := Lib.hid HUx
  clear HUx
  have hr4_0 := (hO _ (by omega)).trans hr3_0
  have hr4_1 := hN
  have hr4_2 := (hO _ (by omega)).trans hr3_2
  clear hN hO
  clear hr3_0 hr3_1 hr3_2 HU3
  have c1_0 := cell_of_row _ _ 0 _ _ _ hr4_1
  have c1_1 := cell_of_row _ _ 1 _ _ _ hr4_1
  have c1_2 := cell_of_row _ _ 2 _ _ _ hr4_1
  simp at c1_0 c1_1 c1_2
  go_wp2
  exact bodyPost_ret (v := .agg #[.int .i64 (Pl.lerp (min p0_ p6_) (max p3_ p9_) 32768), .int .i64 (Pl.lerp (min p1_ p7_) (max p4_ p10_) 32768), .int .i64 (Pl.lerp (min p2_ p8_) (max p5_ p11_) 32768)]) (by simp [results, Try.results30, go_sem, c1_0, c1_1, c1_2]) rfl ⟨rfl, HU4.out⟩

theorem rpart_any (x low wide : Int) (w : World) : Calls Try.prog 34 #[.int .i64 x, .int .i64 low, .int .i64 wide] w fun e w' => e = .returned (.int .i64 (part x low wide)) ∧ w = w' := by
  obtain ⟨m, hm⟩ : ∃ m, m = Pl.mul 524288 (Pl.div (Pl.sub x low) wide) := ⟨_, rfl⟩
  have hlo : -2147483648 ≤ m := by rw [hm]; exact Pl.held_lo _
  have hhi : m ≤ 2147483648 := by rw [hm]; exact Pl.held_hi _
  have hp : part x low wide = if 7 < m / 65536 then 7 else m / 65536 := by unfold part; rw [← hm]
  have HM := Lib.hid hm
  have HP := Lib.hid hp
  clear hm hp
  by_cases h : 7 < m / 65536
  · have d := decide_eq_true h
    go_enter Try.func34, Try.ntmps34
    go_wp2_with (first | (go_at_call 53; refine (refSub_any _ _ _).mono ?_; rintro e ww ⟨rfl, rfl⟩) | (go_at_call 57; refine (refDiv_any _ _ _).mono ?_; rintro e ww ⟨rfl, rfl⟩) | (go_at_call 56; refine (refMul_any _ _ _).mono ?_; rintro e ww ⟨rfl, rfl⟩; rw [← HM.out]) | (go_at_call 55; refine (down_any _ _ (by omega) (by omega) (by omega) (by omega) _).mono ?_; rintro e ww ⟨rfl, rfl⟩))
    go_ret
    exact ⟨by rw [HP.out, if_pos h]; rfl, rfl⟩
  · have d := decide_eq_false h
    have HN := Lib.hid h
    go_enter Try.func34, Try.ntmps34
    go_wp2_with (first | (go_at_call 53; refine (refSub_any _ _ _).mono ?_; rintro e ww ⟨rfl, rfl⟩) | (go_at_call 57; refine (refDiv_any _ _ _).mono ?_; rintro e ww ⟨rfl, rfl⟩) | (go_at_call 56; refine (refMul_any _ _ _).mono ?_; rintro e ww ⟨rfl, rfl⟩; rw [← HM.out]) | (go_at_call 55; refine (down_any _ _ (by omega) (by omega) (by omega) (by omega) _).mono ?_; rintro e ww ⟨rfl, rfl⟩))
    go_ret
    exact ⟨by rw [HP.out, if_neg (Int.not_lt.mpr HN.out)]; rfl, rfl⟩

end Go.Proofs.Ytoppcnkfgmbpfaa.Tr
