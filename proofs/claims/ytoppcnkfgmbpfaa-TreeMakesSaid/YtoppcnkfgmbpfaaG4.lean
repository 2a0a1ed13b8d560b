/- TreeMakes (zoetropelaw13): the law's walk. -/
import Derived.Test.YtoppcnkfgmbpfaaG3
namespace Go.Proofs.Ytoppcnkfgmbpfaa.treeMakesW
open Go.RowKit Go.Proofs.Ytoppcnkfgmbpfaa Go.Proofs.Ytoppcnkfgmbpfaa.Wa Go.Proofs.Ytoppcnkfgmbpfaa.Ve Go.Proofs.Ytoppcnkfgmbpfaa.Au Go.Proofs.Ytoppcnkfgmbpfaa.Bx Go.Proofs.Ytoppcnkfgmbpfaa.Tr
set_option linter.unusedVariables false
set_option linter.unusedSimpArgs false

set_option maxHeartbeats 8000000 in
set_option maxRecDepth 100000 in
theorem walk (a1 : Option Addr) (n c1 : Nat) (L : Nat → Int) (w : World) (hl : Ni.Nums 12 w a1 n L) :
    Calls Try.prog 3 #[.slice a1 n c1] w fun e w' => e = .returned (.bool true) ∧ Below w.heap.size w w' := by

  by_cases hbig : 140 < n
  · have hbi : (140 : Int) < (n : Int) := by omega
    clear hl
    go_enter Try.func3, Try.ntmps3
    go_wp2_with (go_at_call 5; refine (awake_tree _).mono ?_; rintro e y9 ⟨rfl, hb9⟩)
    go_ret
    exact ⟨rfl, hb9⟩
  have hsm : ¬ (140 : Int) < (n : Int) := by omega
  have hn : n ≤ 140 := by omega
  have HPR := Lib.hid (pairs_l a1 n c1 L (by omega) w hl)
  have HNL := Lib.hid hl
  clear hl hbig
  go_enter Try.func3, Try.ntmps3
  go_wp2_with fail
  refine HPR.out.mono ?_
  rintro e y0 ⟨⟨vp, rfl, hop⟩, hb0⟩
  have HMK := Lib.hid (make2 L n w.heap.size hn vp y0 hop)
  obtain ⟨ap, kp, rfl⟩ := own_slice hop
  clear hop HPR
  go_wp2_with fail
  refine HMK.out.mono ?_
  rintro e y1 ⟨⟨t, rfl, vn, vo, rfl, hvn, hvo⟩, hb1⟩
  have hb01 := hb0.trans (hb1.mono hb0.size)
  have HRM := Lib.hid (rmake2 L n c1 a1 hn y1 (HNL.out.on hb01))
  have hml := mk2_len L n
  obtain ⟨an, kn, hvn2⟩ := own_slice hvn
  obtain ⟨ao, ko, hvo2⟩ := own_slice hvo
  subst hvn2
  subst hvo2
  go_wp2_with fail
  refine HRM.out.mono ?_
  rintro e y2 ⟨⟨t2, rfl, rn, ro, rfl, hR⟩, hb2⟩
  obtain ⟨bn, kb, hrn2⟩ := own_slice hR.rn
  obtain ⟨bo, qb, hro2⟩ := own_slice hR.ro
  subst hrn2
  subst hro2
  have HVN := Lib.hid (own_keep (w' := y2) hvn fun q hq => hb2.block q (hvn.lt q hq).2)
  have HVO := Lib.hid (own_keep (w' := y2) hvo fun q hq => hb2.block q (hvo.lt q hq).2)
  have HRN := Lib.hid hR.rn
  have HRO := Lib.hid hR.ro
  have HW2 := Lib.hid (hb01.trans (hb2.mono hb01.size))
  have hw2 := HW2.out.size
  have HDP := Lib.hid (fun (v vo : Value) (b : Nat) (W : World) hvo hr => deep2 L n b v vo W hvo hr)
  have HDR := Lib.hid (fun (v vo : Value) (b : Nat) (W : World) hvo hr => rdeep2 L n b v vo W hvo hr)
  obtain ⟨dd, hdd⟩ : ∃ d, d = deepN L n := ⟨_, rfl⟩
  rw [← hdd] at HDP HDR
  obtain ⟨NS, hNS⟩ : ∃ x, x = (mk2 L n).1 := ⟨_, rfl⟩
  obtain ⟨OD, hOD⟩ : ∃ x, x = (mk2 L n).2 := ⟨_, rfl⟩
  rw [← hNS] at HVN HRN HDP HDR hml ⊢
  rw [← hOD] at HVO HRO hml ⊢
  obtain ⟨len, hlen⟩ : ∃ x, x = NS.length := ⟨_, rfl⟩
  obtain ⟨ol, hol⟩ : ∃ x, x = OD.length := ⟨_, rfl⟩
  rw [← hlen] at HVN HRN HDP HDR hml ⊢
  rw [← hol] at HVO HRO hml ⊢
  have HLN := Lib.hid hlen
  have HOLN := Lib.hid hol
  have hlm := hml.2
  have hom := hml.1
  clear hvn hvo hR hb0 hb1 hb2 hb01 HMK HRM hml hdd hNS hOD hlen hol HNL
  have HHA := Lib.hid (Au.rows2 y2 (.cells #[.slice none 0 0, .slice none 0 0] 27) (.cells #[.slice none 0 0, .slice none 0 0] 33))
  have hi1 := Lib.hid (show (Try.prog.info? 27).map (·.size) = some (#[.slice an len kn, .slice ao ol ko] : Array Value).size by kernel_rfl)
  have hi2 := Lib.hid (show (Try.prog.info? 33).map (·.size) = some (#[.slice bn len kb, .slice bo ol qb] : Array Value).size by kernel_rfl)
  have ho1 := Lib.hid (show (#[.slice an len kn, .slice ao ol ko] : Array Value).all (·.oneCell') = true by simp [Value.oneCell'])
  have ho2 := Lib.hid (show (#[.slice bn len kb, .slice bo ol qb] : Array Value).all (·.oneCell') = true by simp [Value.oneCell'])
  have HHB := Lib.hid ((setRow_other ((y2.alloc (.cells #[.slice none 0 0, .slice none 0 0] 27)).alloc (.cells #[.slice none 0 0, .slice none 0 0] 33)) y2.heap.size (y2.heap.size + 1) #[.slice an len kn, .slice ao ol ko] (by omega)).trans HHA.out.2)
  go_upto_region 4 with (first | (refine Au.wpList_store_row rfl 27 (.tmp 3) (.tmp 16) rfl ((y2.alloc (.cells #[.slice none 0 0, .slice none 0 0] 27)).alloc (.cells #[.slice none 0 0, .slice none 0 0] 33)) #[.slice none 0 0, .slice none 0 0] #[.slice an len kn, .slice ao ol ko] y2.heap.size 27 HHA.out.1 rfl rfl hi1.out rfl ho1.out ?_) | (refine Au.wpList_store_row rfl 33 (.tmp 4) (.tmp 18) rfl (((y2.alloc (.cells #[.slice none 0 0, .slice none 0 0] 27)).alloc (.cells #[.slice none 0 0, .slice none 0 0] 33)).setRow y2.heap.size #[.slice an len kn, .slice ao ol ko]) #[.slice none 0 0, .slice none 0 0] #[.slice bn len kb, .slice bo ol qb] (y2.heap.size + 1) 33 HHB.out rfl rfl hi2.out rfl ho2.out ?_))
  have hz1 := (setRow_other (((y2.alloc (.cells #[.slice none 0 0, .slice none 0 0] 27)).alloc (.cells #[.slice none 0 0, .slice none 0 0] 33)).setRow y2.heap.size #[.slice an len kn, .slice ao ol ko]) (y2.heap.size + 1) y2.heap.size #[.slice bn len kb, .slice bo ol qb] (by omega)).trans (setRow_heap _ y2.heap.size _ #[.slice an len kn, .slice ao ol ko] _ _ HHA.out.1)
  have hz2 := setRow_heap _ (y2.heap.size + 1) _ #[.slice bn len kb, .slice bo ol qb] _ _ HHB.out
  have hbz := below_setRow (g := y2.heap.size + 1) (below_setRow (g := y2.heap.size) (below_n2 y2 (.cells #[.slice none 0 0, .slice none 0 0] 27) (.cells #[.slice none 0 0, .slice none 0 0] 33)) (Nat.le_refl _) #[.slice an len kn, .slice ao ol ko]) (by omega) #[.slice bn len kb, .slice bo ol qb]
  obtain ⟨z, hz⟩ : ∃ z, (((y2.alloc (.cells #[.slice none 0 0, .slice none 0 0] 27)).alloc (.cells #[.slice none 0 0, .slice none 0 0] 33)).setRow y2.heap.size #[.slice an len kn, .slice ao ol ko]).setRow (y2.heap.size + 1) #[.slice bn len kb, .slice bo ol qb] = z := ⟨_, rfl⟩
  rw [hz] at hz1 hz2 hbz ⊢
  obtain ⟨tp, htp⟩ : ∃ b, b = y2.heap.size := ⟨_, rfl⟩
  obtain ⟨tr, htr⟩ : ∃ b, b = y2.heap.size + 1 := ⟨_, rfl⟩
  rw [← htr] at hz2 ⊢
  rw [← htp] at hz1 ⊢
  clear hz htp htr hi1 hi2 ho1 ho2 HHA HHB
  have HVZ := Lib.hid (own_keep (w' := z) HVN.out fun q hq => hbz.block q (HVN.out.lt q hq).2)
  have HOZ := Lib.hid (own_keep (w' := z) HVO.out fun q hq => hbz.block q (HVO.out.lt q hq).2)
  have HRZ := Lib.hid (own_keep (w' := z) HRN.out fun q hq => hbz.block q (HRN.out.lt q hq).2)
  have HQZ := Lib.hid (own_keep (w' := z) HRO.out fun q hq => hbz.block q (HRO.out.lt q hq).2)
  have HWZ := Lib.hid (HW2.out.trans (hbz.mono hw2))
  have hwz := HWZ.out.size
  have HTP := Lib.hid hz1
  have HTR := Lib.hid hz2
  have htpl := lt_heap hz1
  have htrl := lt_heap hz2
  clear HVN HVO HRN HRO HW2 hw2 hbz
  have HD1 := Lib.hid (fun (W : World) (hb : Below z.heap.size z W) => HDP.out (.slice an len kn) (.slice ao ol ko) _ W ⟨_, _, _, rfl⟩ (own_keep (w' := W) HVZ.out fun q hq => hb.block q (HVZ.out.lt q hq).2))
  have HD2 := Lib.hid (fun (W : World) (hb : Below z.heap.size z W) => HDR.out (.slice bn len kb) (.slice bo ol qb) _ W ⟨_, _, _, rfl⟩ (own_keep (w' := W) HRZ.out fun q hq => hb.block q (HRZ.out.lt q hq).2))
  dsimp only [Act.put]
  obtain ⟨y5, hy5⟩ : ∃ y, z = y := ⟨_, rfl⟩
  have HU5 := Lib.hid (show Below z.heap.size z y5 by rw [← hy5]; exact Below.refl _ _)
  have hr5_0 : y5.heap[tp]? = some (.cells #[.slice an len kn, .slice ao ol ko] 27 (0, 0)) := by rw [← hy5]; exact hz1
  have hr5_1 : y5.heap[tr]? = some (.cells #[.slice bn len kb, .slice bo ol qb] 33 (0, 0)) := by rw [← hy5]; exact hz2
  rw [hy5]
  clear hy5 hz1 hz2
  refine wp_region_held_drew (S := fun y => y.heap[tp]? = some (.cells #[.slice an len kn, .slice ao ol ko] 27 (0, 0)) ∧ y.heap[tr]? = some (.cells #[.slice bn len kb, .slice bo ol qb] 33 (0, 0))) (by kernel_rfl) (⟨hr5_0, hr5_1⟩) (fun hS0 => ?_)
  obtain ⟨y6, hy6⟩ : ∃ y, y5.drew = y := ⟨_, rfl⟩
  have HU6 := Lib.hid (show Below z.heap.size z y6 by rw [← hy6]; exact HU5.out.drew)
  have hr6_0 : y6.heap[tp]? = some (.cells #[.slice an len kn, .slice ao ol ko] 27 (0, 0)) := by rw [← hy6]; exact hr5_0
  have hr6_1 : y6.heap[tr]? = some (.cells #[.slice bn len kb, .slice bo ol qb] 33 (0, 0)) := by rw [← hy6]; exact hr5_1
  rw [hy6] at hS0 ⊢
  clear hy6
  refine wpAnyH_take (i := 0) (v := ?_) rfl (by kernel_rfl) (by kernel_rfl) (by kernel_rfl) (fun _ _ _ h => h) (Or.inl ⟨by kernel_rfl, by (intro wz hSz; go_simp; try with_reducible rfl)⟩) hS0 ?_
  go_simp
  refine wpAnyH_take (i := 1) (v := ?_) rfl (by kernel_rfl) (by kernel_rfl) (by kernel_rfl) (fun _ _ _ h => h) (Or.inl ⟨by kernel_rfl, by (intro wz hSz; have c0_0 := cell_of_row _ _ 0 _ _ _ hSz.1; have c0_1 := cell_of_row _ _ 1 _ _ _ hSz.1; have c1_0 := cell_of_row _ _ 0 _ _ _ hSz.2; have c1_1 := cell_of_row _ _ 1 _ _ _ hSz.2; simp at c0_0 c0_1 c1_0 c1_1; go_simp; try with_reducible rfl)⟩) hS0 ?_
  go_simp
  refine wpAnyH_take (i := 2) (v := ?_) rfl (by kernel_rfl) (by kernel_rfl) (by kernel_rfl) (fun _ _ _ h => h) (Or.inl ⟨by kernel_rfl, by (intro wz hSz; go_simp; try with_reducible rfl)⟩) hS0 ?_
  go_simp
  refine wpAnyH_take (i := 3) (v := ?_) rfl (by kernel_rfl) (by kernel_rfl) (by kernel_rfl) (fun _ _ _ h => h) (Or.inl ⟨by kernel_rfl, by (intro wz hSz; go_simp; try with_reducible rfl)⟩) hS0 ?_
  go_simp
  refine wpAnyH_take (i := 4) (v := ?_) rfl (by kernel_rfl) (by kernel_rfl) (by kernel_rfl) (fun _ _ _ h => h) (Or.inl ⟨by kernel_rfl, by (intro wz hSz; have c0_0 := cell_of_row _ _ 0 _ _ _ hSz.1; have c0_1 := cell_of_row _ _ 1 _ _ _ hSz.1; have c1_0 := cell_of_row _ _ 0 _ _ _ hSz.2; have c1_1 := cell_of_row _ _ 1 _ _ _ hSz.2; simp at c0_0 c0_1 c1_0 c1_1; go_simp; try with_reducible rfl)⟩) hS0 ?_
  go_simp
  refine wpAnyH_take (i := 5) (v := ?_) rfl (by kernel_rfl) (by kernel_rfl) (by kernel_rfl) (fun _ _ _ h => h) (Or.inl ⟨by kernel_rfl, by (intro wz hSz; go_simp; try with_reducible rfl)⟩) hS0 ?_
  go_simp
  refine wpAnyH_take (i := 6) (v := ?_) rfl (by kernel_rfl) (by kernel_rfl) (by kernel_rfl) (fun _ _ _ h => h) (Or.inl ⟨by kernel_rfl, by (intro wz hSz; go_simp; try with_reducible rfl)⟩) hS0 ?_
  go_simp
  refine wpAnyH_take (i := 7) (v := ?_) rfl (by kernel_rfl) (by kernel_rfl) (by kernel_rfl) (fun _ _ _ h => h) (Or.inl ⟨by kernel_rfl, by (intro wz hSz; go_simp; try with_reducible rfl)⟩) hS0 ?_
  go_simp
  refine wpAnyH_take (i := 8) (v := ?_) rfl (by kernel_rfl) (by kernel_rfl) (by kernel_rfl) (fun _ _ _ h => h) (Or.inl ⟨by kernel_rfl, by (intro wz hSz; go_simp; try with_reducible rfl)⟩) hS0 ?_
  go_simp
  refine wpAnyH_take (i := 9) (v := ?_) rfl (by kernel_rfl) (by kernel_rfl) (by kernel_rfl) (fun _ _ _ h => h) (Or.inl ⟨by kernel_rfl, by (intro wz hSz; have c0_0 := cell_of_row _ _ 0 _ _ _ hSz.1; have c0_1 := cell_of_row _ _ 1 _ _ _ hSz.1; have c1_0 := cell_of_row _ _ 0 _ _ _ hSz.2; have c1_1 := cell_of_row _ _ 1 _ _ _ hSz.2; simp at c0_0 c0_1 c1_0 c1_1; go_simp; try with_reducible rfl)⟩) hS0 ?_
  go_simp
  refine wpAnyH_take (i := 10) (v := ?_) rfl (by kernel_rfl) (by kernel_rfl) (by kernel_rfl) (fun _ _ _ h => h) (Or.inl ⟨by kernel_rfl, by (intro wz hSz; go_simp; try with_reducible rfl)⟩) hS0 ?_
  go_simp
  refine wpAnyH_take (i := 11) (v := ?_) rfl (by kernel_rfl) (by kernel_rfl) (by kernel_rfl) (fun _ _ _ h => h) (Or.inl ⟨by kernel_rfl, by (intro wz hSz; go_simp; try with_reducible rfl)⟩) hS0 ?_
  go_simp
  refine wpAnyH_take (i := 12) (v := ?_) rfl (by kernel_rfl) (by kernel_rfl) (by kernel_rfl) (fun _ _ _ h => h) (Or.inl ⟨by kernel_rfl, by (intro wz hSz; have c0_0 := cell_of_row _ _ 0 _ _ _ hSz.1; have c0_1 := cell_of_row _ _ 1 _ _ _ hSz.1; have c1_0 := cell_of_row _ _ 0 _ _ _ hSz.2; have c1_1 := cell_of_row _ _ 1 _ _ _ hSz.2; simp at c0_0 c0_1 c1_0 c1_1; go_simp; try with_reducible rfl)⟩) hS0 ?_
  go_simp
  refine wpAnyH_take (i := 13) (v := ?_) rfl (by kernel_rfl) (by kernel_rfl) (by kernel_rfl) (fun _ _ _ h => h) (Or.inl ⟨by kernel_rfl, by (intro wz hSz; go_simp; try with_reducible rfl)⟩) hS0 ?_
  go_simp
  refine wpAnyH_take (i := 14) (v := ?_) rfl (by kernel_rfl) (by kernel_rfl) (by kernel_rfl) (fun _ _ _ h => h) (Or.inl ⟨by kernel_rfl, by (intro wz hSz; go_simp; try with_reducible rfl)⟩) hS0 ?_
  go_simp
  refine wpAnyH_take (i := 15) (v := ?_) rfl (by kernel_rfl) (by kernel_rfl) (by kernel_rfl) (fun _ _ _ h => h) (Or.inl ⟨by kernel_rfl, by (intro wz hSz; go_simp; try with_reducible rfl)⟩) hS0 ?_
  go_simp
  refine wpAnyH_take (i := 16) (v := ?_) rfl (by kernel_rfl) (by kernel_rfl) (by kernel_rfl) (fun _ _ _ h => h) (Or.inl ⟨by kernel_rfl, by (intro wz hSz; go_simp; try with_reducible rfl)⟩) hS0 ?_
  go_simp
  refine wpAnyH_take (i := 17) (v := ?_) rfl (by kernel_rfl) (by kernel_rfl) (by kernel_rfl) (fun _ _ _ h => h) (Or.inl ⟨by kernel_rfl, by (intro wz hSz; have c0_0 := cell_of_row _ _ 0 _ _ _ hSz.1; have c0_1 := cell_of_row _ _ 1 _ _ _ hSz.1; have c1_0 := cell_of_row _ _ 0 _ _ _ hSz.2; have c1_1 := cell_of_row _ _ 1 _ _ _ hSz.2; simp at c0_0 c0_1 c1_0 c1_1; go_simp; try with_reducible rfl)⟩) hS0 ?_
  go_simp
  refine wpAnyH_take (i := 19) (v := ?_) rfl (by kernel_rfl) (by kernel_rfl) (by kernel_rfl) (fun _ _ _ h => h) (Or.inl ⟨by kernel_rfl, by (intro wz hSz; have c0_0 := cell_of_row _ _ 0 _ _ _ hSz.1; have c0_1 := cell_of_row _ _ 1 _ _ _ hSz.1; have c1_0 := cell_of_row _ _ 0 _ _ _ hSz.2; have c1_1 := cell_of_row _ _ 1 _ _ _ hSz.2; simp at c0_0 c0_1 c1_0 c1_1; go_simp; try with_reducible rfl)⟩) hS0 ?_
  go_simp
  refine wpAnyH_ready (rs := [18]) (by kernel_rfl) (by simp) ?_
  refine AllReadyH.cons rfl (fun K hK => ?_) AllReadyH.nil
  go_simp
  go_wp2_with (go_at_call 9; refine (HD1.out _ HU6.out).mono ?_; rintro e y7 ⟨rfl, hb7⟩)
  have hr7_0 := (hb7.block _ (lt_heap hr6_0)).trans hr6_0
  have hr7_1 := (hb7.block _ (lt_heap hr6_1)).trans hr6_1
  have HU7 := Lib.hid (HU6.out.trans (hb7.mono HU6.out.size))
  refine hK.out _ _ (⟨(hb7.block _ (lt_heap hS0.1)).trans hS0.1, (hb7.block _ (lt_heap hS0.2)).trans hS0.2⟩) (fun hS7c => ?_)
  clear hK K
  refine wpAnyH_ready (rs := [20]) (by kernel_rfl) (by simp) ?_
  refine AllReadyH.cons rfl (fun K hK => ?_) AllReadyH.nil
  go_simp
  go_wp2_with (go_at_call 10; refine (HD2.out _ HU7.out).mono ?_; rintro e y8 ⟨rfl, hb8⟩)
  have hr8_0 := (hb8.block _ (lt_heap hr7_0)).trans hr7_0
  have hr8_1 := (hb8.block _ (lt_heap hr7_1)).trans hr7_1
  have HU8 := Lib.hid (HU7.out.trans (hb8.mono HU7.out.size))
  refine hK.out _ _ (⟨(hb8.block _ (lt_heap hS7c.1)).trans hS7c.1, (hb8.block _ (lt_heap hS7c.2)).trans hS7c.2⟩) (fun hS8c => ?_)
  clear hK K
  refine wpAnyH_take (i := 21) (v := ?_) rfl (by kernel_rfl) (by kernel_rfl) (by kernel_rfl) (fun _ _ _ h => h) (Or.inl ⟨by kernel_rfl, by (intro wz hSz; go_simp; try with_reducible rfl)⟩) hS8c ?_
  go_simp
  refine wpAnyH_take (i := 22) (v := ?_) rfl (by kernel_rfl) (by kernel_rfl) (by kernel_rfl) (fun _ _ _ h => h) (Or.inl ⟨by kernel_rfl, by (intro wz hSz; go_simp; try with_reducible rfl)⟩) hS8c ?_
  go_simp
  refine wpAnyH_done (by kernel_rfl) ?_ _
  have c0_0 := cell_of_row _ _ 0 _ _ _ hr8_0
  have c0_1 := cell_of_row _ _ 1 _ _ _ hr8_0
  have c1_0 := cell_of_row _ _ 0 _ _ _ hr8_1
  have c1_1 := cell_of_row _ _ 1 _ _ _ hr8_1
  simp at c0_0 c0_1 c1_0 c1_1
  go_upto_region 7 with fail
  clear c0_0 c0_1 c1_0 c1_1
  go_loopw [5, 6, 7, 45] (fun s5 s6 s7 i wr => ∃ k : Nat, k ≤ len ∧ i = .int .i64 k ∧ Hid (Below z.heap.size z wr)) (fun _ _ _ i _ => len - (intOf i).toNat)
  case atStart => exact ⟨0, by omega, rfl, HU8⟩
  case round =>
    obtain ⟨k, hk, rfl, HU⟩ := hrel
    have hbs := HU.out.size
    by_cases hlt' : k < len
    · have hki : (k : Int) < (len : Int) := by omega
      obtain ⟨nd, hnd⟩ : ∃ nd, NS[k]? = some nd := ⟨NS[k]'(by rw [← HLN.out]; exact hlt'), List.getElem?_eq_getElem _⟩
      have hfl : ∀ j v, (ncs L nd)[j]? = some v → j < 16 ∧ (flatNd L NS)[k * 16 + j]? = some v := fun j v hv => by
        have h16 : j < 16 := by
          rcases Nat.lt_or_ge j 16 with h1 | h1
          · exact h1
          · rw [List.getElem?_eq_none (by rw [ncs_len]; exact h1)] at hv; cases hv
        exact ⟨h16, flat_at L NS k nd hnd j v hv⟩
      rcases HVZ.out.2 with ⟨-, hx0⟩ | ⟨gn, cap, curn, hform, hgn, hcurn, -, -, -, -⟩
      · exact absurd hx0 (by omega)
      injection hform with e1 e2 e3
      subst e1
      subst e3
      rcases HRZ.out.2 with ⟨-, hx0⟩ | ⟨gr, cap2, curr, hform2, hgr, hcurr, -, -, -, -⟩
      · exact absurd hx0 (by omega)
      injection hform2 with e1 e2 e3
      subst e1
      subst e3
      have HRG := Lib.hid (show wr.rangeAt gn (k * 16) (ncs L nd) from fun j v hv => by
        obtain ⟨h1, h2⟩ := hfl j v hv
        exact (HU.out.cell (p := ⟨gn, k * 16 + j, none⟩) (lt_heap hcurn)).trans ((HVZ.out.cellAt (k * 16 + j) (by omega)).trans h2))
      have HRG2 := Lib.hid (show wr.rangeAt gr (k * 16) (ncs L nd) from fun j v hv => by
        obtain ⟨h1, h2⟩ := hfl j v hv
        exact (HU.out.cell (p := ⟨gr, k * 16 + j, none⟩) (lt_heap hcurr)).trans ((HRZ.out.cellAt (k * 16 + j) (by omega)).trans h2))
      have hgnl := lt_heap hcurn
      have hgrl := lt_heap hcurr
      have hr90_0 := (HU.out.block tr htrl).trans HTR.out
      obtain ⟨y90, rfl⟩ : ∃ y : World, y = wr := ⟨_, rfl⟩
      have HU90 := Lib.hid (Below.refl y90.heap.size y90)
      clear hnd hfl hcurn hcurr
      have HA := Lib.hid (heap_alloc_last y90 (.cells #[.int .i64 0, .int .i64 0, .int .i64 0, .int .i64 0, .int .i64 0, .int .i64 0, .int .i64 0, .int .i64 0, .int .i64 0, .int .i64 0, .int .i64 0, .int .i64 0, .int .i64 0, .int .i64 0, .int .i64 0, .int .i64 0] 45))
      have hHi := Lib.hid (show (Try.prog.info? 45).map (·.size) = some ((nrow L nd) : Array Value).size by kernel_rfl)
      have hHz := Lib.hid (show (#[.int .i64 0, .int .i64 0, .int .i64 0, .int .i64 0, .int .i64 0, .int .i64 0, .int .i64 0, .int .i64 0, .int .i64 0, .int .i64 0, .int .i64 0, .int .i64 0, .int .i64 0, .int .i64 0, .int .i64 0, .int .i64 0] : Array Value).size = ((nrow L nd) : Array Value).size from rfl)
      have hHo := Lib.hid (show ((nrow L nd) : Array Value).all (·.oneCell') = true from nrow_one L nd)
      go_upto_region 9 with (first | (with_reducible refine wpList_load_mid rfl 45 (.tmp 48) rfl gn (k * 16) rfl (ncs L nd) _ HRG.out Try.underlying45 rfl (by kernel_rfl) ?_) | (refine Au.wpList_store_row rfl 45 (.tmp 6) (.tmp 49) rfl (y90.alloc (.cells #[.int .i64 0, .int .i64 0, .int .i64 0, .int .i64 0, .int .i64 0, .int .i64 0, .int .i64 0, .int .i64 0, .int .i64 0, .int .i64 0, .int .i64 0, .int .i64 0, .int .i64 0, .int .i64 0, .int .i64 0, .int .i64 0] 45)) #[.int .i64 0, .int .i64 0, .int .i64 0, .int .i64 0, .int .i64 0, .int .i64 0, .int .i64 0, .int .i64 0, .int .i64 0, .int .i64 0, .int .i64 0, .int .i64 0, .int .i64 0, .int .i64 0, .int .i64 0, .int .i64 0] (nrow L nd) (y90.heap.size) 45 HA.out rfl rfl hHi.out hHz.out hHo.out ?_))
      clear hHi hHz hHo
      have hN := setRow_heap _ (y90.heap.size) _ (nrow L nd) _ _ HA.out
      clear HA
      have hsz := HU90.out.size
      have hb := below_n1 y90 (.cells #[.int .i64 0, .int .i64 0, .int .i64 0, .int .i64 0, .int .i64 0, .int .i64 0, .int .i64 0, .int .i64 0, .int .i64 0, .int .i64 0, .int .i64 0, .int .i64 0, .int .i64 0, .int .i64 0, .int .i64 0, .int .i64 0] 45)
      have HUx := below_setRow (g := y90.heap.size) (HU90.out.trans (hb.mono HU90.out.size)) (by omega) (nrow L nd)
      have hO : ∀ kk, kk < y90.heap.size → ((y90.alloc (.cells #[.int .i64 0, .int .i64 0, .int .i64 0, .int .i64 0, .int .i64 0, .int .i64 0, .int .i64 0, .int .i64 0, .int .i64 0, .int .i64 0, .int .i64 0, .int .i64 0, .int .i64 0, .int .i64 0, .int .i64 0, .int .i64 0] 45)).setRow (y90.heap.size) (nrow L nd)).heap[kk]? = y90.heap[kk]? := fun kk hk => (setRow_other _ _ _ _ (by omega)).trans (hb.block _ hk)
      obtain ⟨y91, hy91⟩ : ∃ y, (y90.alloc (.cells #[.int .i64 0, .int .i64 0, .int .i64 0, .int .i64 0, .int .i64 0, .int .i64 0, .int .i64 0, .int .i64 0, .int .i64 0, .int .i64 0, .int .i64 0, .int .i64 0, .int .i64 0, .int .i64 0, .int .i64 0, .int .i64 0] 45)).setRow (y90.heap.size) (nrow L nd) = y := ⟨_, rfl⟩
      have hs91 : y91.heap.size = y90.heap.size + 1 := by rw [← hy91]; simp [World.setRow]
      rw [hy91] at hN HUx hO ⊢
      clear hy91 hsz hb
      have HU91 := Lib.hid HUx
      clear HUx
      have hl91_0 := lt_heap hr90_0
      have hr91_0 := (hO _ hl91_0).trans hr90_0
      have hr91_1 := hN
      clear hN hO
      clear hr90_0 HU90
      have hs91x : y90.heap.size < y91.heap.size := by omega
      clear hs91
      obtain ⟨nb, hnb⟩ : ∃ b, b = y90.heap.size := ⟨_, rfl⟩
      have hnb91 : nb < y91.heap.size := by omega
      rw [← hnb] at hr91_1 ⊢
      clear hnb
      have HRG3 := Lib.hid (show y91.rangeAt gr (k * 16) (ncs L nd) from fun j v hv => (HU91.out.cell (p := ⟨gr, k * 16 + j, none⟩) (by show gr < _; have := HU.out.size; omega)).trans (HRG2.out j v hv))
      have c0_0 := cell_of_row _ _ 0 _ _ _ hr91_0
      have c0_1 := cell_of_row _ _ 1 _ _ _ hr91_0
      simp at c0_0 c0_1
      have HA := Lib.hid (heap_alloc_last y91 (.cells #[.int .i64 0, .int .i64 0, .int .i64 0, .int .i64 0, .int .i64 0, .int .i64 0, .int .i64 0, .int .i64 0, .int .i64 0, .int .i64 0, .int .i64 0, .int .i64 0, .int .i64 0, .int .i64 0, .int .i64 0, .int .i64 0] 53))
      have hHi := Lib.hid (show (Try.prog.info? 53).map (·.size) = some ((nrow L nd) : Array Value).size by kernel_rfl)
      have hHz := Lib.hid (show (#[.int .i64 0, .int .i64 0, .int .i64 0, .int .i64 0, .int .i64 0, .int .i64 0, .int .i64 0, .int .i64 0, .int .i64 0, .int .i64 0, .int .i64 0, .int .i64 0, .int .i64 0, .int .i64 0, .int .i64 0, .int .i64 0] : Array Value).size = ((nrow L nd) : Array Value).size from rfl)
      have hHo := Lib.hid (show ((nrow L nd) : Array Value).all (·.oneCell') = true from nrow_one L nd)
      go_upto_region 10 with (first | (with_reducible refine wpList_load_mid rfl 53 (.tmp 53) rfl gr (k * 16) rfl (ncs L nd) _ HRG3.out Try.underlying53 rfl (by kernel_rfl) ?_) | (refine Au.wpList_store_row rfl 53 (.tmp 7) (.tmp 54) rfl (y91.alloc (.cells #[.int .i64 0, .int .i64 0, .int .i64 0, .int .i64 0, .int .i64 0, .int .i64 0, .int .i64 0, .int .i64 0, .int .i64 0, .int .i64 0, .int .i64 0, .int .i64 0, .int .i64 0, .int .i64 0, .int .i64 0, .int .i64 0] 53)) #[.int .i64 0, .int .i64 0, .int .i64 0, .int .i64 0, .int .i64 0, .int .i64 0, .int .i64 0, .int .i64 0, .int .i64 0, .int .i64 0, .int .i64 0, .int .i64 0, .int .i64 0, .int .i64 0, .int .i64 0, .int .i64 0] (nrow L nd) (y91.heap.size) 53 HA.out rfl rfl hHi.out hHz.out hHo.out ?_))
      clear c0_0 c0_1
      clear hHi hHz hHo
      have hN := setRow_heap _ (y91.heap.size) _ (nrow L nd) _ _ HA.out
      clear HA
      have hsz := HU91.out.size
      have hb := below_n1 y91 (.cells #[.int .i64 0, .int .i64 0, .int .i64 0, .int .i64 0, .int .i64 0, .int .i64 0, .int .i64 0, .int .i64 0, .int .i64 0, .int .i64 0, .int .i64 0, .int .i64 0, .int .i64 0, .int .i64 0, .int .i64 0, .int .i64 0] 53)
      have HUx := below_setRow (g := y91.heap.size) (HU91.out.trans (hb.mono HU91.out.size)) (by omega) (nrow L nd)
      have hO : ∀ kk, kk < y91.heap.size → ((y91.alloc (.cells #[.int .i64 0, .int .i64 0, .int .i64 0, .int .i64 0, .int .i64 0, .int .i64 0, .int .i64 0, .int .i64 0, .int .i64 0, .int .i64 0, .int .i64 0, .int .i64 0, .int .i64 0, .int .i64 0, .int .i64 0, .int .i64 0] 53)).setRow (y91.heap.size) (nrow L nd)).heap[kk]? = y91.heap[kk]? := fun kk hk => (setRow_other _ _ _ _ (by omega)).trans (hb.block _ hk)
      obtain ⟨y92, hy92⟩ : ∃ y, (y91.alloc (.cells #[.int .i64 0, .int .i64 0, .int .i64 0, .int .i64 0, .int .i64 0, .int .i64 0, .int .i64 0, .int .i64 0, .int .i64 0, .int .i64 0, .int .i64 0, .int .i64 0, .int .i64 0, .int .i64 0, .int .i64 0, .int .i64 0] 53)).setRow (y91.heap.size) (nrow L nd) = y := ⟨_, rfl⟩
      have hs92 : y92.heap.size = y91.heap.size + 1 := by rw [← hy92]; simp [World.setRow]
      rw [hy92] at hN HUx hO ⊢
      clear hy92 hsz hb
      have HU92 := Lib.hid HUx
      clear HUx
      have hl92_0 := lt_heap hr91_0
      have hr92_0 := (hO _ hl92_0).trans hr91_0
      have hl92_1 := lt_heap hr91_1
      have hr92_1 := (hO _ hl92_1).trans hr91_1
      have hr92_2 := hN
      clear hN hO
      clear hr91_0 hr91_1 HU91
      obtain ⟨rb, hrb⟩ : ∃ b, b = y91.heap.size := ⟨_, rfl⟩
      rw [← hrb] at hr92_2 ⊢
      have hs90 := HU92.out.size
      have HUB := Lib.hid (HU.out.trans (HU92.out.mono hbs))
      obtain ⟨pf, hpf⟩ : ∃ f, f = pc L nd.l := ⟨_, rfl⟩
      have HPF := Lib.hid (show ∀ j v, ([.int .i64 (pf 0), .int .i64 (pf 1), .int .i64 (pf 2), .int .i64 (pf 3), .int .i64 (pf 4), .int .i64 (pf 5), .int .i64 (pf 6), .int .i64 (pf 7), .int .i64 (pf 8), .int .i64 (pf 9), .int .i64 (pf 10), .int .i64 (pf 11)] : List Value)[j]? = some v → (nrow L nd)[0 + j]? = some v from fun j v hv => by
        rw [hpf] at hv
        have h := pcs_ncs L nd j v hv
        rw [Nat.zero_add]
        simpa [nrow] using h)
      obtain ⟨c, hc⟩ : ∃ c, c = nd.count := ⟨_, rfl⟩
      obtain ⟨n12, h12⟩ : ∃ c, c = nd.left := ⟨_, rfl⟩
      obtain ⟨n13, h13⟩ : ∃ c, c = nd.right := ⟨_, rfl⟩
      obtain ⟨n14, h14⟩ : ∃ c, c = nd.first := ⟨_, rfl⟩
      have HN12 := Lib.hid (show (nrow L nd)[12]? = some (.int .i64 n12) from by rw [h12]; rfl)
      have HN13 := Lib.hid (show (nrow L nd)[13]? = some (.int .i64 n13) from by rw [h13]; rfl)
      have HN14 := Lib.hid (show (nrow L nd)[14]? = some (.int .i64 n14) from by rw [h14]; rfl)
      have HN15 := Lib.hid (show (nrow L nd)[15]? = some (.int .i64 c) from by rw [hc]; rfl)
      have HIL := Lib.hid (fun (W : World) => isLeaf_any (nrow L nd) c (by rw [hc]; rfl) rfl (nrow_one L nd) W)
      have HFP := Lib.hid (fun (W : World) => pfrompair_any (pf 0) (pf 1) (pf 2) (pf 3) (pf 4) (pf 5) (pf 6) (pf 7) (pf 8) (pf 9) (pf 10) (pf 11) W)
      have heq : ∀ W, (Op.equalIn 10000 51 (.agg #[.int .i64 (pf 0), .int .i64 (pf 1), .int .i64 (pf 2), .int .i64 (pf 3), .int .i64 (pf 4), .int .i64 (pf 5), .int .i64 (pf 6), .int .i64 (pf 7), .int .i64 (pf 8), .int .i64 (pf 9), .int .i64 (pf 10), .int .i64 (pf 11)]) (.agg #[.int .i64 (pf 0), .int .i64 (pf 1), .int .i64 (pf 2), .int .i64 (pf 3), .int .i64 (pf 4), .int .i64 (pf 5), .int .i64 (pf 6), .int .i64 (pf 7), .int .i64 (pf 8), .int .i64 (pf 9), .int .i64 (pf 10), .int .i64 (pf 11)])).run Try.prog W = .ok true W := fun W => eq_b12 _ _ _ _ _ _ _ _ _ _ _ _ W
      have hv3 : ∀ (x y z : Int) (W : World), (Op.equalIn 9998 47 (.agg #[.int .i64 x, .int .i64 y, .int .i64 z]) (.agg #[.int .i64 x, .int .i64 y, .int .i64 z])).run Try.prog W = .ok true W := fun x y z W => eq_v3d 9996 x y z W
      have HNCS := Lib.hid (show ∀ j v, (ncs L nd)[j]? = some v → (nrow L nd)[0 + j]? = some v from fun j v hv => by rw [Nat.zero_add]; simpa [nrow] using hv)
      clear hpf hc h12 h13 h14 hrb HRG HRG2 HRG3 hs92
      dsimp only [Act.put]
      obtain ⟨y70, hy70⟩ : ∃ y, y92 = y := ⟨_, rfl⟩
      have HUC := Lib.hid (show Below z.heap.size z y70 by rw [← hy70]; exact HUB.out)
      have hr70_0 : y70.heap[nb]? = some (.cells (nrow L nd) 45 (0, 0)) := by rw [← hy70]; exact hr92_1
      have hr70_1 : y70.heap[rb]? = some (.cells (nrow L nd) 53 (0, 0)) := by rw [← hy70]; exact hr92_2
      have HU70 := Lib.hid (Below.refl y70.heap.size y70)
      rw [hy70]
      clear hy70 HU92 HUB hr92_0 hr92_1 hr92_2
      refine wp_region_held_drew (S := fun y => y.heap[nb]? = some (.cells (nrow L nd) 45 (0, 0)) ∧ y.heap[rb]? = some (.cells (nrow L nd) 53 (0, 0))) (by kernel_rfl) (⟨hr70_0, hr70_1⟩) (fun hS0 => ?_)
      obtain ⟨y71, hy71⟩ : ∃ y, y70.drew = y := ⟨_, rfl⟩
      have HU71 := Lib.hid (show Below y70.heap.size y70 y71 by rw [← hy71]; exact HU70.out.drew)
      have hr71_0 : y71.heap[nb]? = some (.cells (nrow L nd) 45 (0, 0)) := by rw [← hy71]; exact hr70_0
      have hr71_1 : y71.heap[rb]? = some (.cells (nrow L nd) 53 (0, 0)) := by rw [← hy71]; exact hr70_1
      rw [hy71] at hS0 ⊢
      clear hy71
      refine wpAnyH_take (i := 0) (v := ?_) rfl (by kernel_rfl) (by kernel_rfl) (by kernel_rfl) (fun _ _ _ h => h) (Or.inl ⟨by kernel_rfl, by (intro wz hSz; go_simp; try with_reducible rfl)⟩) hS0 ?_
      go_simp
      refine wpAnyH_take (i := 1) (v := .agg #[.int .i64 (pf 0), .int .i64 (pf 1), .int .i64 (pf 2), .int .i64 (pf 3), .int .i64 (pf 4), .int .i64 (pf 5), .int .i64 (pf 6), .int .i64 (pf 7), .int .i64 (pf 8), .int .i64 (pf 9), .int .i64 (pf 10), .int .i64 (pf 11)]) rfl (by kernel_rfl) (by kernel_rfl) (by kernel_rfl) (fun _ _ _ h => h) (yieldsIf_load_mid (by kernel_rfl) 43 (.tmp 55) rfl nb 0 (by first | rfl | (go_simp; done) | (go_simp; rfl)) [.int .i64 (pf 0), .int .i64 (pf 1), .int .i64 (pf 2), .int .i64 (pf 3), .int .i64 (pf 4), .int .i64 (pf 5), .int .i64 (pf 6), .int .i64 (pf 7), .int .i64 (pf 8), .int .i64 (pf 9), .int .i64 (pf 10), .int .i64 (pf 11)] _ (fun yy hh => range_row hh.1 HPF.out) Try.underlying43 rfl (by kernel_rfl)) hS0 ?_
      go_simp
      refine wpAnyH_take (i := 3) (v := ?_) rfl (by kernel_rfl) (by kernel_rfl) (by kernel_rfl) (fun _ _ _ h => h) (Or.inl ⟨by kernel_rfl, by (intro wz hSz; go_simp; try with_reducible rfl)⟩) hS0 ?_
      go_simp
      refine wpAnyH_take (i := 4) (v := .agg #[.int .i64 (pf 0), .int .i64 (pf 1), .int .i64 (pf 2), .int .i64 (pf 3), .int .i64 (pf 4), .int .i64 (pf 5), .int .i64 (pf 6), .int .i64 (pf 7), .int .i64 (pf 8), .int .i64 (pf 9), .int .i64 (pf 10), .int .i64 (pf 11)]) rfl (by kernel_rfl) (by kernel_rfl) (by kernel_rfl) (fun _ _ _ h => h) (yieldsIf_load_mid (by kernel_rfl) 51 (.tmp 58) rfl rb 0 (by first | rfl | (go_simp; done) | (go_simp; rfl)) [.int .i64 (pf 0), .int .i64 (pf 1), .int .i64 (pf 2), .int .i64 (pf 3), .int .i64 (pf 4), .int .i64 (pf 5), .int .i64 (pf 6), .int .i64 (pf 7), .int .i64 (pf 8), .int .i64 (pf 9), .int .i64 (pf 10), .int .i64 (pf 11)] _ (fun yy hh => range_row hh.2 HPF.out) Try.underlying51 rfl (by kernel_rfl)) hS0 ?_
      go_simp
      refine wpAnyH_ready (rs := [2]) (by kernel_rfl) (by simp) ?_
      refine AllReadyH.cons rfl (fun K hK => ?_) AllReadyH.nil
      go_simp
      go_wp2_with (go_at_call 11; refine (HFP.out _).mono ?_; rintro e y72 ⟨rfl, hb72⟩)
      have hr72_0 := (hb72.block _ (lt_heap hr71_0)).trans hr71_0
      have hr72_1 := (hb72.block _ (lt_heap hr71_1)).trans hr71_1
      have HU72 := Lib.hid (HU71.out.trans (hb72.mono HU71.out.size))
      refine hK.out _ _ (⟨(hb72.block _ (lt_heap hS0.1)).trans hS0.1, (hb72.block _ (lt_heap hS0.2)).trans hS0.2⟩) (fun hS72c => ?_)
      clear hK K
      refine wpAnyH_take (i := 5) (v := ?_) rfl (by kernel_rfl) (by kernel_rfl) (by kernel_rfl) (fun _ _ _ h => h) (Or.inl ⟨by kernel_rfl, by (intro wz hSz; go_simp; try with_reducible rfl)⟩) hS72c ?_
      go_simp
      refine wpAnyH_take (i := 6) (v := ?_) rfl (by kernel_rfl) (by kernel_rfl) (by kernel_rfl) (fun _ _ _ h => h) (Or.inl ⟨by kernel_rfl, by (intro wz hSz; go_simp; try with_reducible rfl)⟩) hS72c ?_
      go_simp
      refine wpAnyH_take (i := 7) (v := ?_) rfl (by kernel_rfl) (by kernel_rfl) (by kernel_rfl) (fun _ _ _ h => h) (Or.inl ⟨by kernel_rfl, by (intro wz hSz; go_simp; try with_reducible rfl)⟩) hS72c ?_
      go_simp
      refine wpAnyH_take (i := 8) (v := ?_) rfl (by kernel_rfl) (by kernel_rfl) (by kernel_rfl) (fun _ _ _ h => h) (Or.inl ⟨by kernel_rfl, by (intro wz hSz; have p12z := (cell_of_row _ _ 12 _ _ _ hSz.1).trans HN12.out; have r12z := (cell_of_row _ _ 12 _ _ _ hSz.2).trans HN12.out; have p13z := (cell_of_row _ _ 13 _ _ _ hSz.1).trans HN13.out; have r13z := (cell_of_row _ _ 13 _ _ _ hSz.2).trans HN13.out; have p14z := (cell_of_row _ _ 14 _ _ _ hSz.1).trans HN14.out; have r14z := (cell_of_row _ _ 14 _ _ _ hSz.2).trans HN14.out; have p15z := (cell_of_row _ _ 15 _ _ _ hSz.1).trans HN15.out; have r15z := (cell_of_row _ _ 15 _ _ _ hSz.2).trans HN15.out; go_simp; try with_reducible rfl)⟩) hS72c ?_
      go_simp
      refine wpAnyH_take (i := 9) (v := ?_) rfl (by kernel_rfl) (by kernel_rfl) (by kernel_rfl) (fun _ _ _ h => h) (Or.inl ⟨by kernel_rfl, by (intro wz hSz; go_simp; try with_reducible rfl)⟩) hS72c ?_
      go_simp
      refine wpAnyH_take (i := 10) (v := ?_) rfl (by kernel_rfl) (by kernel_rfl) (by kernel_rfl) (fun _ _ _ h => h) (Or.inl ⟨by kernel_rfl, by (intro wz hSz; have p12z := (cell_of_row _ _ 12 _ _ _ hSz.1).trans HN12.out; have r12z := (cell_of_row _ _ 12 _ _ _ hSz.2).trans HN12.out; have p13z := (cell_of_row _ _ 13 _ _ _ hSz.1).trans HN13.out; have r13z := (cell_of_row _ _ 13 _ _ _ hSz.2).trans HN13.out; have p14z := (cell_of_row _ _ 14 _ _ _ hSz.1).trans HN14.out; have r14z := (cell_of_row _ _ 14 _ _ _ hSz.2).trans HN14.out; have p15z := (cell_of_row _ _ 15 _ _ _ hSz.1).trans HN15.out; have r15z := (cell_of_row _ _ 15 _ _ _ hSz.2).trans HN15.out; go_simp; try with_reducible rfl)⟩) hS72c ?_
      go_simp
      refine wpAnyH_take (i := 11) (v := ?_) rfl (by kernel_rfl) (by kernel_rfl) (by kernel_rfl) (fun _ _ _ h => h) (Or.inl ⟨by kernel_rfl, by (intro wz hSz; go_simp; try with_reducible rfl)⟩) hS72c ?_
      go_simp
      refine wpAnyH_take (i := 12) (v := ?_) rfl (by kernel_rfl) (by kernel_rfl) (by kernel_rfl) (fun _ _ _ h => h) (Or.inl ⟨by kernel_rfl, by (intro wz hSz; go_simp; try with_reducible rfl)⟩) hS72c ?_
      go_simp
      refine wpAnyH_take (i := 13) (v := ?_) rfl (by kernel_rfl) (by kernel_rfl) (by kernel_rfl) (fun _ _ _ h => h) (Or.inl ⟨by kernel_rfl, by (intro wz hSz; go_simp; try with_reducible rfl)⟩) hS72c ?_
      go_simp
      refine wpAnyH_take (i := 14) (v := ?_) rfl (by kernel_rfl) (by kernel_rfl) (by kernel_rfl) (fun _ _ _ h => h) (Or.inl ⟨by kernel_rfl, by (intro wz hSz; go_simp; try with_reducible rfl)⟩) hS72c ?_
      go_simp
      refine wpAnyH_take (i := 15) (v := ?_) rfl (by kernel_rfl) (by kernel_rfl) (by kernel_rfl) (fun _ _ _ h => h) (Or.inl ⟨by kernel_rfl, by (intro wz hSz; have p12z := (cell_of_row _ _ 12 _ _ _ hSz.1).trans HN12.out; have r12z := (cell_of_row _ _ 12 _ _ _ hSz.2).trans HN12.out; have p13z := (cell_of_row _ _ 13 _ _ _ hSz.1).trans HN13.out; have r13z := (cell_of_row _ _ 13 _ _ _ hSz.2).trans HN13.out; have p14z := (cell_of_row _ _ 14 _ _ _ hSz.1).trans HN14.out; have r14z := (cell_of_row _ _ 14 _ _ _ hSz.2).trans HN14.out; have p15z := (cell_of_row _ _ 15 _ _ _ hSz.1).trans HN15.out; have r15z := (cell_of_row _ _ 15 _ _ _ hSz.2).trans HN15.out; go_simp; try with_reducible rfl)⟩) hS72c ?_
      go_simp
      refine wpAnyH_take (i := 16) (v := ?_) rfl (by kernel_rfl) (by kernel_rfl) (by kernel_rfl) (fun _ _ _ h => h) (Or.inl ⟨by kernel_rfl, by (intro wz hSz; go_simp; try with_reducible rfl)⟩) hS72c ?_
      go_simp
      refine wpAnyH_take (i := 17) (v := ?_) rfl (by kernel_rfl) (by kernel_rfl) (by kernel_rfl) (fun _ _ _ h => h) (Or.inl ⟨by kernel_rfl, by (intro wz hSz; have p12z := (cell_of_row _ _ 12 _ _ _ hSz.1).trans HN12.out; have r12z := (cell_of_row _ _ 12 _ _ _ hSz.2).trans HN12.out; have p13z := (cell_of_row _ _ 13 _ _ _ hSz.1).trans HN13.out; have r13z := (cell_of_row _ _ 13 _ _ _ hSz.2).trans HN13.out; have p14z := (cell_of_row _ _ 14 _ _ _ hSz.1).trans HN14.out; have r14z := (cell_of_row _ _ 14 _ _ _ hSz.2).trans HN14.out; have p15z := (cell_of_row _ _ 15 _ _ _ hSz.1).trans HN15.out; have r15z := (cell_of_row _ _ 15 _ _ _ hSz.2).trans HN15.out; go_simp; try with_reducible rfl)⟩) hS72c ?_
      go_simp
      refine wpAnyH_take (i := 18) (v := ?_) rfl (by kernel_rfl) (by kernel_rfl) (by kernel_rfl) (fun _ _ _ h => h) (Or.inl ⟨by kernel_rfl, by (intro wz hSz; go_simp; try with_reducible rfl)⟩) hS72c ?_
      go_simp
      refine wpAnyH_take (i := 19) (v := ?_) rfl (by kernel_rfl) (by kernel_rfl) (by kernel_rfl) (fun _ _ _ h => h) (Or.inl ⟨by kernel_rfl, by (intro wz hSz; go_simp; try with_reducible rfl)⟩) hS72c ?_
      go_simp
      refine wpAnyH_take (i := 20) (v := ?_) rfl (by kernel_rfl) (by kernel_rfl) (by kernel_rfl) (fun _ _ _ h => h) (Or.inl ⟨by kernel_rfl, by (intro wz hSz; go_simp; try with_reducible rfl)⟩) hS72c ?_
      go_simp
      refine wpAnyH_take (i := 21) (v := ?_) rfl (by kernel_rfl) (by kernel_rfl) (by kernel_rfl) (fun _ _ _ h => h) (Or.inl ⟨by kernel_rfl, by (intro wz hSz; go_simp; try with_reducible rfl)⟩) hS72c ?_
      go_simp
      refine wpAnyH_take (i := 22) (v := ?_) rfl (by kernel_rfl) (by kernel_rfl) (by kernel_rfl) (fun _ _ _ h => h) (Or.inl ⟨by kernel_rfl, by (intro wz hSz; have p12z := (cell_of_row _ _ 12 _ _ _ hSz.1).trans HN12.out; have r12z := (cell_of_row _ _ 12 _ _ _ hSz.2).trans HN12.out; have p13z := (cell_of_row _ _ 13 _ _ _ hSz.1).trans HN13.out; have r13z := (cell_of_row _ _ 13 _ _ _ hSz.2).trans HN13.out; have p14z := (cell_of_row _ _ 14 _ _ _ hSz.1).trans HN14.out; have r14z := (cell_of_row _ _ 14 _ _ _ hSz.2).trans HN14.out; have p15z := (cell_of_row _ _ 15 _ _ _ hSz.1).trans HN15.out; have r15z := (cell_of_row _ _ 15 _ _ _ hSz.2).trans HN15.out; go_simp; try with_reducible rfl)⟩) hS72c ?_
      go_simp
      refine wpAnyH_take (i := 23) (v := ?_) rfl (by kernel_rfl) (by kernel_rfl) (by kernel_rfl) (fun _ _ _ h => h) (Or.inl ⟨by kernel_rfl, by (intro wz hSz; go_simp; try with_reducible rfl)⟩) hS72c ?_
      go_simp
      refine wpAnyH_take (i := 24) (v := ?_) rfl (by kernel_rfl) (by kernel_rfl) (by kernel_rfl) (fun _ _ _ h => h) (Or.inl ⟨by kernel_rfl, by (intro wz hSz; have p12z := (cell_of_row _ _ 12 _ _ _ hSz.1).trans HN12.out; have r12z := (cell_of_row _ _ 12 _ _ _ hSz.2).trans HN12.out; have p13z := (cell_of_row _ _ 13 _ _ _ hSz.1).trans HN13.out; have r13z := (cell_of_row _ _ 13 _ _ _ hSz.2).trans HN13.out; have p14z := (cell_of_row _ _ 14 _ _ _ hSz.1).trans HN14.out; have r14z := (cell_of_row _ _ 14 _ _ _ hSz.2).trans HN14.out; have p15z := (cell_of_row _ _ 15 _ _ _ hSz.1).trans HN15.out; have r15z := (cell_of_row _ _ 15 _ _ _ hSz.2).trans HN15.out; go_simp; try with_reducible rfl)⟩) hS72c ?_
      go_simp
      refine wpAnyH_take (i := 25) (v := ?_) rfl (by kernel_rfl) (by kernel_rfl) (by kernel_rfl) (fun _ _ _ h => h) (Or.inl ⟨by kernel_rfl, by (intro wz hSz; go_simp; try with_reducible rfl)⟩) hS72c ?_
      go_simp
      refine wpAnyH_take (i := 26) (v := ?_) rfl (by kernel_rfl) (by kernel_rfl) (by kernel_rfl) (fun _ _ _ h => h) (Or.inl ⟨by kernel_rfl, by (intro wz hSz; go_simp; try with_reducible rfl)⟩) hS72c ?_
      go_simp
      refine wpAnyH_take (i := 27) (v := ?_) rfl (by kernel_rfl) (by kernel_rfl) (by kernel_rfl) (fun _ _ _ h => h) (Or.inl ⟨by kernel_rfl, by (intro wz hSz; go_simp; try with_reducible rfl)⟩) hS72c ?_
      go_simp
      refine wpAnyH_take (i := 28) (v := ?_) rfl (by kernel_rfl) (by kernel_rfl) (by kernel_rfl) (fun _ _ _ h => h) (Or.inl ⟨by kernel_rfl, by (intro wz hSz; go_simp; try with_reducible rfl)⟩) hS72c ?_
      go_simp
      refine wpAnyH_take (i := 29) (v := ?_) rfl (by kernel_rfl) (by kernel_rfl) (by kernel_rfl) (fun _ _ _ h => h) (Or.inl ⟨by kernel_rfl, by (intro wz hSz; have p12z := (cell_of_row _ _ 12 _ _ _ hSz.1).trans HN12.out; have r12z := (cell_of_row _ _ 12 _ _ _ hSz.2).trans HN12.out; have p13z := (cell_of_row _ _ 13 _ _ _ hSz.1).trans HN13.out; have r13z := (cell_of_row _ _ 13 _ _ _ hSz.2).trans HN13.out; have p14z := (cell_of_row _ _ 14 _ _ _ hSz.1).trans HN14.out; have r14z := (cell_of_row _ _ 14 _ _ _ hSz.2).trans HN14.out; have p15z := (cell_of_row _ _ 15 _ _ _ hSz.1).trans HN15.out; have r15z := (cell_of_row _ _ 15 _ _ _ hSz.2).trans HN15.out; go_simp; try with_reducible rfl)⟩) hS72c ?_
      go_simp
      refine wpAnyH_take (i := 30) (v := ?_) rfl (by kernel_rfl) (by kernel_rfl) (by kernel_rfl) (fun _ _ _ h => h) (Or.inl ⟨by kernel_rfl, by (intro wz hSz; go_simp; try with_reducible rfl)⟩) hS72c ?_
      go_simp
      refine wpAnyH_take (i := 31) (v := ?_) rfl (by kernel_rfl) (by kernel_rfl) (by kernel_rfl) (fun _ _ _ h => h) (Or.inl ⟨by kernel_rfl, by (intro wz hSz; have p12z := (cell_of_row _ _ 12 _ _ _ hSz.1).trans HN12.out; have r12z := (cell_of_row _ _ 12 _ _ _ hSz.2).trans HN12.out; have p13z := (cell_of_row _ _ 13 _ _ _ hSz.1).trans HN13.out; have r13z := (cell_of_row _ _ 13 _ _ _ hSz.2).trans HN13.out; have p14z := (cell_of_row _ _ 14 _ _ _ hSz.1).trans HN14.out; have r14z := (cell_of_row _ _ 14 _ _ _ hSz.2).trans HN14.out; have p15z := (cell_of_row _ _ 15 _ _ _ hSz.1).trans HN15.out; have r15z := (cell_of_row _ _ 15 _ _ _ hSz.2).trans HN15.out; go_simp; try with_reducible rfl)⟩) hS72c ?_
      go_simp
      refine wpAnyH_take (i := 32) (v := ?_) rfl (by kernel_rfl) (by kernel_rfl) (by kernel_rfl) (fun _ _ _ h => h) (Or.inl ⟨by kernel_rfl, by (intro wz hSz; go_simp; try with_reducible rfl)⟩) hS72c ?_
      go_simp
      refine wpAnyH_take (i := 33) (v := ?_) rfl (by kernel_rfl) (by kernel_rfl) (by kernel_rfl) (fun _ _ _ h => h) (Or.inl ⟨by kernel_rfl, by (intro wz hSz; go_simp; try with_reducible rfl)⟩) hS72c ?_
      go_simp
      refine wpAnyH_take (i := 34) (v := ?_) rfl (by kernel_rfl) (by kernel_rfl) (by kernel_rfl) (fun _ _ _ h => h) (Or.inl ⟨by kernel_rfl, by (intro wz hSz; go_simp; try with_reducible rfl)⟩) hS72c ?_
      go_simp
      refine wpAnyH_take (i := 35) (v := .agg (nrow L nd)) rfl (by kernel_rfl) (by kernel_rfl) (by kernel_rfl) (fun _ _ _ h => h) (yieldsIf_load_mid (by kernel_rfl) 45 (.tmp 6) rfl nb 0 (by first | rfl | (go_simp; done) | (go_simp; rfl)) (ncs L nd) _ (fun yy hh => range_row hh.1 HNCS.out) Try.underlying45 rfl (by kernel_rfl)) hS72c ?_
      go_simp
      refine wpAnyH_take (i := 37) (v := ?_) rfl (by kernel_rfl) (by kernel_rfl) (by kernel_rfl) (fun _ _ _ h => h) (Or.inl ⟨by kernel_rfl, by (intro wz hSz; go_simp; try with_reducible rfl)⟩) hS72c ?_
      go_simp
      refine wpAnyH_take (i := 38) (v := ?_) rfl (by kernel_rfl) (by kernel_rfl) (by kernel_rfl) (fun _ _ _ h => h) (Or.inl ⟨by kernel_rfl, by (intro wz hSz; have p12z := (cell_of_row _ _ 12 _ _ _ hSz.1).trans HN12.out; have r12z := (cell_of_row _ _ 12 _ _ _ hSz.2).trans HN12.out; have p13z := (cell_of_row _ _ 13 _ _ _ hSz.1).trans HN13.out; have r13z := (cell_of_row _ _ 13 _ _ _ hSz.2).trans HN13.out; have p14z := (cell_of_row _ _ 14 _ _ _ hSz.1).trans HN14.out; have r14z := (cell_of_row _ _ 14 _ _ _ hSz.2).trans HN14.out; have p15z := (cell_of_row _ _ 15 _ _ _ hSz.1).trans HN15.out; have r15z := (cell_of_row _ _ 15 _ _ _ hSz.2).trans HN15.out; go_simp; try with_reducible rfl)⟩) hS72c ?_
      go_simp
      refine wpAnyH_take (i := 39) (v := ?_) rfl (by kernel_rfl) (by kernel_rfl) (by kernel_rfl) (fun _ _ _ h => h) (Or.inl ⟨by kernel_rfl, by (intro wz hSz; go_simp; try with_reducible rfl)⟩) hS72c ?_
      go_simp
      refine wpAnyH_ready (rs := [36]) (by kernel_rfl) (by simp) ?_
      refine AllReadyH.cons rfl (fun K hK => ?_) AllReadyH.nil
      go_simp
      go_wp2_with (go_at_call 12; refine (HIL.out _).mono ?_; rintro e y73 ⟨rfl, hb73⟩)
      have hr73_0 := (hb73.block _ (lt_heap hr72_0)).trans hr72_0
      have hr73_1 := (hb73.block _ (lt_heap hr72_1)).trans hr72_1
      have HU73 := Lib.hid (HU72.out.trans (hb73.mono HU72.out.size))
      refine hK.out _ _ (⟨(hb73.block _ (lt_heap hS72c.1)).trans hS72c.1, (hb73.block _ (lt_heap hS72c.2)).trans hS72c.2⟩) (fun hS73c => ?_)
      clear hK K
      refine wpAnyH_take (i := 40) (v := ?_) rfl (by kernel_rfl) (by kernel_rfl) (by kernel_rfl) (fun _ _ _ h => h) (Or.inl ⟨by kernel_rfl, by (intro wz hSz; go_simp; try with_reducible rfl)⟩) hS73c ?_
      go_simp
      refine wpAnyH_take (i := 41) (v := ?_) rfl (by kernel_rfl) (by kernel_rfl) (by kernel_rfl) (fun _ _ _ h => h) (Or.inl ⟨by kernel_rfl, by (intro wz hSz; go_simp; try with_reducible rfl)⟩) hS73c ?_
      go_simp
      refine wpAnyH_done (by kernel_rfl) ?_ _
      go_wp2_with fail
      go_roundw
      case rel => exact ⟨k + 1, by omega, by go_num, Lib.hid (HUC.out.trans (HU73.out.mono HUC.out.size))⟩
      case measure => simp [intOf]; omega
    · have hkm : k = len := by omega
      subst hkm
      have hnl : ¬ (k : Int) < (k : Int) := by omega
      clear hlt' hk
      have c0 := (HU.out.block tp htpl).trans HTP.out
      have c1 := cell_of_row _ _ 1 _ _ _ c0
      simp at c1
      clear c0
      go_upto_region 14 with fail
      clear c1
      go_loopw [8, 9, 101] (fun s8 s9 i wr => ∃ j : Nat, j ≤ ol ∧ i = .int .i64 j ∧ Hid (Below z.heap.size z wr)) (fun _ _ i _ => ol - (intOf i).toNat)
      case atStart => exact ⟨0, by omega, rfl, HU⟩
      case round =>
        obtain ⟨j, hj, rfl, HUj⟩ := hrel
        by_cases hjn : j < ol
        · have hji : (j : Int) < (ol : Int) := by omega
          rcases HOZ.out.2 with ⟨-, hx0⟩ | ⟨go, cap, curo, hform, hgo, hcuro, -⟩
          · exact absurd hx0 (by omega)
          injection hform with e1 e2 e3
          subst e1
          subst e3
          rcases HQZ.out.2 with ⟨-, hx0⟩ | ⟨gq, cap2, curq, hform2, hgq, hcurq, -⟩
          · exact absurd hx0 (by omega)
          injection hform2 with e1 e2 e3
          subst e1
          subst e3
          have hx := nv_at OD j (by rw [← HOLN.out]; exact hjn)
          obtain ⟨x, hxx⟩ : ∃ x, x = OD.getD j 0 := ⟨_, rfl⟩
          rw [← hxx] at hx
          have p0 := (HUj.out.cell (p := ⟨go, j, none⟩) (lt_heap hcuro)).trans ((HOZ.out.cellAt j (by omega)).trans hx)
          have p1 := (HUj.out.cell (p := ⟨gq, j, none⟩) (lt_heap hcurq)).trans ((HQZ.out.cellAt j (by omega)).trans hx)
          have p2 := cell_of_row _ _ 1 _ _ _ ((HUj.out.block tr htrl).trans HTR.out)
          simp at p2
          clear hxx hx hcuro hcurq hgo hgq
          go_wp2_with fail
          go_roundw
          case rel => exact ⟨j + 1, by omega, by go_num, HUj⟩
          case measure => simp [intOf]; omega
        · have hjm : j = ol := by omega
          subst hjm
          have hnl2 : ¬ (j : Int) < (j : Int) := by omega
          go_wp2_with (go_at_call 5; refine (awake_tree _).mono ?_; rintro e y9 ⟨rfl, hb9⟩)
          go_ret
          have h := HWZ.out.trans (HUj.out.mono hwz)
          exact ⟨rfl, h.trans (hb9.mono h.size)⟩

end Go.Proofs.Ytoppcnkfgmbpfaa.treeMakesW
