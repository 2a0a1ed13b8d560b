/- TreeHolds (zoetropelaw13): the law's walk. -/
import Derived.Test.YtoppcnkfgmbpfaaC52
namespace Go.Proofs.Ytoppcnkfgmbpfaa.treeHoldsW
open Go.RowKit Go.Proofs.Ytoppcnkfgmbpfaa Go.Proofs.Ytoppcnkfgmbpfaa.Wa Go.Proofs.Ytoppcnkfgmbpfaa.Ve Go.Proofs.Ytoppcnkfgmbpfaa.Au Go.Proofs.Ytoppcnkfgmbpfaa.Bx Go.Proofs.Ytoppcnkfgmbpfaa.Tr
set_option linter.unusedVariables false
set_option linter.unusedSimpArgs false

set_option maxHeartbeats 8000000 in
set_option maxRecDepth 100000 in
theorem walk (a1 : Option Addr) (n c1 : Nat) (L : Nat → Int) (w : World) (hl : Ni.Nums 12 w a1 n L) :
    Calls Try.prog 4 #[.slice a1 n c1] w fun e w' => e = .returned (.bool true) ∧ Below w.heap.size w w' := by

  obtain ⟨j0, ji, jz0, jz1, jz2⟩ := info_parts infoInt1
  by_cases hbig : 128 < n
  · have hbi : (128 : Int) < (n : Int) := by omega
    clear hl
    go_enter Try.func4, Try.ntmps4
    go_wp2_with (go_at_call 5; refine (awake_tree _).mono ?_; rintro e y9 ⟨rfl, hb9⟩)
    go_ret
    exact ⟨rfl, hb9⟩
  have hsm : ¬ (128 : Int) < (n : Int) := by omega
  have hn : n ≤ 128 := by omega
  have HPR := Lib.hid (pairs_l a1 n c1 L (by omega) w hl)
  clear hl hbig
  go_enter Try.func4, Try.ntmps4
  go_wp2_with fail
  refine HPR.out.mono ?_
  rintro e y0 ⟨⟨vp, rfl, hop⟩, hb0⟩
  have HMK := Lib.hid (make_own L n w.heap.size hn vp y0 hop)
  obtain ⟨ap, kp, rfl⟩ := own_slice hop
  have HOP := Lib.hid hop
  clear hop HPR
  go_upto_region 4 with fail
  go_wp2_with fail
  refine HMK.out.mono ?_
  rintro e y1 ⟨⟨t, rfl, vn, vo, rfl, hvn, hvo⟩, hb1⟩
  have hml := mk_len L n
  rw [hml.1] at hvo
  obtain ⟨NS, hNS⟩ : ∃ x, x = (mk L n).1 := ⟨_, rfl⟩
  obtain ⟨OD, hOD⟩ : ∃ x, x = (mk L n).2 := ⟨_, rfl⟩
  rw [← hNS] at hvn hml
  rw [← hOD] at hvo
  obtain ⟨len, hlen⟩ : ∃ x, x = NS.length := ⟨_, rfl⟩
  rw [← hlen] at hvn hml
  obtain ⟨an, kn, rfl⟩ := own_slice hvn
  obtain ⟨ao, ko, rfl⟩ := own_slice hvo
  have HVN := Lib.hid hvn
  have HVO := Lib.hid hvo
  have HOP1 := Lib.hid (own_keep (w' := y1) HOP.out fun q hq => hb1.block q (HOP.out.lt q hq).2)
  have HW1 := Lib.hid (hb0.trans (hb1.mono hb0.size))
  have HU1 := Lib.hid (Below.refl y1.heap.size y1)
  have hlen2 : len ≤ 256 := by omega
  have HNS := Lib.hid hNS
  have HOD := Lib.hid hOD
  have HLN := Lib.hid hlen
  have HML := Lib.hid hml
  clear hvn hvo hb0 hb1 HMK HOP hml hNS hOD hlen
  have HA := Lib.hid (heap_alloc_last y1 (.cells #[.slice none 0 0, .slice none 0 0] 27))
  have hHi := Lib.hid (show (Try.prog.info? 27).map (·.size) = some (#[.slice an len kn, .slice ao n ko] : Array Value).size by kernel_rfl)
  have hHz := Lib.hid (show (#[.slice none 0 0, .slice none 0 0] : Array Value).size = (#[.slice an len kn, .slice ao n ko] : Array Value).size from rfl)
  have hHo := Lib.hid (show (#[.slice an len kn, .slice ao n ko] : Array Value).all (·.oneCell') = true by simp [Value.oneCell'])
  go_upto_region 5 with (refine Au.wpList_store_row rfl 27 (.tmp 4) (.tmp 23) rfl (y1.alloc (.cells #[.slice none 0 0, .slice none 0 0] 27)) #[.slice none 0 0, .slice none 0 0] #[.slice an len kn, .slice ao n ko] (y1.heap.size) 27 HA.out rfl rfl hHi.out hHz.out hHo.out ?_)
  clear hHi hHz hHo
  have hN := setRow_heap _ (y1.heap.size) _ #[.slice an len kn, .slice ao n ko] _ _ HA.out
  clear HA
  have hsz := HU1.out.size
  have hb := below_n1 y1 (.cells #[.slice none 0 0, .slice none 0 0] 27)
  have HUx := below_setRow (g := y1.heap.size) (HU1.out.trans (hb.mono HU1.out.size)) (by omega) #[.slice an len kn, .slice ao n ko]
  have hO : ∀ kk, kk < y1.heap.size → ((y1.alloc (.cells #[.slice none 0 0, .slice none 0 0] 27)).setRow (y1.heap.size) #[.slice an len kn, .slice ao n ko]).heap[kk]? = y1.heap[kk]? := fun kk hk => (setRow_other _ _ _ _ (by omega)).trans (hb.block _ hk)
  obtain ⟨y2, hy2⟩ : ∃ y, (y1.alloc (.cells #[.slice none 0 0, .slice none 0 0] 27)).setRow (y1.heap.size) #[.slice an len kn, .slice ao n ko] = y := ⟨_, rfl⟩
  have hs2 : y2.heap.size = y1.heap.size + 1 := by rw [← hy2]; simp [World.setRow]
  rw [hy2] at hN HUx hO ⊢
  clear hy2 hsz hb
  have HU2 := Lib.hid HUx
  clear HUx
  have hr2_0 := hN
  clear hN hO
  clear HU1
  have hy12 := HU2.out.size
  have hty := lt_heap hr2_0
  obtain ⟨tb, htb⟩ : ∃ b, b = y1.heap.size := ⟨_, rfl⟩
  rw [← htb] at hr2_0 hty ⊢
  clear hs2
  have HVN2 := Lib.hid (own_keep (w' := y2) HVN.out fun q hq => HU2.out.block q (HVN.out.lt q hq).2)
  have HVO2 := Lib.hid (own_keep (w' := y2) HVO.out fun q hq => HU2.out.block q (HVO.out.lt q hq).2)
  have HOP2 := Lib.hid (own_keep (w' := y2) HOP1.out fun q hq => HU2.out.block q (HOP1.out.lt q hq).2)
  have HW2 := Lib.hid (HW1.out.trans (HU2.out.mono HW1.out.size))
  have hw2 := HW2.out.size
  clear HVN HVO HOP1 HW1 HU2 htb
  have HU2 := Lib.hid (Below.refl y2.heap.size y2)
  dsimp only [Act.put]
  go_cut [5, 6] (fun s5 s6 wx => ∃ gs gb : Nat, s5 = .slice (some ⟨gs, 0, none⟩) n n ∧ s6 = .slice (some ⟨gb, 0, none⟩) len len ∧ gs ≠ gb ∧ wx.heap[tb]? = some (.cells #[.slice an len kn, .slice ao n ko] 27 (0, 0)) ∧ Hid (wx.ownsRow y2.heap.size 3 1 (.slice (some ⟨gs, 0, none⟩) n n) n (pv (fun _ => 0) n)) ∧ Hid (wx.ownsRow y2.heap.size 3 1 (.slice (some ⟨gb, 0, none⟩) len len) len (pv (fun _ => 0) len)) ∧ Hid (Below y2.heap.size y2 wx))
  case first =>
    have hmaxN : n ≤ maxLen := by unfold maxLen; omega
    have hmaxL : len ≤ maxLen := by unfold maxLen; omega
    have hbyN : j0.bytes * n ≤ 281474976710656 := by rw [jz2]; omega
    have hbyL : j0.bytes * len ≤ 281474976710656 := by rw [jz2]; omega
    refine wp_region_held_drew (S := fun y => y.heap[tb]? = some (.cells #[.slice an len kn, .slice ao n ko] 27 (0, 0))) (by kernel_rfl) (hr2_0) (fun hS0 => ?_)
    obtain ⟨y3, hy3⟩ : ∃ y, y2.drew = y := ⟨_, rfl⟩
    have HU3 := Lib.hid (show Below y2.heap.size y2 y3 by rw [← hy3]; exact HU2.out.drew)
    have hr3_0 : y3.heap[tb]? = some (.cells #[.slice an len kn, .slice ao n ko] 27 (0, 0)) := by rw [← hy3]; exact hr2_0
    rw [hy3] at hS0 ⊢
    clear hy3
    refine wpAnyH_take (i := 0) (v := ?_) rfl (by kernel_rfl) (by kernel_rfl) (by kernel_rfl) (fun _ _ _ h => h) (Or.inl ⟨by kernel_rfl, by (intro wz hSz; go_simp; try with_reducible rfl)⟩) hS0 ?_
    go_simp
    refine wpAnyH_take (i := 1) (v := ?_) rfl (by kernel_rfl) (by kernel_rfl) (by kernel_rfl) (fun _ _ _ h => h) (Or.inl ⟨by kernel_rfl, by (intro wz hSz; go_simp; try with_reducible rfl)⟩) hS0 ?_
    go_simp
    refine wpAnyH_take (i := 3) (v := ?_) rfl (by kernel_rfl) (by kernel_rfl) (by kernel_rfl) (fun _ _ _ h => h) (Or.inl ⟨by kernel_rfl, by (intro wz hSz; go_simp; try with_reducible rfl)⟩) hS0 ?_
    go_simp
    refine wpAnyH_take (i := 4) (v := ?_) rfl (by kernel_rfl) (by kernel_rfl) (by kernel_rfl) (fun _ _ _ h => h) (Or.inl ⟨by kernel_rfl, by (intro wz hSz; have c0_0 := cell_of_row _ _ 0 _ _ _ hSz; have c0_1 := cell_of_row _ _ 1 _ _ _ hSz; simp at c0_0 c0_1; go_simp; try with_reducible rfl)⟩) hS0 ?_
    go_simp
    refine wpAnyH_take (i := 5) (v := ?_) rfl (by kernel_rfl) (by kernel_rfl) (by kernel_rfl) (fun _ _ _ h => h) (Or.inl ⟨by kernel_rfl, by (intro wz hSz; go_simp; try with_reducible rfl)⟩) hS0 ?_
    go_simp
    refine wpAnyH_ready (rs := [2, 6]) (by kernel_rfl) (by simp) ?_
    refine AllReadyH.cons rfl (fun K hK => ?_) (AllReadyH.cons rfl (fun K hK => ?_) AllReadyH.nil)
    · skip
      have hsm := HU3.out.size
      refine step_make_full rfl _ _ _ rfl y2.heap.size 3 j0 (.int .i64 0) 1 Try.underlying25 ji jz0 jz1 .i64 .i64 _ _ n (by first | rfl | (go_simp; done) | (go_simp; rfl)) (by first | rfl | (go_simp; done) | (go_simp; rfl)) rfl rfl hbyN hmaxN (by omega) ?_
      intro y4 hown hgrow
      have HOs4 := Lib.hid (show y4.ownsRow y2.heap.size 3 1 (.slice (some ⟨y3.heap.size, 0, none⟩) n n) n (pv (fun _ => 0) n) from by have h := hown; rw [Nat.mul_one] at h; rw [← pv_zero]; exact h)
      have hb4 : Below y3.heap.size y3 y4 := (Below.refl _ _).grown hgrow (Nat.le_refl _) (fun k hk => by cases hk)
      have hr4_0 := (hb4.block _ (lt_heap hr3_0)).trans hr3_0
      have HU4 := Lib.hid (HU3.out.trans (hb4.mono HU3.out.size))
      have hlo4 := (hown.lt _ rfl).2
      clear hown hgrow
      refine hK.out _ _ (hr4_0) (fun hSm4 => ?_)
      clear hK K
      refine wpAnyH_take (i := 7) (v := ?_) rfl (by kernel_rfl) (by kernel_rfl) (by kernel_rfl) (fun _ _ _ h => h) (Or.inl ⟨by kernel_rfl, by (intro wz hSz; go_simp; try with_reducible rfl)⟩) hSm4 ?_
      go_simp
      refine wpAnyH_ready (rs := [6]) (by kernel_rfl) (by simp) ?_
      refine AllReadyH.cons rfl (fun K hK => ?_) AllReadyH.nil
      have hsm := HU4.out.size
      refine step_make_full rfl _ _ _ rfl y2.heap.size 3 j0 (.int .i64 0) 1 Try.underlying25 ji jz0 jz1 .i64 .i64 _ _ len (by first | rfl | (go_simp; done) | (go_simp; rfl)) (by first | rfl | (go_simp; done) | (go_simp; rfl)) rfl rfl hbyL hmaxL (by omega) ?_
      intro y5 hown hgrow
      have HOb5 := Lib.hid (show y5.ownsRow y2.heap.size 3 1 (.slice (some ⟨y4.heap.size, 0, none⟩) len len) len (pv (fun _ => 0) len) from by have h := hown; rw [Nat.mul_one] at h; rw [← pv_zero]; exact h)
      have hb5 : Below y4.heap.size y4 y5 := (Below.refl _ _).grown hgrow (Nat.le_refl _) (fun k hk => by cases hk)
      have hr5_0 := (hb5.block _ (lt_heap hr4_0)).trans hr4_0
      have HU5 := Lib.hid (HU4.out.trans (hb5.mono HU4.out.size))
      have hlo5 := (hown.lt _ rfl).2
      clear hown hgrow
      have HOs5 := Lib.hid (own_keep (w' := y5) HOs4.out fun q hq => hb5.block q (HOs4.out.lt q hq).2)
      refine hK.out _ _ (hr5_0) (fun hSm5 => ?_)
      clear hK K
      refine wpAnyH_take (i := 8) (v := ?_) rfl (by kernel_rfl) (by kernel_rfl) (by kernel_rfl) (fun _ _ _ h => h) (Or.inl ⟨by kernel_rfl, by (intro wz hSz; go_simp; try with_reducible rfl)⟩) hSm5 ?_
      go_simp
      refine wpAnyH_done (by kernel_rfl) ?_ _
      go_wp2_with fail
      go_meet
      exact ⟨_, _, rfl, rfl, by omega, hr5_0, HOs5, HOb5, HU5⟩
    · skip
      have hsm := HU3.out.size
      refine step_make_full rfl _ _ _ rfl y2.heap.size 3 j0 (.int .i64 0) 1 Try.underlying25 ji jz0 jz1 .i64 .i64 _ _ len (by first | rfl | (go_simp; done) | (go_simp; rfl)) (by first | rfl | (go_simp; done) | (go_simp; rfl)) rfl rfl hbyL hmaxL (by omega) ?_
      intro y4 hown hgrow
      have HOb4 := Lib.hid (show y4.ownsRow y2.heap.size 3 1 (.slice (some ⟨y3.heap.size, 0, none⟩) len len) len (pv (fun _ => 0) len) from by have h := hown; rw [Nat.mul_one] at h; rw [← pv_zero]; exact h)
      have hb4 : Below y3.heap.size y3 y4 := (Below.refl _ _).grown hgrow (Nat.le_refl _) (fun k hk => by cases hk)
      have hr4_0 := (hb4.block _ (lt_heap hr3_0)).trans hr3_0
      have HU4 := Lib.hid (HU3.out.trans (hb4.mono HU3.out.size))
      have hlo4 := (hown.lt _ rfl).2
      clear hown hgrow
      refine hK.out _ _ (hr4_0) (fun hSm4 => ?_)
      clear hK K
      refine wpAnyH_ready (rs := [2]) (by kernel_rfl) (by simp) ?_
      refine AllReadyH.cons rfl (fun K hK => ?_) AllReadyH.nil
      have hsm := HU4.out.size
      refine step_make_full rfl _ _ _ rfl y2.heap.size 3 j0 (.int .i64 0) 1 Try.underlying25 ji jz0 jz1 .i64 .i64 _ _ n (by first | rfl | (go_simp; done) | (go_simp; rfl)) (by first | rfl | (go_simp; done) | (go_simp; rfl)) rfl rfl hbyN hmaxN (by omega) ?_
      intro y5 hown hgrow
      have HOs5 := Lib.hid (show y5.ownsRow y2.heap.size 3 1 (.slice (some ⟨y4.heap.size, 0, none⟩) n n) n (pv (fun _ => 0) n) from by have h := hown; rw [Nat.mul_one] at h; rw [← pv_zero]; exact h)
      have hb5 : Below y4.heap.size y4 y5 := (Below.refl _ _).grown hgrow (Nat.le_refl _) (fun k hk => by cases hk)
      have hr5_0 := (hb5.block _ (lt_heap hr4_0)).trans hr4_0
      have HU5 := Lib.hid (HU4.out.trans (hb5.mono HU4.out.size))
      have hlo5 := (hown.lt _ rfl).2
      clear hown hgrow
      have HOb5 := Lib.hid (own_keep (w' := y5) HOb4.out fun q hq => hb5.block q (HOb4.out.lt q hq).2)
      refine hK.out _ _ (hr5_0) (fun hSm5 => ?_)
      clear hK K
      refine wpAnyH_take (i := 7) (v := ?_) rfl (by kernel_rfl) (by kernel_rfl) (by kernel_rfl) (fun _ _ _ h => h) (Or.inl ⟨by kernel_rfl, by (intro wz hSz; go_simp; try with_reducible rfl)⟩) hSm5 ?_
      go_simp
      refine wpAnyH_take (i := 8) (v := ?_) rfl (by kernel_rfl) (by kernel_rfl) (by kernel_rfl) (fun _ _ _ h => h) (Or.inl ⟨by kernel_rfl, by (intro wz hSz; go_simp; try with_reducible rfl)⟩) hSm5 ?_
      go_simp
      refine wpAnyH_done (by kernel_rfl) ?_ _
      go_wp2_with fail
      go_meet
      exact ⟨_, _, rfl, rfl, by omega, hr5_0, HOs5, HOb5, HU5⟩
  case rest =>
    obtain ⟨gs, gb, rfl, rfl, hgsb, hrt, HS0, HB0, HUz⟩ := hcut
    obtain ⟨z, rfl⟩ : ∃ z : World, z = wc := ⟨_, rfl⟩
    have hsz := HUz.out.size
    have hgs := (HS0.out.lt gs rfl).1
    have hgb := (HB0.out.lt gb rfl).1
    have HTB := Lib.hid ((HUz.out.block tb hty).symm.trans hrt)
    have c0 := cell_of_row _ _ 0 _ _ _ hrt
    have c1 := cell_of_row _ _ 1 _ _ _ hrt
    simp at c0 c1
    clear hr2_0
    go_upto_region 8 with fail
    clear c0 c1 hrt
    go_loopw [7, 8, 9, 11, 34, 143] (fun s7 s8 s9 s11 i s143 wr => ∃ k : Nat, k ≤ len ∧ i = .int .i64 k ∧ s7 = .int .i64 (St_ NS k).next ∧ Hid (wr.ownsRow y2.heap.size 3 1 (.slice (some ⟨gs, 0, none⟩) n n) n (pv (St_ NS k).seen n)) ∧ Hid (wr.ownsRow y2.heap.size 3 1 (.slice (some ⟨gb, 0, none⟩) len len) len (pv (St_ NS k).named len)) ∧ Hid (Below y2.heap.size y2 wr)) (fun _ _ _ _ i _ _ => len - (intOf i).toNat)
    case atStart => exact ⟨0, by omega, rfl, rfl, HS0, HB0, HUz⟩
    case round =>
      obtain ⟨k, hk, rfl, rfl, HS, HB, HU⟩ := hrel
      have hbs := HU.out.size
      by_cases hlt' : k < len
      · have hki : (k : Int) < (len : Int) := by omega
        obtain ⟨nd, hnd⟩ : ∃ nd, NS[k]? = some nd := ⟨NS[k]'(by rw [← HLN.out]; exact hlt'), List.getElem?_eq_getElem _⟩
        have hok := mk_ok L n k nd (by rw [← HNS.out]; exact hnd)
        rw [← HNS.out, ← HOD.out] at hok
        have HND := Lib.hid hnd
        have HSTEP := Lib.hid (St_step NS k nd hnd)
        rcases HVN2.out.2 with ⟨-, hx0⟩ | ⟨gn, cap, curn, hform, hgn, hcurn, -, -, -, -⟩
        · exact absurd hx0 (by omega)
        injection hform with e1 e2 e3
        subst e1
        subst e3
        have HCN := Lib.hid (show ∀ (i : Nat) (m : Nd), NS[i]? = some m → ∀ j v, (ncs L m)[j]? = some v → curn[i * 16 + j]? = some v from fun i m hm j v hv => by
          have hj : j < 16 := by
            rcases Nat.lt_or_ge j 16 with h1 | h1
            · exact h1
            · rw [List.getElem?_eq_none (by rw [ncs_len]; exact h1)] at hv; cases hv
          have hi : i < len := by
            rcases Nat.lt_or_ge i len with h1 | h1
            · exact h1
            · rw [List.getElem?_eq_none (by rw [← HLN.out]; exact h1)] at hm; cases hm
          have a1 := HVN2.out.cellAt (i * 16 + j) (by omega)
          rw [flat_at L NS i m hm j v hv, cell_of_row _ _ _ _ _ _ hcurn] at a1
          exact a1)
        have hgnl := lt_heap hcurn
        have hrn := (HU.out.block gn hgnl).trans hcurn
        have hrt := (HU.out.block tb hty).trans HTB.out
        have HRG := Lib.hid (range_row hrn (fun j v hv => HCN.out k nd hnd j v hv))
        obtain ⟨y90, rfl⟩ : ∃ y : World, y = wr := ⟨_, rfl⟩
        have hr90_0 := hrt
        have hr90_1 := hrn
        have HU90 := Lib.hid (Below.refl y90.heap.size y90)
        have hsl := (HS.out.lt gs rfl).2
        have hbl := (HB.out.lt gb rfl).2
        clear hrn hrt hcurn hnd
        have HA := Lib.hid (heap_alloc_last y90 (.cells #[.int .i64 0, .int .i64 0, .int .i64 0, .int .i64 0, .int .i64 0, .int .i64 0, .int .i64 0, .int .i64 0, .int .i64 0, .int .i64 0, .int .i64 0, .int .i64 0, .int .i64 0, .int .i64 0, .int .i64 0, .int .i64 0] 45))
        have hHi := Lib.hid (show (Try.prog.info? 45).map (·.size) = some ((nrow L nd) : Array Value).size by kernel_rfl)
        have hHz := Lib.hid (show (#[.int .i64 0, .int .i64 0, .int .i64 0, .int .i64 0, .int .i64 0, .int .i64 0, .int .i64 0, .int .i64 0, .int .i64 0, .int .i64 0, .int .i64 0, .int .i64 0, .int .i64 0, .int .i64 0, .int .i64 0, .int .i64 0] : Array Value).size = ((nrow L nd) : Array Value).size from rfl)
        have hHo := Lib.hid (show ((nrow L nd) : Array Value).all (·.oneCell') = true from nrow_one L nd)
        go_upto_region 10 with (first | (with_reducible refine wpList_load_mid rfl 45 (.tmp 37) rfl gn (k * 16) rfl (ncs L nd) _ HRG.out Try.underlying45 rfl (by kernel_rfl) ?_) | (refine Au.wpList_store_row rfl 45 (.tmp 9) (.tmp 38) rfl (y90.alloc (.cells #[.int .i64 0, .int .i64 0, .int .i64 0, .int .i64 0, .int .i64 0, .int .i64 0, .int .i64 0, .int .i64 0, .int .i64 0, .int .i64 0, .int .i64 0, .int .i64 0, .int .i64 0, .int .i64 0, .int .i64 0, .int .i64 0] 45)) #[.int .i64 0, .int .i64 0, .int .i64 0, .int .i64 0, .int .i64 0, .int .i64 0, .int .i64 0, .int .i64 0, .int .i64 0, .int .i64 0, .int .i64 0, .int .i64 0, .int .i64 0, .int .i64 0, .int .i64 0, .int .i64 0] (nrow L nd) (y90.heap.size) 45 HA.out rfl rfl hHi.out hHz.out hHo.out ?_))
        clear hHi hHz hHo
        have hN := setRow_heap _ (y90.heap.size) _ (nrow L nd) _ _ HA.out
        clear HA
        have hsz := HU90.out.size
        have hb := below_n1 y90 (.cells #[.int .i64 0, .int .i64 0, .int .i64 0, .int .i64 0, .int .i64 0, .int .i64 0, .int .i64 0, .int .i64 0, .int .i64 0, .int .i64 0, .int .i64 0, .int .i64 0, .int .i64 0, .int .i64 0, .int .i64 0, .int .i64 0] 45)
        have HUx := below_setRow (g := y90.heap.size) (HU90.out.trans (hb.mono HU90.out.size)) (by omega) (nrow L nd)
        have hO : ∀ kk, kk < y90.heap.size → ((y90.alloc (.cells #[.int .i64 0, .int .i64 0, .int .i64 0, .int .i64 0, .int .i64 0, .int .i64 0, .int .i64 0, .int .i64 0, .int .i64 0, .int .i64 0, .int .i64 0, .int .i64 0, .int .i64 0, .int .i64 0, .int .i64 0, .int .i64 0] 45)).setRow (y90.heap.size) (nrow L nd)).heap[kk]? = y90.heap[kk]? := fun kk hk => (setRow_other _ _ _ _ (by omega)).trans (hb.block _ hk)
        obtain ⟨y91, hy91⟩ : ∃ y, (y90.alloc (.cells #[.int .i64 0, .int .i64 0, .int .i64 0, .int .i64 0, .int .i64 0, .int .i64 0, .int .i64 0, .int .i64 0, .int .i64 0, .int .i64 0, .int .i64 0, .int .i64 0, .int .i64 0, .int .i64 0, .int .i64 0, .int .i64 0] 45)).setRow (y90.heap.size) (nrow L nd) = y := ⟨_, rfl⟩
        have hs91 : y91.heap.size = y90.heap.size + 1 := by rw [← hy91]; simp [World.setRow]
        rw [hy91] at hN HUx hO ⊢
        clear hy91 hsz hb
        have HU91 := Lib.hid HUx
        clear HUx
        have hl91_0 := lt_heap hr90_0
        have hr91_0 := (hO _ hl91_0).trans hr90_0
        have hl91_1 := lt_heap hr90_1
        have hr91_1 := (hO _ hl91_1).trans hr90_1
        have hr91_2 := hN
        clear hN hO
        clear hr90_0 hr90_1 HU90
        obtain ⟨c, hc⟩ : ∃ c, c = nd.count := ⟨_, rfl⟩
        have HIL := Lib.hid (fun (W : World) => isLeaf_any (nrow L nd) c (by rw [hc]; rfl) rfl (nrow_one L nd) W)
        have HCC := Lib.hid hc
        clear hc HRG
        have HWL0 := Lib.hid hr91_2
        have HWZ0 := Lib.hid (show (Try.prog.info? 45).map (·.size) = some ((nrow L nd) : Array Value).size by kernel_rfl)
        go_wp2_with (first | (with_reducible refine wpList_load_row rfl 45 (.tmp 9) rfl (y90.heap.size) rfl 45 (nrow L nd) (0, 0) _ HWL0.out Try.underlying45 rfl HWZ0.out ?_))
        clear HWL0 HWZ0
        refine (HIL.out _).mono ?_
        rintro e y92 ⟨rfl, hb92⟩
        have hr92_0 := (hb92.block _ (lt_heap hr91_0)).trans hr91_0
        have hr92_1 := (hb92.block _ (lt_heap hr91_1)).trans hr91_1
        have hr92_2 := (hb92.block _ (lt_heap hr91_2)).trans hr91_2
        have HU92 := Lib.hid (HU91.out.trans (hb92.mono HU91.out.size))
        clear hr91_0 hr91_1 hr91_2 HU91
        have HS9 := Lib.hid (own_keep (w' := y92) HS.out fun q hq => HU92.out.block q (HS.out.lt q hq).2)
        have HB9 := Lib.hid (own_keep (w' := y92) HB.out fun q hq => HU92.out.block q (HB.out.lt q hq).2)
        have HU9 := Lib.hid (HU.out.trans (HU92.out.mono hbs))
        clear HS HB HU
        by_cases hc0 : 0 < c
        · have HC0 := Lib.hid hc0
          have d := decide_eq_true hc0
          obtain ⟨hc1, hc4, hfn, hfi, hci, hfo, htake, hlx⟩ := hok.leafy.resolve_left (by rw [← HCC.out]; omega)
          obtain ⟨fi, hfid⟩ : ∃ x, x = nd.first.toNat := ⟨_, rfl⟩
          obtain ⟨ci, hcid⟩ : ∃ x, x = nd.count.toNat := ⟨_, rfl⟩
          rw [← hfid] at hfi hfo htake
          rw [← hcid] at hci hfo htake
          have hnext : (St_ NS k).next = (fi : Int) := by rw [← hfn]; exact hfi
          have hcc : c = (ci : Int) := by rw [HCC.out]; exact hci
          have hOl : OD.length = n := by rw [HOD.out]; exact (mk_len L n).1
          rw [hOl] at hfo
          have hll : nd.l.length = ci := by rw [← htake, List.length_take, List.length_drop, hOl]; omega
          have HLX := Lib.hid hlx
          have HTK := Lib.hid htake
          have HNX := Lib.hid hnext
          have HLLN := Lib.hid hll
          have HCI := Lib.hid hcc
          have HN14 := Lib.hid (show (nrow L nd)[14]? = some (.int .i64 (fi : Int)) from by show some (Value.int .i64 nd.first) = _; rw [hfi])
          have HN15 := Lib.hid (show (nrow L nd)[15]? = some (.int .i64 (ci : Int)) from by show some (Value.int .i64 nd.count) = _; rw [hci])
          rw [hnext]
          have hci1 : 1 ≤ ci := by omega
          have hci4 : ci ≤ 4 := by omega
          have l1 : ¬ (4 : Int) < (ci : Int) := by omega
          have l2 : ¬ (n : Int) < (fi : Int) + (ci : Int) := by omega
          have HSB := Lib.hid (seen_bd L n k nd (by rw [← HNS.out]; exact HND.out) (by rw [← HCC.out]; exact hc0))
          rw [← HNS.out] at HSB
          rcases HVO2.out.2 with ⟨-, hx0⟩ | ⟨go, capo, curo, hform, hgo, hcuro, hnko, -, -, -⟩
          · exact absurd hx0 (by omega)
          injection hform with e1 e2 e3
          subst e1
          subst e3
          have HCO := Lib.hid (show ∀ j, j < ci → curo[fi + j]? = some (.int .i64 ((nd.l.getD j 0 : Nat) : Int)) from fun j hj => by
            have a1 := HVO2.out.cellAt (fi + j) (by omega)
            rw [cell_of_row _ _ _ _ _ _ hcuro] at a1
            rw [a1, HOD.out] 
            have e : nd.l.getD j 0 = OD.getD (fi + j) 0 := by
              rw [getD_lt _ _ (by omega), getD_lt _ _ (by omega)]
              have := congrArg (fun t => t[j]?) HTK.out
              simp only [List.getElem?_take, List.getElem?_drop] at this
              rw [if_pos hj, List.getElem?_eq_getElem (by omega), List.getElem?_eq_getElem (by omega)] at this
              injection this with this
              exact this.symm
            rw [e, ← HOD.out]
            exact nv_at _ _ (by omega))
          have hgol := lt_heap hcuro
          have HRO := Lib.hid hcuro
          obtain ⟨kr, hkr⟩ : ∃ r, ko = fi + (r + 1) := ⟨ko - fi - 1, by omega⟩
          subst hkr
          have l3 : (fi : Int) ≤ (fi : Int) + (ci : Int) := by omega
          have l4 : (fi : Int) + (ci : Int) ≤ (fi : Int) + ((kr : Int) + 1) := by omega
          have hcn : fi + ci ≤ n := hfo
          clear hok hfn hfi hci hfo htake hlx hll hnext hcc hOl hfid hcid hcuro hnko
          have q14 := (cell_of_row _ _ 14 _ _ _ hr92_2).trans HN14.out
          have q15 := (cell_of_row _ _ 15 _ _ _ hr92_2).trans HN15.out
          have t0 := cell_of_row _ _ 0 _ _ _ hr92_0
          have t1 := cell_of_row _ _ 1 _ _ _ hr92_0
          simp at t0 t1
          rcases HOP2.out.2 with ⟨-, hx0⟩ | ⟨gp, capp, curp, hform, hgp, hcurp, -, -, -, -⟩
          · exact absurd hx0 (by omega)
          have HCP := Lib.hid (show ∀ j, j < n * 12 → curp[j]? = some (.int .i64 (L j)) from fun j hj => by
            have a1 := HOP2.out
            rw [hform] at a1
            have a2 := a1.cellAt j hj
            rw [cell_of_row _ _ _ _ _ _ hcurp, flat12_at _ _ _ hj] at a2
            exact a2)
          injection hform with e1 e2 e3
          subst e1
          subst e3
          have hgpl := lt_heap hcurp
          have HRP := Lib.hid hcurp
          obtain ⟨pf, hpf⟩ : ∃ f, f = pc L nd.l := ⟨_, rfl⟩
          have HPF := Lib.hid (show ∀ j v, ([.int .i64 (pf 0), .int .i64 (pf 1), .int .i64 (pf 2), .int .i64 (pf 3), .int .i64 (pf 4), .int .i64 (pf 5), .int .i64 (pf 6), .int .i64 (pf 7), .int .i64 (pf 8), .int .i64 (pf 9), .int .i64 (pf 10), .int .i64 (pf 11)] : List Value)[j]? = some v → (nrow L nd)[0 + j]? = some v from fun j v hv => by
            rw [hpf] at hv
            have h := pcs_ncs L nd j v hv
            rw [Nat.zero_add]
            simpa [nrow] using h)
          have HHP := Lib.hid (show ∀ x, x ∈ nd.l → Hold pf (fun c => L (x * 12 + c)) from fun x hx => by rw [hpf]; exact hold_one L nd.l x hx)
          obtain ⟨nb, hnb⟩ : ∃ b, b = y90.heap.size := ⟨_, rfl⟩
          have HNB := Lib.hid (show y92.heap[nb]? = some (.cells (nrow L nd) 45 (0, 0)) from by rw [hnb]; exact hr92_2)
          have hnb2 : y2.heap.size ≤ nb := by rw [hnb]; exact hbs
          have hnbs : nb ≠ gs := by omega
          have hnbb : nb ≠ gb := by omega
          have hnl := lt_heap HNB.out
          clear hcurp hpf
          go_upto_region 19 with fail
          rw [show fi + ci - fi = ci by omega, ← hnb]
          clear hnb q14 q15 t0 t1 hr92_0 hr92_1 hr92_2 HU92 l1 l2 l3 l4 d
          obtain ⟨sd, hsd⟩ : ∃ f, f = (St_ NS k).seen := ⟨_, rfl⟩
          obtain ⟨nm, hnm⟩ : ∃ f, f = (St_ NS k).named := ⟨_, rfl⟩
          rw [← hsd] at HS9 HSB
          rw [← hnm] at HB9
          have HSD := Lib.hid hsd
          have HNM := Lib.hid hnm
          clear hsd hnm
          go_loopw [11, 143] (fun s11 i wr => ∃ j : Nat, j ≤ ci ∧ i = .int .i64 j ∧ Hid (wr.ownsRow y2.heap.size 3 1 (.slice (some ⟨gs, 0, none⟩) n n) n (pv (ups sd (nd.l.take j)) n)) ∧ Hid (wr.ownsRow y2.heap.size 3 1 (.slice (some ⟨gb, 0, none⟩) len len) len (pv nm len)) ∧ Hid (wr.heap[nb]? = some (.cells (nrow L nd) 45 (0, 0))) ∧ Hid (Below y2.heap.size y2 wr)) (fun _ i _ => ci - (intOf i).toNat)
          case atStart => exact ⟨0, by omega, rfl, HS9, HB9, HNB, HU9⟩
          case round =>
            obtain ⟨j, hj, rfl, HSj, HBj, HNj, HUj⟩ := hrel
            have hbsj := HUj.out.size
            by_cases hjc : j < ci
            · have hji : (j : Int) < (ci : Int) := by omega
              have hll := HLLN.out
              obtain ⟨x, hx⟩ : ∃ x, x = nd.l.getD j 0 := ⟨_, rfl⟩
              have hxm : x ∈ nd.l := by rw [hx, getD_lt _ _ (by omega)]; exact List.getElem_mem _
              have hxn : x < n := HLX.out x hxm
              have hxi : (x : Int) < (n : Int) := by omega
              have hxi2 : ¬ (n : Int) ≤ (x : Int) := by omega
              have hx0 : ¬ (x : Int) < 0 := by omega
              have co : wr.cell? ⟨go, fi + j, none⟩ = some (.int .i64 (x : Int)) := by rw [cell_of_row _ _ _ _ _ _ ((HUj.out.block go hgol).trans HRO.out), HCO.out j hjc, hx]
              have HUP := Lib.hid (ups_step sd nd.l j (by omega))
              rw [← hx] at HUP
              have hbd := HSB.out j x hxn
              obtain ⟨f, hf⟩ : ∃ f, f = ups sd (nd.l.take j) := ⟨_, rfl⟩
              rw [← hf] at hbd HUP HSj
              obtain ⟨v, hv⟩ : ∃ v, v = f x := ⟨_, rfl⟩
              rw [← hv] at hbd
              obtain ⟨hv0, hv1⟩ := hbd
              have HV := Lib.hid hv
              have hold := HHP.out x hxm
              obtain ⟨qf, hqf⟩ : ∃ f : Nat → Int, f = fun c => L (x * 12 + c) := ⟨_, rfl⟩
              rw [← hqf] at hold
              have HQF := Lib.hid (show ∀ j v, ([.int .i64 (qf 0), .int .i64 (qf 1), .int .i64 (qf 2), .int .i64 (qf 3), .int .i64 (qf 4), .int .i64 (qf 5), .int .i64 (qf 6), .int .i64 (qf 7), .int .i64 (qf 8), .int .i64 (qf 9), .int .i64 (qf 10), .int .i64 (qf 11)] : List Value)[j]? = some v → curp[x * 12 + j]? = some v from fun j v hv => by
                rw [hqf] at hv
                match j, hv with
                | 0, hv => exact (HCP.out (x * 12 + 0) (by omega)).trans (by simpa using hv)
                | 1, hv => exact (HCP.out (x * 12 + 1) (by omega)).trans (by simpa using hv)
                | 2, hv => exact (HCP.out (x * 12 + 2) (by omega)).trans (by simpa using hv)
                | 3, hv => exact (HCP.out (x * 12 + 3) (by omega)).trans (by simpa using hv)
                | 4, hv => exact (HCP.out (x * 12 + 4) (by omega)).trans (by simpa using hv)
                | 5, hv => exact (HCP.out (x * 12 + 5) (by omega)).trans (by simpa using hv)
                | 6, hv => exact (HCP.out (x * 12 + 6) (by omega)).trans (by simpa using hv)
                | 7, hv => exact (HCP.out (x * 12 + 7) (by omega)).trans (by simpa using hv)
                | 8, hv => exact (HCP.out (x * 12 + 8) (by omega)).trans (by simpa using hv)
                | 9, hv => exact (HCP.out (x * 12 + 9) (by omega)).trans (by simpa using hv)
                | 10, hv => exact (HCP.out (x * 12 + 10) (by omega)).trans (by simpa using hv)
                | 11, hv => exact (HCP.out (x * 12 + 11) (by omega)).trans (by simpa using hv)
                | j + 12, hv => simp at hv)
              have HHC := Lib.hid (fun W => hold_call pf qf hold W)
              have hr40_0 := HNj.out
              have hr40_1 := (HUj.out.block gp hgpl).trans HRP.out
              obtain ⟨y40, rfl⟩ : ∃ y : World, y = wr := ⟨_, rfl⟩
              have HU40 := Lib.hid (Below.refl y40.heap.size y40)
              have hl40 := (HSj.out.lt gs rfl).2
              clear hx hf hv hold hqf hll hxm
              go_upto_region 21 with fail
              clear co
              refine wp_region_held_drew (S := fun y => y.heap[nb]? = some (.cells (nrow L nd) 45 (0, 0)) ∧ y.heap[gp]? = some (.cells curp 43 (0, 0))) (by kernel_rfl) (⟨hr40_0, hr40_1⟩) (fun hS0 => ?_)
              obtain ⟨y41, hy41⟩ : ∃ y, y40.drew = y := ⟨_, rfl⟩
              have HU41 := Lib.hid (show Below y40.heap.size y40 y41 by rw [← hy41]; exact HU40.out.drew)
              have hr41_0 : y41.heap[nb]? = some (.cells (nrow L nd) 45 (0, 0)) := by rw [← hy41]; exact hr40_0
              have hr41_1 : y41.heap[gp]? = some (.cells curp 43 (0, 0)) := by rw [← hy41]; exact hr40_1
              rw [hy41] at hS0 ⊢
              clear hy41
              refine wpAnyH_take (i := 0) (v := ?_) rfl (by kernel_rfl) (by kernel_rfl) (by kernel_rfl) (fun _ _ _ h => h) (Or.inl ⟨by kernel_rfl, by (intro wz hSz; go_simp; try with_reducible rfl)⟩) hS0 ?_
              go_simp
              refine wpAnyH_take (i := 1) (v := ?_) rfl (by kernel_rfl) (by kernel_rfl) (by kernel_rfl) (fun _ _ _ h => h) (Or.inl ⟨by kernel_rfl, by (intro wz hSz; go_simp; try with_reducible rfl)⟩) hS0 ?_
              go_simp
              refine wpAnyH_take (i := 2) (v := ?_) rfl (by kernel_rfl) (by kernel_rfl) (by kernel_rfl) (fun _ _ _ h => h) (Or.inl ⟨by kernel_rfl, by (intro wz hSz; go_simp; try with_reducible rfl)⟩) hS0 ?_
              go_simp
              refine wpAnyH_take (i := 3) (v := ?_) rfl (by kernel_rfl) (by kernel_rfl) (by kernel_rfl) (fun _ _ _ h => h) (Or.inl ⟨by kernel_rfl, by (intro wz hSz; go_simp; try with_reducible rfl)⟩) hS0 ?_
              go_simp
              refine wpAnyH_take (i := 4) (v := ?_) rfl (by kernel_rfl) (by kernel_rfl) (by kernel_rfl) (fun _ _ _ h => h) (Or.inl ⟨by kernel_rfl, by (intro wz hSz; go_simp; try with_reducible rfl)⟩) hS0 ?_
              go_simp
              refine wpAnyH_take (i := 5) (v := ?_) rfl (by kernel_rfl) (by kernel_rfl) (by kernel_rfl) (fun _ _ _ h => h) (Or.inl ⟨by kernel_rfl, by (intro wz hSz; go_simp; try with_reducible rfl)⟩) hS0 ?_
              go_simp
              refine wpAnyH_take (i := 6) (v := ?_) rfl (by kernel_rfl) (by kernel_rfl) (by kernel_rfl) (fun _ _ _ h => h) (Or.inl ⟨by kernel_rfl, by (intro wz hSz; go_simp; try with_reducible rfl)⟩) hS0 ?_
              go_simp
              refine wpAnyH_take (i := 7) (v := ?_) rfl (by kernel_rfl) (by kernel_rfl) (by kernel_rfl) (fun _ _ _ h => h) (Or.inl ⟨by kernel_rfl, by (intro wz hSz; go_simp; try with_reducible rfl)⟩) hS0 ?_
              go_simp
              refine wpAnyH_take (i := 8) (v := ?_) rfl (by kernel_rfl) (by kernel_rfl) (by kernel_rfl) (fun _ _ _ h => h) (Or.inl ⟨by kernel_rfl, by (intro wz hSz; go_simp; try with_reducible rfl)⟩) hS0 ?_
              go_simp
              refine wpAnyH_take (i := 9) (v := ?_) rfl (by kernel_rfl) (by kernel_rfl) (by kernel_rfl) (fun _ _ _ h => h) (Or.inl ⟨by kernel_rfl, by (intro wz hSz; go_simp; try with_reducible rfl)⟩) hS0 ?_
              go_simp
              refine wpAnyH_take (i := 10) (v := .agg #[.int .i64 (pf 0), .int .i64 (pf 1), .int .i64 (pf 2), .int .i64 (pf 3), .int .i64 (pf 4), .int .i64 (pf 5), .int .i64 (pf 6), .int .i64 (pf 7), .int .i64 (pf 8), .int .i64 (pf 9), .int .i64 (pf 10), .int .i64 (pf 11)]) rfl (by kernel_rfl) (by kernel_rfl) (by kernel_rfl) (fun _ _ _ h => h) (yieldsIf_load_mid (by kernel_rfl) 43 (.tmp 156) rfl nb (0) (by first | rfl | (go_simp; done) | (go_simp; rfl)) [.int .i64 (pf 0), .int .i64 (pf 1), .int .i64 (pf 2), .int .i64 (pf 3), .int .i64 (pf 4), .int .i64 (pf 5), .int .i64 (pf 6), .int .i64 (pf 7), .int .i64 (pf 8), .int .i64 (pf 9), .int .i64 (pf 10), .int .i64 (pf 11)] _ (fun yy hh => range_row hh.1 HPF.out) Try.underlying43 rfl (by kernel_rfl)) hS0 ?_
              go_simp
              refine wpAnyH_take (i := 11) (v := ?_) rfl (by kernel_rfl) (by kernel_rfl) (by kernel_rfl) (fun _ _ _ h => h) (Or.inl ⟨by kernel_rfl, by (intro wz hSz; go_simp; try with_reducible rfl)⟩) hS0 ?_
              go_simp
              refine wpAnyH_take (i := 12) (v := ?_) rfl (by kernel_rfl) (by kernel_rfl) (by kernel_rfl) (fun _ _ _ h => h) (Or.inl ⟨by kernel_rfl, by (intro wz hSz; go_simp; try with_reducible rfl)⟩) hS0 ?_
              go_simp
              refine wpAnyH_take (i := 13) (v := ?_) rfl (by kernel_rfl) (by kernel_rfl) (by kernel_rfl) (fun _ _ _ h => h) (Or.inl ⟨by kernel_rfl, by (intro wz hSz; go_simp; try with_reducible rfl)⟩) hS0 ?_
              go_simp
              refine wpAnyH_take (i := 14) (v := .agg #[.int .i64 (qf 0), .int .i64 (qf 1), .int .i64 (qf 2), .int .i64 (qf 3), .int .i64 (qf 4), .int .i64 (qf 5), .int .i64 (qf 6), .int .i64 (qf 7), .int .i64 (qf 8), .int .i64 (qf 9), .int .i64 (qf 10), .int .i64 (qf 11)]) rfl (by kernel_rfl) (by kernel_rfl) (by kernel_rfl) (fun _ _ _ h => h) (yieldsIf_load_mid (by kernel_rfl) 43 (.tmp 160) rfl gp (x * 12) (by first | rfl | (go_simp; done) | (go_simp; rfl)) [.int .i64 (qf 0), .int .i64 (qf 1), .int .i64 (qf 2), .int .i64 (qf 3), .int .i64 (qf 4), .int .i64 (qf 5), .int .i64 (qf 6), .int .i64 (qf 7), .int .i64 (qf 8), .int .i64 (qf 9), .int .i64 (qf 10), .int .i64 (qf 11)] _ (fun yy hh => range_row hh.2 HQF.out) Try.underlying43 rfl (by kernel_rfl)) hS0 ?_
              go_simp
              refine wpAnyH_ready (rs := [15]) (by kernel_rfl) (by simp) ?_
              refine AllReadyH.cons rfl (fun K hK => ?_) AllReadyH.nil
              go_simp
              go_wp2_with (go_at_call 13; refine (HHC.out _).mono ?_; rintro e y42 ⟨rfl, hb42⟩)
              have hr42_0 := (hb42.block _ (lt_heap hr41_0)).trans hr41_0
              have hr42_1 := (hb42.block _ (lt_heap hr41_1)).trans hr41_1
              have HU42 := Lib.hid (HU41.out.trans (hb42.mono HU41.out.size))
              refine hK.out _ _ (⟨(hb42.block _ (lt_heap hS0.1)).trans hS0.1, (hb42.block _ (lt_heap hS0.2)).trans hS0.2⟩) (fun hS42c => ?_)
              clear hK K
              refine wpAnyH_take (i := 16) (v := ?_) rfl (by kernel_rfl) (by kernel_rfl) (by kernel_rfl) (fun _ _ _ h => h) (Or.inl ⟨by kernel_rfl, by (intro wz hSz; go_simp; try with_reducible rfl)⟩) hS42c ?_
              go_simp
              refine wpAnyH_take (i := 17) (v := ?_) rfl (by kernel_rfl) (by kernel_rfl) (by kernel_rfl) (fun _ _ _ h => h) (Or.inl ⟨by kernel_rfl, by (intro wz hSz; go_simp; try with_reducible rfl)⟩) hS42c ?_
              go_simp
              refine wpAnyH_done (by kernel_rfl) ?_ _
              have HSk := Lib.hid (own_keep (w' := y42) HSj.out fun q hq => HU42.out.block q (HSj.out.lt q hq).2)
              have HBk := Lib.hid (own_keep (w' := y42) HBj.out fun q hq => HU42.out.block q (HBj.out.lt q hq).2)
              have HUk := Lib.hid (HUj.out.trans (HU42.out.mono hbsj))
              have cs : y42.cell? ⟨gs, x, none⟩ = some (.int .i64 v) := by rw [HSk.out.cellAt x (by omega), pv_at _ _ _ hxn, HV.out]
              have fz := HSk.out.frozenAt
              clear HSj HBj HUj
              go_wp2_with fail
              go_roundw
              case rel =>
                have hst := (HSk.out.stored x (.int .i64 (v + 1))).1
                rw [pv_set] at hst
                refine ⟨j + 1, by omega, by go_num, Lib.hid ?_, Lib.hid (own_keep HBk.out fun q hq => setCell_heap _ _ _ _ _ (fun e => hgsb (by injection hq with e2; rw [← e, ← e2]))), Lib.hid ((setCell_heap _ _ _ _ _ hnbs).trans hr42_0), Lib.hid (HUk.out.setCell (by show y2.heap.size ≤ gs; exact hgs) _)⟩
                rw [HUP.out]
                have e : up f x = fun k => if k = x then v + 1 else f k := by
                  funext k
                  unfold up
                  by_cases hk : k = x
                  · rw [if_pos hk, if_pos hk, hk, HV.out]
                  · rw [if_neg hk, if_neg hk]
                rw [e]
                exact hst
              case measure => simp [intOf]; omega
            · have hjm : j = ci := by omega
              subst hjm
              have hnl2 : ¬ (j : Int) < (j : Int) := by omega
              go_wp2_with fail
              go_roundw
              case rel =>
                have e1 : ups sd (nd.l.take j) = ups sd nd.l := by rw [List.take_of_length_le (by rw [HLLN.out]; exact Nat.le_refl _)]
                have hS := HSj.out
                rw [e1] at hS
                have e2 : hround (St_ NS k) nd = ⟨nm, ups sd nd.l, (fi : Int) + (j : Int)⟩ := by
                  unfold hround
                  rw [if_pos (by rw [← HCC.out]; exact HC0.out), HSD.out, HNM.out, HNX.out]
                  congr 1
                  rw [← HCC.out, HCI.out]
                refine ⟨k + 1, by omega, by go_num, by rw [HSTEP.out, e2], Lib.hid ?_, Lib.hid ?_, HUj⟩
                · rw [HSTEP.out, e2]; exact hS
                · rw [HSTEP.out, e2]; exact HBj.out
              case measure => simp [intOf]; omega
        · have HC0 := Lib.hid hc0
          have d := decide_eq_false hc0
          have hcz : nd.count = 0 := by
            rcases hok.leafy with h | h
            · exact h
            · exact absurd h.1 (by rw [← HCC.out]; omega)
          obtain ⟨Lf, Rf, hLf, hRf, hkL, hLR, hRl, ⟨mL, hmL, hoL⟩, ⟨mR, hmR, hoR⟩⟩ := hok.inner hcz
          rw [← HLN.out] at hRl
          have HN12 := Lib.hid (show (nrow L nd)[12]? = some (.int .i64 (Lf : Int)) from by show some (Value.int .i64 nd.left) = _; rw [hLf])
          have HN13 := Lib.hid (show (nrow L nd)[13]? = some (.int .i64 (Rf : Int)) from by show some (Value.int .i64 nd.right) = _; rw [hRf])
          obtain ⟨pf, hpf⟩ : ∃ f, f = pc L nd.l := ⟨_, rfl⟩
          obtain ⟨qf, hqf⟩ : ∃ f, f = pc L mL.l := ⟨_, rfl⟩
          obtain ⟨rf, hrf⟩ : ∃ f, f = pc L mR.l := ⟨_, rfl⟩
          have HPF := Lib.hid (show ∀ j v, ([.int .i64 (pf 0), .int .i64 (pf 1), .int .i64 (pf 2), .int .i64 (pf 3), .int .i64 (pf 4), .int .i64 (pf 5), .int .i64 (pf 6), .int .i64 (pf 7), .int .i64 (pf 8), .int .i64 (pf 9), .int .i64 (pf 10), .int .i64 (pf 11)] : List Value)[j]? = some v → (nrow L nd)[0 + j]? = some v from fun j v hv => by
            rw [hpf] at hv
            have h := pcs_ncs L nd j v hv
            rw [Nat.zero_add]
            simpa [nrow] using h)
          have HQF := Lib.hid (show ∀ j v, ([.int .i64 (qf 0), .int .i64 (qf 1), .int .i64 (qf 2), .int .i64 (qf 3), .int .i64 (qf 4), .int .i64 (qf 5), .int .i64 (qf 6), .int .i64 (qf 7), .int .i64 (qf 8), .int .i64 (qf 9), .int .i64 (qf 10), .int .i64 (qf 11)] : List Value)[j]? = some v → curn[Lf * 16 + j]? = some v from fun j v hv => by
            rw [hqf] at hv
            exact HCN.out Lf mL hmL j v (pcs_ncs L mL j v hv))
          have HRF := Lib.hid (show ∀ j v, ([.int .i64 (rf 0), .int .i64 (rf 1), .int .i64 (rf 2), .int .i64 (rf 3), .int .i64 (rf 4), .int .i64 (rf 5), .int .i64 (rf 6), .int .i64 (rf 7), .int .i64 (rf 8), .int .i64 (rf 9), .int .i64 (rf 10), .int .i64 (rf 11)] : List Value)[j]? = some v → curn[Rf * 16 + j]? = some v from fun j v hv => by
            rw [hrf] at hv
            exact HCN.out Rf mR hmR j v (pcs_ncs L mR j v hv))
          rw [← hpf] at hoL hoR
          rw [← hqf] at hoL
          rw [← hrf] at hoR
          have HHL := Lib.hid (fun W => hold_call pf qf hoL W)
          have HHR := Lib.hid (fun W => hold_call pf rf hoR W)
          have i1 : ¬ (Lf : Int) ≤ (k : Int) := by omega
          have i2 : ¬ (Rf : Int) ≤ (k : Int) := by omega
          have i3 : ¬ (len : Int) ≤ (Lf : Int) := by omega
          have i4 : ¬ (len : Int) ≤ (Rf : Int) := by omega
          have d1 : decide (Lf ≤ k) = false := decide_eq_false (by omega)
          have d2 : decide (Rf ≤ k) = false := decide_eq_false (by omega)
          have d3 : decide (len ≤ Lf) = false := decide_eq_false (by omega)
          have d4 : decide (len ≤ Rf) = false := decide_eq_false (by omega)
          have i5 : (Lf : Int) < (len : Int) := by omega
          have i6 : (Rf : Int) < (len : Int) := by omega
          have hLl : Lf < len := by omega
          have hne : Rf ≠ Lf := by omega
          have HBD := Lib.hid (fun t (ht : t < len) => named_bd L n k t (by rw [← HNS.out, ← HLN.out]; exact ht))
          rw [← HNS.out] at HBD
          obtain ⟨nb, hnb⟩ : ∃ b, b = y90.heap.size := ⟨_, rfl⟩
          have hnbg : nb ≠ gb := by omega
          have HMZ := Lib.hid hcz
          have HLF := Lib.hid hLf
          have HRFF := Lib.hid hRf
          obtain ⟨nm, hnm⟩ : ∃ f, f = (St_ NS k).named := ⟨_, rfl⟩
          rw [← hnm] at HBD HB9
          have HNM := Lib.hid hnm
          clear hok hcz hLf hRf hmL hoL hmR hoR hpf hqf hrf hnm
          go_upto_region 11 with fail
          rw [← hnb]
          have hr50_0 := hr92_0
          have hr50_1 := hr92_1
          have hr50_2 := hr92_2
          rw [← hnb] at hr50_2
          obtain ⟨y50, rfl⟩ : ∃ y : World, y = y92 := ⟨_, rfl⟩
          have HU50 := Lib.hid (Below.refl y50.heap.size y50)
          clear hnb d hr92_0 hr92_1 hr92_2 HU92
          refine wp_region_held_drew (S := fun y => y.heap[tb]? = some (.cells #[.slice (some ⟨gn, 0, none⟩) len kn, .slice ao n ko] 27 (0, 0)) ∧ y.heap[gn]? = some (.cells curn 45 (0, 0)) ∧ y.heap[nb]? = some (.cells (nrow L nd) 45 (0, 0))) (by kernel_rfl) (⟨hr50_0, hr50_1, hr50_2⟩) (fun hS0 => ?_)
          obtain ⟨y51, hy51⟩ : ∃ y, y50.drew = y := ⟨_, rfl⟩
          have HU51 := Lib.hid (show Below y50.heap.size y50 y51 by rw [← hy51]; exact HU50.out.drew)
          have hr51_0 : y51.heap[tb]? = some (.cells #[.slice (some ⟨gn, 0, none⟩) len kn, .slice ao n ko] 27 (0, 0)) := by rw [← hy51]; exact hr50_0
          have hr51_1 : y51.heap[gn]? = some (.cells curn 45 (0, 0)) := by rw [← hy51]; exact hr50_1
          have hr51_2 : y51.heap[nb]? = some (.cells (nrow L nd) 45 (0, 0)) := by rw [← hy51]; exact hr50_2
          rw [hy51] at hS0 ⊢
          clear hy51
          refine wpAnyH_take (i := 0) (v := ?_) rfl (by kernel_rfl) (by kernel_rfl) (by kernel_rfl) (fun _ _ _ h => h) (Or.inl ⟨by kernel_rfl, by (intro wz hSz; go_simp; try with_reducible rfl)⟩) hS0 ?_
          go_simp
          refine wpAnyH_take (i := 1) (v := ?_) rfl (by kernel_rfl) (by kernel_rfl) (by kernel_rfl) (fun _ _ _ h => h) (Or.inl ⟨by kernel_rfl, by (intro wz hSz; have c0_0 := cell_of_row _ _ 0 _ _ _ hSz.1; have c0_1 := cell_of_row _ _ 1 _ _ _ hSz.1; simp at c0_0 c0_1; have q12z := (cell_of_row _ _ 12 _ _ _ hSz.2.2).trans HN12.out; have q13z := (cell_of_row _ _ 13 _ _ _ hSz.2.2).trans HN13.out; go_simp; try with_reducible rfl)⟩) hS0 ?_
          go_simp
          refine wpAnyH_take (i := 2) (v := ?_) rfl (by kernel_rfl) (by kernel_rfl) (by kernel_rfl) (fun _ _ _ h => h) (Or.inl ⟨by kernel_rfl, by (intro wz hSz; go_simp; try with_reducible rfl)⟩) hS0 ?_
          go_simp
          refine wpAnyH_take (i := 3) (v := ?_) rfl (by kernel_rfl) (by kernel_rfl) (by kernel_rfl) (fun _ _ _ h => h) (Or.inl ⟨by kernel_rfl, by (intro wz hSz; go_simp; try with_reducible rfl)⟩) hS0 ?_
          go_simp
          refine wpAnyH_take (i := 4) (v := ?_) rfl (by kernel_rfl) (by kernel_rfl) (by kernel_rfl) (fun _ _ _ h => h) (Or.inl ⟨by kernel_rfl, by (intro wz hSz; go_simp; try with_reducible rfl)⟩) hS0 ?_
          go_simp
          refine wpAnyH_take (i := 5) (v := ?_) rfl (by kernel_rfl) (by kernel_rfl) (by kernel_rfl) (fun _ _ _ h => h) (Or.inl ⟨by kernel_rfl, by (intro wz hSz; go_simp; try with_reducible rfl)⟩) hS0 ?_
          go_simp
          refine wpAnyH_take (i := 6) (v := ?_) rfl (by kernel_rfl) (by kernel_rfl) (by kernel_rfl) (fun _ _ _ h => h) (Or.inl ⟨by kernel_rfl, by (intro wz hSz; have c0_0 := cell_of_row _ _ 0 _ _ _ hSz.1; have c0_1 := cell_of_row _ _ 1 _ _ _ hSz.1; simp at c0_0 c0_1; have q12z := (cell_of_row _ _ 12 _ _ _ hSz.2.2).trans HN12.out; have q13z := (cell_of_row _ _ 13 _ _ _ hSz.2.2).trans HN13.out; go_simp; try with_reducible rfl)⟩) hS0 ?_
          go_simp
          refine wpAnyH_take (i := 7) (v := ?_) rfl (by kernel_rfl) (by kernel_rfl) (by kernel_rfl) (fun _ _ _ h => h) (Or.inl ⟨by kernel_rfl, by (intro wz hSz; go_simp; try with_reducible rfl)⟩) hS0 ?_
          go_simp
          refine wpAnyH_take (i := 8) (v := ?_) rfl (by kernel_rfl) (by kernel_rfl) (by kernel_rfl) (fun _ _ _ h => h) (Or.inl ⟨by kernel_rfl, by (intro wz hSz; go_simp; try with_reducible rfl)⟩) hS0 ?_
          go_simp
          refine wpAnyH_take (i := 9) (v := ?_) rfl (by kernel_rfl) (by kernel_rfl) (by kernel_rfl) (fun _ _ _ h => h) (Or.inl ⟨by kernel_rfl, by (intro wz hSz; go_simp; try with_reducible rfl)⟩) hS0 ?_
          go_simp
          refine wpAnyH_take (i := 10) (v := ?_) rfl (by kernel_rfl) (by kernel_rfl) (by kernel_rfl) (fun _ _ _ h => h) (Or.inl ⟨by kernel_rfl, by (intro wz hSz; go_simp; try with_reducible rfl)⟩) hS0 ?_
          go_simp
          refine wpAnyH_take (i := 11) (v := ?_) rfl (by kernel_rfl) (by kernel_rfl) (by kernel_rfl) (fun _ _ _ h => h) (Or.inl ⟨by kernel_rfl, by (intro wz hSz; go_simp; try with_reducible rfl)⟩) hS0 ?_
          go_simp
          refine wpAnyH_take (i := 12) (v := ?_) rfl (by kernel_rfl) (by kernel_rfl) (by kernel_rfl) (fun _ _ _ h => h) (Or.inl ⟨by kernel_rfl, by (intro wz hSz; have c0_0 := cell_of_row _ _ 0 _ _ _ hSz.1; have c0_1 := cell_of_row _ _ 1 _ _ _ hSz.1; simp at c0_0 c0_1; have q12z := (cell_of_row _ _ 12 _ _ _ hSz.2.2).trans HN12.out; have q13z := (cell_of_row _ _ 13 _ _ _ hSz.2.2).trans HN13.out; go_simp; try with_reducible rfl)⟩) hS0 ?_
          go_simp
          refine wpAnyH_take (i := 13) (v := ?_) rfl (by kernel_rfl) (by kernel_rfl) (by kernel_rfl) (fun _ _ _ h => h) (Or.inl ⟨by kernel_rfl, by (intro wz hSz; go_simp; try with_reducible rfl)⟩) hS0 ?_
          go_simp
          refine wpAnyH_take (i := 14) (v := ?_) rfl (by kernel_rfl) (by kernel_rfl) (by kernel_rfl) (fun _ _ _ h => h) (Or.inl ⟨by kernel_rfl, by (intro wz hSz; have c0_0 := cell_of_row _ _ 0 _ _ _ hSz.1; have c0_1 := cell_of_row _ _ 1 _ _ _ hSz.1; simp at c0_0 c0_1; have q12z := (cell_of_row _ _ 12 _ _ _ hSz.2.2).trans HN12.out; have q13z := (cell_of_row _ _ 13 _ _ _ hSz.2.2).trans HN13.out; go_simp; try with_reducible rfl)⟩) hS0 ?_
          go_simp
          refine wpAnyH_take (i := 15) (v := ?_) rfl (by kernel_rfl) (by kernel_rfl) (by kernel_rfl) (fun _ _ _ h => h) (Or.inl ⟨by kernel_rfl, by (intro wz hSz; go_simp; try with_reducible rfl)⟩) hS0 ?_
          go_simp
          refine wpAnyH_take (i := 16) (v := ?_) rfl (by kernel_rfl) (by kernel_rfl) (by kernel_rfl) (fun _ _ _ h => h) (Or.inl ⟨by kernel_rfl, by (intro wz hSz; go_simp; try with_reducible rfl)⟩) hS0 ?_
          go_simp
          refine wpAnyH_take (i := 17) (v := ?_) rfl (by kernel_rfl) (by kernel_rfl) (by kernel_rfl) (fun _ _ _ h => h) (Or.inl ⟨by kernel_rfl, by (intro wz hSz; go_simp; try with_reducible rfl)⟩) hS0 ?_
          go_simp
          refine wpAnyH_take (i := 18) (v := ?_) rfl (by kernel_rfl) (by kernel_rfl) (by kernel_rfl) (fun _ _ _ h => h) (Or.inl ⟨by kernel_rfl, by (intro wz hSz; go_simp; try with_reducible rfl)⟩) hS0 ?_
          go_simp
          refine wpAnyH_take (i := 19) (v := ?_) rfl (by kernel_rfl) (by kernel_rfl) (by kernel_rfl) (fun _ _ _ h => h) (Or.inl ⟨by kernel_rfl, by (intro wz hSz; go_simp; try with_reducible rfl)⟩) hS0 ?_
          go_simp
          refine wpAnyH_take (i := 20) (v := ?_) rfl (by kernel_rfl) (by kernel_rfl) (by kernel_rfl) (fun _ _ _ h => h) (Or.inl ⟨by kernel_rfl, by (intro wz hSz; have c0_0 := cell_of_row _ _ 0 _ _ _ hSz.1; have c0_1 := cell_of_row _ _ 1 _ _ _ hSz.1; simp at c0_0 c0_1; have q12z := (cell_of_row _ _ 12 _ _ _ hSz.2.2).trans HN12.out; have q13z := (cell_of_row _ _ 13 _ _ _ hSz.2.2).trans HN13.out; go_simp; try with_reducible rfl)⟩) hS0 ?_
          go_simp
          refine wpAnyH_take (i := 21) (v := ?_) rfl (by kernel_rfl) (by kernel_rfl) (by kernel_rfl) (fun _ _ _ h => h) (Or.inl ⟨by kernel_rfl, by (intro wz hSz; go_simp; try with_reducible rfl)⟩) hS0 ?_
          go_simp
          refine wpAnyH_take (i := 22) (v := ?_) rfl (by kernel_rfl) (by kernel_rfl) (by kernel_rfl) (fun _ _ _ h => h) (Or.inl ⟨by kernel_rfl, by (intro wz hSz; have c0_0 := cell_of_row _ _ 0 _ _ _ hSz.1; have c0_1 := cell_of_row _ _ 1 _ _ _ hSz.1; simp at c0_0 c0_1; have q12z := (cell_of_row _ _ 12 _ _ _ hSz.2.2).trans HN12.out; have q13z := (cell_of_row _ _ 13 _ _ _ hSz.2.2).trans HN13.out; go_simp; try with_reducible rfl)⟩) hS0 ?_
          go_simp
          refine wpAnyH_take (i := 23) (v := ?_) rfl (by kernel_rfl) (by kernel_rfl) (by kernel_rfl) (fun _ _ _ h => h) (Or.inl ⟨by kernel_rfl, by (intro wz hSz; go_simp; try with_reducible rfl)⟩) hS0 ?_
          go_simp
          refine wpAnyH_take (i := 24) (v := ?_) rfl (by kernel_rfl) (by kernel_rfl) (by kernel_rfl) (fun _ _ _ h => h) (Or.inl ⟨by kernel_rfl, by (intro wz hSz; go_simp; try with_reducible rfl)⟩) hS0 ?_
          go_simp
          refine wpAnyH_take (i := 25) (v := ?_) rfl (by kernel_rfl) (by kernel_rfl) (by kernel_rfl) (fun _ _ _ h => h) (Or.inl ⟨by kernel_rfl, by (intro wz hSz; go_simp; try with_reducible rfl)⟩) hS0 ?_
          go_simp
          refine wpAnyH_take (i := 26) (v := ?_) rfl (by kernel_rfl) (by kernel_rfl) (by kernel_rfl) (fun _ _ _ h => h) (Or.inl ⟨by kernel_rfl, by (intro wz hSz; go_simp; try with_reducible rfl)⟩) hS0 ?_
          go_simp
          refine wpAnyH_take (i := 27) (v := ?_) rfl (by kernel_rfl) (by kernel_rfl) (by kernel_rfl) (fun _ _ _ h => h) (Or.inl ⟨by kernel_rfl, by (intro wz hSz; go_simp; try with_reducible rfl)⟩) hS0 ?_
          go_simp
          refine wpAnyH_take (i := 28) (v := .agg #[.int .i64 (pf 0), .int .i64 (pf 1), .int .i64 (pf 2), .int .i64 (pf 3), .int .i64 (pf 4), .int .i64 (pf 5), .int .i64 (pf 6), .int .i64 (pf 7), .int .i64 (pf 8), .int .i64 (pf 9), .int .i64 (pf 10), .int .i64 (pf 11)]) rfl (by kernel_rfl) (by kernel_rfl) (by kernel_rfl) (fun _ _ _ h => h) (yieldsIf_load_mid (by kernel_rfl) 43 (.tmp 69) rfl nb (0) (by first | rfl | (go_simp; done) | (go_simp; rfl)) [.int .i64 (pf 0), .int .i64 (pf 1), .int .i64 (pf 2), .int .i64 (pf 3), .int .i64 (pf 4), .int .i64 (pf 5), .int .i64 (pf 6), .int .i64 (pf 7), .int .i64 (pf 8), .int .i64 (pf 9), .int .i64 (pf 10), .int .i64 (pf 11)] _ (fun yy hh => range_row hh.2.2 HPF.out) Try.underlying43 rfl (by kernel_rfl)) hS0 ?_
          go_simp
          refine wpAnyH_take (i := 29) (v := ?_) rfl (by kernel_rfl) (by kernel_rfl) (by kernel_rfl) (fun _ _ _ h => h) (Or.inl ⟨by kernel_rfl, by (intro wz hSz; go_simp; try with_reducible rfl)⟩) hS0 ?_
          go_simp
          refine wpAnyH_take (i := 30) (v := ?_) rfl (by kernel_rfl) (by kernel_rfl) (by kernel_rfl) (fun _ _ _ h => h) (Or.inl ⟨by kernel_rfl, by (intro wz hSz; have c0_0 := cell_of_row _ _ 0 _ _ _ hSz.1; have c0_1 := cell_of_row _ _ 1 _ _ _ hSz.1; simp at c0_0 c0_1; have q12z := (cell_of_row _ _ 12 _ _ _ hSz.2.2).trans HN12.out; have q13z := (cell_of_row _ _ 13 _ _ _ hSz.2.2).trans HN13.out; go_simp; try with_reducible rfl)⟩) hS0 ?_
          go_simp
          refine wpAnyH_take (i := 31) (v := ?_) rfl (by kernel_rfl) (by kernel_rfl) (by kernel_rfl) (fun _ _ _ h => h) (Or.inl ⟨by kernel_rfl, by (intro wz hSz; go_simp; try with_reducible rfl)⟩) hS0 ?_
          go_simp
          refine wpAnyH_take (i := 32) (v := ?_) rfl (by kernel_rfl) (by kernel_rfl) (by kernel_rfl) (fun _ _ _ h => h) (Or.inl ⟨by kernel_rfl, by (intro wz hSz; have c0_0 := cell_of_row _ _ 0 _ _ _ hSz.1; have c0_1 := cell_of_row _ _ 1 _ _ _ hSz.1; simp at c0_0 c0_1; have q12z := (cell_of_row _ _ 12 _ _ _ hSz.2.2).trans HN12.out; have q13z := (cell_of_row _ _ 13 _ _ _ hSz.2.2).trans HN13.out; go_simp; try with_reducible rfl)⟩) hS0 ?_
          go_simp
          refine wpAnyH_take (i := 33) (v := ?_) rfl (by kernel_rfl) (by kernel_rfl) (by kernel_rfl) (fun _ _ _ h => h) (Or.inl ⟨by kernel_rfl, by (intro wz hSz; go_simp; try with_reducible rfl)⟩) hS0 ?_
          go_simp
          refine wpAnyH_take (i := 34) (v := ?_) rfl (by kernel_rfl) (by kernel_rfl) (by kernel_rfl) (fun _ _ _ h => h) (Or.inl ⟨by kernel_rfl, by (intro wz hSz; go_simp; try with_reducible rfl)⟩) hS0 ?_
          go_simp
          refine wpAnyH_take (i := 35) (v := .agg #[.int .i64 (qf 0), .int .i64 (qf 1), .int .i64 (qf 2), .int .i64 (qf 3), .int .i64 (qf 4), .int .i64 (qf 5), .int .i64 (qf 6), .int .i64 (qf 7), .int .i64 (qf 8), .int .i64 (qf 9), .int .i64 (qf 10), .int .i64 (qf 11)]) rfl (by kernel_rfl) (by kernel_rfl) (by kernel_rfl) (fun _ _ _ h => h) (yieldsIf_load_mid (by kernel_rfl) 43 (.tmp 76) rfl gn (Lf * 16) (by first | rfl | (go_simp; done) | (go_simp; rfl)) [.int .i64 (qf 0), .int .i64 (qf 1), .int .i64 (qf 2), .int .i64 (qf 3), .int .i64 (qf 4), .int .i64 (qf 5), .int .i64 (qf 6), .int .i64 (qf 7), .int .i64 (qf 8), .int .i64 (qf 9), .int .i64 (qf 10), .int .i64 (qf 11)] _ (fun yy hh => range_row hh.2.1 HQF.out) Try.underlying43 rfl (by kernel_rfl)) hS0 ?_
          go_simp
          refine wpAnyH_ready (rs := [36]) (by kernel_rfl) (by simp) ?_
          refine AllReadyH.cons rfl (fun K hK => ?_) AllReadyH.nil
          go_simp
          go_wp2_with (go_at_call 13; refine (HHL.out _).mono ?_; rintro e y52 ⟨rfl, hb52⟩)
          have hr52_0 := (hb52.block _ (lt_heap hr51_0)).trans hr51_0
          have hr52_1 := (hb52.block _ (lt_heap hr51_1)).trans hr51_1
          have hr52_2 := (hb52.block _ (lt_heap hr51_2)).trans hr51_2
          have HU52 := Lib.hid (HU51.out.trans (hb52.mono HU51.out.size))
          refine hK.out _ _ (⟨(hb52.block _ (lt_heap hS0.1)).trans hS0.1, (hb52.block _ (lt_heap hS0.2.1)).trans hS0.2.1, (hb52.block _ (lt_heap hS0.2.2)).trans hS0.2.2⟩) (fun hS52c => ?_)
          clear hK K
          refine wpAnyH_take (i := 37) (v := ?_) rfl (by kernel_rfl) (by kernel_rfl) (by kernel_rfl) (fun _ _ _ h => h) (Or.inl ⟨by kernel_rfl, by (intro wz hSz; go_simp; try with_reducible rfl)⟩) hS52c ?_
          go_simp
          refine wpAnyH_take (i := 38) (v := ?_) rfl (by kernel_rfl) (by kernel_rfl) (by kernel_rfl) (fun _ _ _ h => h) (Or.inl ⟨by kernel_rfl, by (intro wz hSz; go_simp; try with_reducible rfl)⟩) hS52c ?_
          go_simp
          refine wpAnyH_take (i := 39) (v := ?_) rfl (by kernel_rfl) (by kernel_rfl) (by kernel_rfl) (fun _ _ _ h => h) (Or.inl ⟨by kernel_rfl, by (intro wz hSz; go_simp; try with_reducible rfl)⟩) hS52c ?_
          go_simp
          refine wpAnyH_take (i := 40) (v := ?_) rfl (by kernel_rfl) (by kernel_rfl) (by kernel_rfl) (fun _ _ _ h => h) (Or.inl ⟨by kernel_rfl, by (intro wz hSz; go_simp; try with_reducible rfl)⟩) hS52c ?_
          go_simp
          refine wpAnyH_take (i := 41) (v := .agg #[.int .i64 (pf 0), .int .i64 (pf 1), .int .i64 (pf 2), .int .i64 (pf 3), .int .i64 (pf 4), .int .i64 (pf 5), .int .i64 (pf 6), .int .i64 (pf 7), .int .i64 (pf 8), .int .i64 (pf 9), .int .i64 (pf 10), .int .i64 (pf 11)]) rfl (by kernel_rfl) (by kernel_rfl) (by kernel_rfl) (fun _ _ _ h => h) (yieldsIf_load_mid (by kernel_rfl) 43 (.tmp 82) rfl nb (0) (by first | rfl | (go_simp; done) | (go_simp; rfl)) [.int .i64 (pf 0), .int .i64 (pf 1), .int .i64 (pf 2), .int .i64 (pf 3), .int .i64 (pf 4), .int .i64 (pf 5), .int .i64 (pf 6), .int .i64 (pf 7), .int .i64 (pf 8), .int .i64 (pf 9), .int .i64 (pf 10), .int .i64 (pf 11)] _ (fun yy hh => range_row hh.2.2 HPF.out) Try.underlying43 rfl (by kernel_rfl)) hS52c ?_
          go_simp
          refine wpAnyH_take (i := 42) (v := ?_) rfl (by kernel_rfl) (by kernel_rfl) (by kernel_rfl) (fun _ _ _ h => h) (Or.inl ⟨by kernel_rfl, by (intro wz hSz; go_simp; try with_reducible rfl)⟩) hS52c ?_
          go_simp
          refine wpAnyH_take (i := 43) (v := ?_) rfl (by kernel_rfl) (by kernel_rfl) (by kernel_rfl) (fun _ _ _ h => h) (Or.inl ⟨by kernel_rfl, by (intro wz hSz; have c0_0 := cell_of_row _ _ 0 _ _ _ hSz.1; have c0_1 := cell_of_row _ _ 1 _ _ _ hSz.1; simp at c0_0 c0_1; have q12z := (cell_of_row _ _ 12 _ _ _ hSz.2.2).trans HN12.out; have q13z := (cell_of_row _ _ 13 _ _ _ hSz.2.2).trans HN13.out; go_simp; try with_reducible rfl)⟩) hS52c ?_
          go_simp
          refine wpAnyH_take (i := 44) (v := ?_) rfl (by kernel_rfl) (by kernel_rfl) (by kernel_rfl) (fun _ _ _ h => h) (Or.inl ⟨by kernel_rfl, by (intro wz hSz; go_simp; try with_reducible rfl)⟩) hS52c ?_
          go_simp
          refine wpAnyH_take (i := 45) (v := ?_) rfl (by kernel_rfl) (by kernel_rfl) (by kernel_rfl) (fun _ _ _ h => h) (Or.inl ⟨by kernel_rfl, by (intro wz hSz; have c0_0 := cell_of_row _ _ 0 _ _ _ hSz.1; have c0_1 := cell_of_row _ _ 1 _ _ _ hSz.1; simp at c0_0 c0_1; have q12z := (cell_of_row _ _ 12 _ _ _ hSz.2.2).trans HN12.out; have q13z := (cell_of_row _ _ 13 _ _ _ hSz.2.2).trans HN13.out; go_simp; try with_reducible rfl)⟩) hS52c ?_
          go_simp
          refine wpAnyH_take (i := 46) (v := ?_) rfl (by kernel_rfl) (by kernel_rfl) (by kernel_rfl) (fun _ _ _ h => h) (Or.inl ⟨by kernel_rfl, by (intro wz hSz; go_simp; try with_reducible rfl)⟩) hS52c ?_
          go_simp
          refine wpAnyH_take (i := 47) (v := ?_) rfl (by kernel_rfl) (by kernel_rfl) (by kernel_rfl) (fun _ _ _ h => h) (Or.inl ⟨by kernel_rfl, by (intro wz hSz; go_simp; try with_reducible rfl)⟩) hS52c ?_
          go_simp
          refine wpAnyH_take (i := 48) (v := .agg #[.int .i64 (rf 0), .int .i64 (rf 1), .int .i64 (rf 2), .int .i64 (rf 3), .int .i64 (rf 4), .int .i64 (rf 5), .int .i64 (rf 6), .int .i64 (rf 7), .int .i64 (rf 8), .int .i64 (rf 9), .int .i64 (rf 10), .int .i64 (rf 11)]) rfl (by kernel_rfl) (by kernel_rfl) (by kernel_rfl) (fun _ _ _ h => h) (yieldsIf_load_mid (by kernel_rfl) 43 (.tmp 89) rfl gn (Rf * 16) (by first | rfl | (go_simp; done) | (go_simp; rfl)) [.int .i64 (rf 0), .int .i64 (rf 1), .int .i64 (rf 2), .int .i64 (rf 3), .int .i64 (rf 4), .int .i64 (rf 5), .int .i64 (rf 6), .int .i64 (rf 7), .int .i64 (rf 8), .int .i64 (rf 9), .int .i64 (rf 10), .int .i64 (rf 11)] _ (fun yy hh => range_row hh.2.1 HRF.out) Try.underlying43 rfl (by kernel_rfl)) hS52c ?_
          go_simp
          refine wpAnyH_ready (rs := [49]) (by kernel_rfl) (by simp) ?_
          refine AllReadyH.cons rfl (fun K hK => ?_) AllReadyH.nil
          go_simp
          go_wp2_with (go_at_call 13; refine (HHR.out _).mono ?_; rintro e y53 ⟨rfl, hb53⟩)
          have hr53_0 := (hb53.block _ (lt_heap hr52_0)).trans hr52_0
          have hr53_1 := (hb53.block _ (lt_heap hr52_1)).trans hr52_1
          have hr53_2 := (hb53.block _ (lt_heap hr52_2)).trans hr52_2
          have HU53 := Lib.hid (HU52.out.trans (hb53.mono HU52.out.size))
          refine hK.out _ _ (⟨(hb53.block _ (lt_heap hS52c.1)).trans hS52c.1, (hb53.block _ (lt_heap hS52c.2.1)).trans hS52c.2.1, (hb53.block _ (lt_heap hS52c.2.2)).trans hS52c.2.2⟩) (fun hS53c => ?_)
          clear hK K
          refine wpAnyH_take (i := 50) (v := ?_) rfl (by kernel_rfl) (by kernel_rfl) (by kernel_rfl) (fun _ _ _ h => h) (Or.inl ⟨by kernel_rfl, by (intro wz hSz; go_simp; try with_reducible rfl)⟩) hS53c ?_
          go_simp
          refine wpAnyH_take (i := 51) (v := ?_) rfl (by kernel_rfl) (by kernel_rfl) (by kernel_rfl) (fun _ _ _ h => h) (Or.inl ⟨by kernel_rfl, by (intro wz hSz; go_simp; try with_reducible rfl)⟩) hS53c ?_
          go_simp
          refine wpAnyH_done (by kernel_rfl) ?_ _
          have HSk := Lib.hid (own_keep (w' := y53) HS9.out fun q hq => HU53.out.block q (HS9.out.lt q hq).2)
          have HBk := Lib.hid (own_keep (w' := y53) HB9.out fun q hq => HU53.out.block q (HB9.out.lt q hq).2)
          have HUk := Lib.hid (HU9.out.trans (HU53.out.mono (by have := HU9.out.size; omega)))
          clear HS9 HB9 HU9
          obtain ⟨bL0, bL1⟩ := HBD.out Lf hLl
          obtain ⟨bR0, bR1⟩ := HBD.out Rf hRl
          obtain ⟨vL, hvL⟩ : ∃ v, v = nm Lf := ⟨_, rfl⟩
          obtain ⟨vR, hvR⟩ : ∃ v, v = nm Rf := ⟨_, rfl⟩
          rw [← hvL] at bL0 bL1
          rw [← hvR] at bR0 bR1
          have q12 := (cell_of_row _ _ 12 _ _ _ hr53_2).trans HN12.out
          have cL : y53.cell? ⟨gb, Lf, none⟩ = some (.int .i64 vL) := by rw [HBk.out.cellAt Lf (by omega), pv_at _ _ _ hLl, hvL]
          have fz := HBk.out.frozenAt
          have hst := (HBk.out.stored Lf (.int .i64 (vL + 1))).1
          rw [pv_set] at hst
          have HVL := Lib.hid hvL
          have HVR := Lib.hid hvR
          clear hvL hvR i1 i2 i3 i4 d1 d2 d3 d4
          go_upto_region 14 with fail
          have HSa := Lib.hid (own_keep (w' := y53.setCell ⟨gb, Lf, none⟩ (.int .i64 (vL + 1))) HSk.out fun q hq => setCell_heap _ _ _ _ _ (fun e => hgsb (by injection hq with e2; rw [← e, ← e2])))
          have hrz := (setCell_heap y53 gb Lf (.int .i64 (vL + 1)) nb hnbg).trans hr53_2
          have HUa := Lib.hid (HUk.out.setCell (p := ⟨gb, Lf, none⟩) (by show y2.heap.size ≤ gb; exact hgb) (.int .i64 (vL + 1)))
          obtain ⟨ya, hya⟩ : ∃ y, y53.setCell ⟨gb, Lf, none⟩ (.int .i64 (vL + 1)) = y := ⟨_, rfl⟩
          rw [hya] at hst HSa hrz HUa ⊢
          have HBa := Lib.hid hst
          have q13 := (cell_of_row _ _ 13 _ _ _ hrz).trans HN13.out
          have cR : ya.cell? ⟨gb, Rf, none⟩ = some (.int .i64 vR) := by rw [HBa.out.cellAt Rf (by omega), pv_at _ _ _ hRl, if_neg hne, HVR.out]
          have fz2 := HBa.out.frozenAt
          have hst2 := (HBa.out.stored Rf (.int .i64 (vR + 1))).1
          rw [pv_set] at hst2
          have HBb := Lib.hid hst2
          clear hya hst hst2 q12 cL fz hr53_0 hr53_1 hr53_2 HU53 hrz HSk HBk HUk
          go_wp2_with fail
          go_roundw
          case rel =>
            have e2 : hround (St_ NS k) nd = ⟨up (up nm Lf) Rf, (St_ NS k).seen, (St_ NS k).next⟩ := by
              unfold hround
              rw [if_neg (by rw [HMZ.out]; omega), HLF.out, HRFF.out, HNM.out]
              simp only [Int.toNat_natCast]
            have e3 : up (up nm Lf) Rf = fun t => if t = Rf then vR + 1 else if t = Lf then vL + 1 else nm t := by
              funext t
              unfold up
              by_cases h1 : t = Rf
              · rw [if_pos h1, if_pos h1, h1, if_neg hne, HVR.out]
              · rw [if_neg h1, if_neg h1]
                by_cases h2 : t = Lf
                · rw [if_pos h2, if_pos h2, h2, HVL.out]
                · rw [if_neg h2, if_neg h2]
            refine ⟨k + 1, by omega, by go_num, by rw [HSTEP.out, e2], Lib.hid ?_, Lib.hid ?_, Lib.hid (HUa.out.setCell (by show y2.heap.size ≤ gb; exact hgb) _)⟩
            · rw [HSTEP.out, e2]
              exact own_keep HSa.out fun q hq => setCell_heap _ _ _ _ _ (fun e => hgsb (by injection hq with e2; rw [← e, ← e2]))
            · rw [HSTEP.out, e2]
              show World.ownsRow _ _ _ _ _ len (pv (up (up nm Lf) Rf) len)
              rw [e3]
              exact HBb.out
          case measure => simp [intOf]; omega
      · have hkm : k = len := by omega
        subst hkm
        have hnl : ¬ (k : Int) < (k : Int) := by omega
        have hend := mk_end L n
        rw [← HNS.out] at hend
        have hSt : St_ NS k = hruns s0 NS := by unfold St_; rw [HLN.out, List.take_length]
        rw [hSt] at HS HB ⊢
        rw [hend.1]
        have HE1 := Lib.hid hend.2.1
        have HE2 := Lib.hid hend.2.2
        clear hend hSt hlt' hk
        go_upto_region 27 with fail
        go_loopw [13, 175] (fun s13 i wr => ∃ j : Nat, j ≤ n ∧ i = .int .i64 j ∧ Hid (Below y2.heap.size y2 wr) ∧ Hid (wr.ownsRow y2.heap.size 3 1 (.slice (some ⟨gs, 0, none⟩) n n) n (pv (hruns s0 NS).seen n)) ∧ Hid (wr.ownsRow y2.heap.size 3 1 (.slice (some ⟨gb, 0, none⟩) k k) k (pv (hruns s0 NS).named k))) (fun _ i _ => n - (intOf i).toNat)
        case atStart => exact ⟨0, by omega, rfl, HU, HS, HB⟩
        case round =>
          obtain ⟨j, hj, rfl, HUj, HSj, HBj⟩ := hrel
          by_cases hjn : j < n
          · have hji : (j : Int) < (n : Int) := by omega
            have cs : wr.cell? ⟨gs, j, none⟩ = some (.int .i64 1) := by rw [HSj.out.cellAt j (by omega), pv_at _ _ _ hjn, HE1.out j hjn]
            go_wp2_with fail
            go_roundw
            case rel => exact ⟨j + 1, by omega, by go_num, HUj, HSj, HBj⟩
            case measure => simp [intOf]; omega
          · have hjm : j = n := by omega
            subst hjm
            have hnl2 : ¬ (j : Int) < (j : Int) := by omega
            clear HSj HU HS HB
            go_upto_region 33 with fail
            go_loopw [14, 15, 184] (fun s14 s15 i wr2 => ∃ q : Nat, q ≤ k ∧ i = .int .i64 q ∧ Hid (Below y2.heap.size y2 wr2) ∧ Hid (wr2.ownsRow y2.heap.size 3 1 (.slice (some ⟨gb, 0, none⟩) k k) k (pv (hruns s0 NS).named k))) (fun _ _ i _ => k - (intOf i).toNat)
            case atStart => exact ⟨0, by omega, rfl, HUj, HBj⟩
            case round =>
              obtain ⟨q, hq, rfl, HUq, HBq⟩ := hrel
              by_cases hqk : q < k
              · have hqi : (q : Int) < (k : Int) := by omega
                have hmin : min (q : Int) 1 = if q = 0 then 0 else 1 := by split <;> omega
                have cs : wr.cell? ⟨gb, q, none⟩ = some (.int .i64 (min (q : Int) 1)) := by rw [HBq.out.cellAt q (by omega), pv_at _ _ _ hqk, HE2.out q (by rw [← HLN.out]; exact hqk), hmin]
                clear hmin
                go_wp2_with fail
                go_roundw
                case rel => exact ⟨q + 1, by omega, by go_num, HUq, HBq⟩
                case measure => simp [intOf]; omega
              · have hqm : q = k := by omega
                subst hqm
                go_wp2_with (go_at_call 5; refine (awake_tree _).mono ?_; rintro e y9 ⟨rfl, hb9⟩)
                go_ret
                have h := HW2.out.trans (HUq.out.mono hw2)
                exact ⟨rfl, h.trans (hb9.mono h.size)⟩

end Go.Proofs.Ytoppcnkfgmbpfaa.treeHoldsW
