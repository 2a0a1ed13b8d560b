/- FilmReads: the walk. -/
import Derived.Test.YtgkfoiekminfmaaC46
import Derived.Test.YtgkfoiekminfmaaC28
import Derived.Test.YtgkfoiekminfmaaC29
import Derived.Test.YtgkfoiekminfmaaC30
import Derived.Test.YtgkfoiekminfmaaC47
namespace Go.Proofs.Ytgkfoiekminfmaa.filmReadsW
open Go Go.RowKit Go.Proofs.Ytgkfoiekminfmaa Go.Proofs.Ytgkfoiekminfmaa.Rp Go.Proofs.Ytgkfoiekminfmaa.Re Go.Proofs.Ytgkfoiekminfmaa.Au Go.Proofs.Ytgkfoiekminfmaa.Jw Go.Proofs.Ytgkfoiekminfmaa.Fm
set_option linter.unusedVariables false
set_option linter.unusedSimpArgs false

set_option maxHeartbeats 16000000 in
set_option maxRecDepth 100000 in
theorem walk (ba : Option Addr) (bn bc : Nat) (l : List UInt8) (w : World) (hv : Bs w (.slice ba bn bc) l) (hl : l.length = bn) (hm : bn ≤ 140737488355328) : Calls Try.prog 5 #[.slice ba bn bc] w fun e' w' => e' = .returned (.bool true) ∧ Below w.heap.size w w' := by
  have hlm : l.length ≤ 140737488355328 := by omega
  obtain ⟨W, H, n, M, er, hn, h1, h2⟩ := both_sheet l hlm
  obtain ⟨⟨W2, H2, nl, nd, nn, nb, ns, nf, L, D, N, B, S, F⟩, er2, hk, h3, h4⟩ := both_film l hlm
  have HV := Lib.hid hv
  have H1 := Lib.hid h1
  have H2_ := Lib.hid h2
  have H3 := Lib.hid h3
  have H4 := Lib.hid h4
  obtain ⟨kl, kd, kn, kb, ks, kf⟩ := hk
  simp only at kl kd kn kb ks kf
  clear hv h1 h2 h3 h4 hl hlm
  go_enter Try.func5, Try.ntmps5
  go_wp2_with fail
  refine (H1.out ba bn bc _ HV.out hm).mono ?_
  rintro e y1 ⟨⟨a1, c1, rfl, hr⟩, hb1⟩
  have HU1 := Lib.hid hb1
  have RA1 := Lib.hid hr
  clear hb1 hr
  have HA := Lib.hid (heap_alloc_last y1 (.cells #[.int .i64 0, .int .i64 0, .slice none 0 0] 35))
  have hHi := Lib.hid (show (Try.prog.info? 35).map (·.size) = some (#[.int .i64 W, .int .i64 H, .slice a1 n c1] : Array Value).size by kernel_rfl)
  have hHz := Lib.hid (show (#[.int .i64 0, .int .i64 0, .slice none 0 0] : Array Value).size = (#[.int .i64 W, .int .i64 H, .slice a1 n c1] : Array Value).size from rfl)
  have hHo := Lib.hid (show (#[.int .i64 W, .int .i64 H, .slice a1 n c1] : Array Value).all (·.oneCell') = true by simp [Value.oneCell'])
  go_upto_region 2 with (refine Au.wpList_store_row rfl 35 (.tmp 3) (.tmp 14) rfl (y1.alloc (.cells #[.int .i64 0, .int .i64 0, .slice none 0 0] 35)) #[.int .i64 0, .int .i64 0, .slice none 0 0] #[.int .i64 W, .int .i64 H, .slice a1 n c1] (y1.heap.size) 35 HA.out rfl rfl hHi.out hHz.out hHo.out ?_)
  clear hHi hHz hHo
  have hN := setRow_heap _ (y1.heap.size) _ #[.int .i64 W, .int .i64 H, .slice a1 n c1] _ _ HA.out
  clear HA
  have hsz := HU1.out.size
  have hb := Ve.below_n1 y1 (.cells #[.int .i64 0, .int .i64 0, .slice none 0 0] 35)
  have HUx := below_setRow (g := y1.heap.size) (HU1.out.trans (hb.mono HU1.out.size)) (by omega) #[.int .i64 W, .int .i64 H, .slice a1 n c1]
  have hO : ∀ kk, kk < y1.heap.size → ((y1.alloc (.cells #[.int .i64 0, .int .i64 0, .slice none 0 0] 35)).setRow (y1.heap.size) #[.int .i64 W, .int .i64 H, .slice a1 n c1]).heap[kk]? = y1.heap[kk]? := fun kk hk => (setRow_other _ _ _ _ (by omega)).trans (hb.block _ hk)
  obtain ⟨y2, hy2⟩ : ∃ y, (y1.alloc (.cells #[.int .i64 0, .int .i64 0, .slice none 0 0] 35)).setRow (y1.heap.size) #[.int .i64 W, .int .i64 H, .slice a1 n c1] = y := ⟨_, rfl⟩
  have hs2 : y2.heap.size = y1.heap.size + 1 := by rw [← hy2]; simp [World.setRow]
  rw [hy2] at hN HUx hO ⊢
  clear hy2 hsz hb
  have HU2 := Lib.hid HUx
  clear HUx
  have hr2_0 := hN
  have hKK := hO
  clear hN hO
  clear HU1
  have RA2 := Lib.hid ((RA1.out.low.keep (fun b hb => hKK b hb)).rw (by decide))
  clear RA1
  clear hKK
  go_wp2_with fail
  refine (H2_.out ba bn bc _ (HV.out.on HU2.out) hm).mono ?_
  rintro e y3 ⟨⟨a2, c2, rfl, hrr⟩, hb3⟩
  have hr3_0 := (hb3.block _ (lt_heap hr2_0)).trans hr2_0
  have HU3 := Lib.hid (HU2.out.trans (hb3.mono HU2.out.size))
  clear hr2_0 HU2
  have RA3 := Lib.hid (RA2.out.on hb3)
  clear RA2
  have RB3 := Lib.hid hrr
  clear hrr
  have c0_0 := cell_of_row _ _ 0 _ _ _ hr3_0
  have c0_1 := cell_of_row _ _ 1 _ _ _ hr3_0
  have c0_2 := cell_of_row _ _ 2 _ _ _ hr3_0
  simp at c0_0 c0_1 c0_2
  have HA := Lib.hid (heap_alloc_last y3 (.cells #[.int .i64 0, .int .i64 0, .slice none 0 0] 24))
  have hHi := Lib.hid (show (Try.prog.info? 24).map (·.size) = some (#[.int .i64 W, .int .i64 H, .slice a2 n c2] : Array Value).size by kernel_rfl)
  have hHz := Lib.hid (show (#[.int .i64 0, .int .i64 0, .slice none 0 0] : Array Value).size = (#[.int .i64 W, .int .i64 H, .slice a2 n c2] : Array Value).size from rfl)
  have hHo := Lib.hid (show (#[.int .i64 W, .int .i64 H, .slice a2 n c2] : Array Value).all (·.oneCell') = true by simp [Value.oneCell'])
  go_upto_region 3 with (refine Au.wpList_store_row rfl 24 (.tmp 5) (.tmp 19) rfl (y3.alloc (.cells #[.int .i64 0, .int .i64 0, .slice none 0 0] 24)) #[.int .i64 0, .int .i64 0, .slice none 0 0] #[.int .i64 W, .int .i64 H, .slice a2 n c2] (y3.heap.size) 24 HA.out rfl rfl hHi.out hHz.out hHo.out ?_)
  clear c0_0 c0_1 c0_2
  clear hHi hHz hHo
  have hN := setRow_heap _ (y3.heap.size) _ #[.int .i64 W, .int .i64 H, .slice a2 n c2] _ _ HA.out
  clear HA
  have hsz := HU3.out.size
  have hb := Ve.below_n1 y3 (.cells #[.int .i64 0, .int .i64 0, .slice none 0 0] 24)
  have HUx := below_setRow (g := y3.heap.size) (HU3.out.trans (hb.mono HU3.out.size)) (by omega) #[.int .i64 W, .int .i64 H, .slice a2 n c2]
  have hO : ∀ kk, kk < y3.heap.size → ((y3.alloc (.cells #[.int .i64 0, .int .i64 0, .slice none 0 0] 24)).setRow (y3.heap.size) #[.int .i64 W, .int .i64 H, .slice a2 n c2]).heap[kk]? = y3.heap[kk]? := fun kk hk => (setRow_other _ _ _ _ (by omega)).trans (hb.block _ hk)
  obtain ⟨y4, hy4⟩ : ∃ y, (y3.alloc (.cells #[.int .i64 0, .int .i64 0, .slice none 0 0] 24)).setRow (y3.heap.size) #[.int .i64 W, .int .i64 H, .slice a2 n c2] = y := ⟨_, rfl⟩
  have hs4 : y4.heap.size = y3.heap.size + 1 := by rw [← hy4]; simp [World.setRow]
  rw [hy4] at hN HUx hO ⊢
  clear hy4 hsz hb
  have HU4 := Lib.hid HUx
  clear HUx
  have hl4_0 := lt_heap hr3_0
  have hr4_0 := (hO _ hl4_0).trans hr3_0
  have hr4_1 := hN
  have hKK := hO
  clear hN hO
  clear hr3_0 HU3
  have RA4 := Lib.hid ((RA3.out.low.keep (fun b hb => hKK b hb)).rw (by decide))
  clear RA3
  have RB4 := Lib.hid ((RB3.out.low.keep (fun b hb => hKK b hb)).rw (by decide))
  clear RB3
  clear hKK
  go_wp2_with fail
  refine (H3.out ba bn bc _ (HV.out.on HU4.out) hm).mono ?_
  rintro e y5 ⟨⟨⟨al, cl, ad, cd, an, cn, ab, cb, ax, cx, af, cf⟩, rfl, hrr⟩, hb5⟩
  have hr5_0 := (hb5.block _ (lt_heap hr4_0)).trans hr4_0
  have hr5_1 := (hb5.block _ (lt_heap hr4_1)).trans hr4_1
  have HU5 := Lib.hid (HU4.out.trans (hb5.mono HU4.out.size))
  clear hr4_0 hr4_1 HU4
  have RA5 := Lib.hid (RA4.out.on hb5)
  clear RA4
  have RB5 := Lib.hid (RB4.out.on hb5)
  clear RB4
  have FA5 := Lib.hid hrr
  clear hrr
  have c0_0 := cell_of_row _ _ 0 _ _ _ hr5_0
  have c0_1 := cell_of_row _ _ 1 _ _ _ hr5_0
  have c0_2 := cell_of_row _ _ 2 _ _ _ hr5_0
  have c1_0 := cell_of_row _ _ 0 _ _ _ hr5_1
  have c1_1 := cell_of_row _ _ 1 _ _ _ hr5_1
  have c1_2 := cell_of_row _ _ 2 _ _ _ hr5_1
  simp at c0_0 c0_1 c0_2 c1_0 c1_1 c1_2
  have HA := Lib.hid (heap_alloc_last y5 (.cells #[.int .i64 0, .int .i64 0, .slice none 0 0, .slice none 0 0, .slice none 0 0, .slice none 0 0, .slice none 0 0, .slice none 0 0] 39))
  have hHi := Lib.hid (show (Try.prog.info? 39).map (·.size) = some (#[.int .i64 W2, .int .i64 H2, .slice al nl cl, .slice ad nd cd, .slice an nn cn, .slice ab nb cb, .slice ax ns cx, .slice af nf cf] : Array Value).size by kernel_rfl)
  have hHz := Lib.hid (show (#[.int .i64 0, .int .i64 0, .slice none 0 0, .slice none 0 0, .slice none 0 0, .slice none 0 0, .slice none 0 0, .slice none 0 0] : Array Value).size = (#[.int .i64 W2, .int .i64 H2, .slice al nl cl, .slice ad nd cd, .slice an nn cn, .slice ab nb cb, .slice ax ns cx, .slice af nf cf] : Array Value).size from rfl)
  have hHo := Lib.hid (show (#[.int .i64 W2, .int .i64 H2, .slice al nl cl, .slice ad nd cd, .slice an nn cn, .slice ab nb cb, .slice ax ns cx, .slice af nf cf] : Array Value).all (·.oneCell') = true by simp [Value.oneCell'])
  go_upto_region 4 with (refine Au.wpList_store_row rfl 39 (.tmp 7) (.tmp 24) rfl (y5.alloc (.cells #[.int .i64 0, .int .i64 0, .slice none 0 0, .slice none 0 0, .slice none 0 0, .slice none 0 0, .slice none 0 0, .slice none 0 0] 39)) #[.int .i64 0, .int .i64 0, .slice none 0 0, .slice none 0 0, .slice none 0 0, .slice none 0 0, .slice none 0 0, .slice none 0 0] #[.int .i64 W2, .int .i64 H2, .slice al nl cl, .slice ad nd cd, .slice an nn cn, .slice ab nb cb, .slice ax ns cx, .slice af nf cf] (y5.heap.size) 39 HA.out rfl rfl hHi.out hHz.out hHo.out ?_)
  clear c0_0 c0_1 c0_2 c1_0 c1_1 c1_2
  clear hHi hHz hHo
  have hN := setRow_heap _ (y5.heap.size) _ #[.int .i64 W2, .int .i64 H2, .slice al nl cl, .slice ad nd cd, .slice an nn cn, .slice ab nb cb, .slice ax ns cx, .slice af nf cf] _ _ HA.out
  clear HA
  have hsz := HU5.out.size
  have hb := Ve.below_n1 y5 (.cells #[.int .i64 0, .int .i64 0, .slice none 0 0, .slice none 0 0, .slice none 0 0, .slice none 0 0, .slice none 0 0, .slice none 0 0] 39)
  have HUx := below_setRow (g := y5.heap.size) (HU5.out.trans (hb.mono HU5.out.size)) (by omega) #[.int .i64 W2, .int .i64 H2, .slice al nl cl, .slice ad nd cd, .slice an nn cn, .slice ab nb cb, .slice ax ns cx, .slice af nf cf]
  have hO : ∀ kk, kk < y5.heap.size → ((y5.alloc (.cells #[.int .i64 0, .int .i64 0, .slice none 0 0, .slice none 0 0, .slice none 0 0, .slice none 0 0, .slice none 0 0, .slice none 0 0] 39)).setRow (y5.heap.size) #[.int .i64 W2, .int .i64 H2, .slice al nl cl, .slice ad nd cd, .slice an nn cn, .slice ab nb cb, .slice ax ns cx, .slice af nf cf]).heap[kk]? = y5.heap[kk]? := fun kk hk => (setRow_other _ _ _ _ (by omega)).trans (hb.block _ hk)
  obtain ⟨y6, hy6⟩ : ∃ y, (y5.alloc (.cells #[.int .i64 0, .int .i64 0, .slice none 0 0, .slice none 0 0, .slice none 0 0, .slice none 0 0, .slice none 0 0, .slice none 0 0] 39)).setRow (y5.heap.size) #[.int .i64 W2, .int .i64 H2, .slice al nl cl, .slice ad nd cd, .slice an nn cn, .slice ab nb cb, .slice ax ns cx, .slice af nf cf] = y := ⟨_, rfl⟩
  have hs6 : y6.heap.size = y5.heap.size + 1 := by rw [← hy6]; simp [World.setRow]
  rw [hy6] at hN HUx hO ⊢
  clear hy6 hsz hb
  have HU6 := Lib.hid HUx
  clear HUx
  have hl6_0 := lt_heap hr5_0
  have hr6_0 := (hO _ hl6_0).trans hr5_0
  have hl6_1 := lt_heap hr5_1
  have hr6_1 := (hO _ hl6_1).trans hr5_1
  have hr6_2 := hN
  have hKK := hO
  clear hN hO
  clear hr5_0 hr5_1 HU5
  have RA6 := Lib.hid ((RA5.out.low.keep (fun b hb => hKK b hb)).rw (by decide))
  clear RA5
  have RB6 := Lib.hid ((RB5.out.low.keep (fun b hb => hKK b hb)).rw (by decide))
  clear RB5
  have FA6 := Lib.hid (show FAt y6 (⟨W2, H2, nl, nd, nn, nb, ns, nf, L, D, N, B, S, F⟩ : Flm) (⟨al, cl, ad, cd, an, cn, ab, cb, ax, cx, af, cf⟩ : Pl) from ⟨(FA5.out.l.low.keep (fun b hb => hKK b hb)).rw (by decide), (FA5.out.d.low.keep (fun b hb => hKK b hb)).rw (by decide), (FA5.out.n.low.keep (fun b hb => hKK b hb)).rw (by decide), (FA5.out.b.low.keep (fun b hb => hKK b hb)).rw (by decide), (FA5.out.s.low.keep (fun b hb => hKK b hb)).rw (by decide), (FA5.out.f.low.keep (fun b hb => hKK b hb)).rw (by decide)⟩)
  clear FA5
  clear hKK
  go_wp2_with fail
  refine (H4.out ba bn bc _ (HV.out.on HU6.out) hm).mono ?_
  rintro e y7 ⟨⟨⟨al', cl', ad', cd', an', cn', ab', cb', ax', cx', af', cf'⟩, rfl, hrr⟩, hb7⟩
  have hr7_0 := (hb7.block _ (lt_heap hr6_0)).trans hr6_0
  have hr7_1 := (hb7.block _ (lt_heap hr6_1)).trans hr6_1
  have hr7_2 := (hb7.block _ (lt_heap hr6_2)).trans hr6_2
  have HU7 := Lib.hid (HU6.out.trans (hb7.mono HU6.out.size))
  clear hr6_0 hr6_1 hr6_2 HU6
  have RA7 := Lib.hid (RA6.out.on hb7)
  clear RA6
  have RB7 := Lib.hid (RB6.out.on hb7)
  clear RB6
  have FA7 := Lib.hid (FA6.out.on hb7)
  clear FA6
  have FB7 := Lib.hid hrr
  clear hrr
  have c0_0 := cell_of_row _ _ 0 _ _ _ hr7_0
  have c0_1 := cell_of_row _ _ 1 _ _ _ hr7_0
  have c0_2 := cell_of_row _ _ 2 _ _ _ hr7_0
  have c1_0 := cell_of_row _ _ 0 _ _ _ hr7_1
  have c1_1 := cell_of_row _ _ 1 _ _ _ hr7_1
  have c1_2 := cell_of_row _ _ 2 _ _ _ hr7_1
  have c2_0 := cell_of_row _ _ 0 _ _ _ hr7_2
  have c2_1 := cell_of_row _ _ 1 _ _ _ hr7_2
  have c2_2 := cell_of_row _ _ 2 _ _ _ hr7_2
  have c2_3 := cell_of_row _ _ 3 _ _ _ hr7_2
  have c2_4 := cell_of_row _ _ 4 _ _ _ hr7_2
  have c2_5 := cell_of_row _ _ 5 _ _ _ hr7_2
  have c2_6 := cell_of_row _ _ 6 _ _ _ hr7_2
  have c2_7 := cell_of_row _ _ 7 _ _ _ hr7_2
  simp at c0_0 c0_1 c0_2 c1_0 c1_1 c1_2 c2_0 c2_1 c2_2 c2_3 c2_4 c2_5 c2_6 c2_7
  have HA := Lib.hid (heap_alloc_last y7 (.cells #[.int .i64 0, .int .i64 0, .slice none 0 0, .slice none 0 0, .slice none 0 0, .slice none 0 0, .slice none 0 0, .slice none 0 0] 29))
  have hHi := Lib.hid (show (Try.prog.info? 29).map (·.size) = some (#[.int .i64 W2, .int .i64 H2, .slice al' nl cl', .slice ad' nd cd', .slice an' nn cn', .slice ab' nb cb', .slice ax' ns cx', .slice af' nf cf'] : Array Value).size by kernel_rfl)
  have hHz := Lib.hid (show (#[.int .i64 0, .int .i64 0, .slice none 0 0, .slice none 0 0, .slice none 0 0, .slice none 0 0, .slice none 0 0, .slice none 0 0] : Array Value).size = (#[.int .i64 W2, .int .i64 H2, .slice al' nl cl', .slice ad' nd cd', .slice an' nn cn', .slice ab' nb cb', .slice ax' ns cx', .slice af' nf cf'] : Array Value).size from rfl)
  have hHo := Lib.hid (show (#[.int .i64 W2, .int .i64 H2, .slice al' nl cl', .slice ad' nd cd', .slice an' nn cn', .slice ab' nb cb', .slice ax' ns cx', .slice af' nf cf'] : Array Value).all (·.oneCell') = true by simp [Value.oneCell'])
  go_upto_region 5 with (refine Au.wpList_store_row rfl 29 (.tmp 9) (.tmp 29) rfl (y7.alloc (.cells #[.int .i64 0, .int .i64 0, .slice none 0 0, .slice none 0 0, .slice none 0 0, .slice none 0 0, .slice none 0 0, .slice none 0 0] 29)) #[.int .i64 0, .int .i64 0, .slice none 0 0, .slice none 0 0, .slice none 0 0, .slice none 0 0, .slice none 0 0, .slice none 0 0] #[.int .i64 W2, .int .i64 H2, .slice al' nl cl', .slice ad' nd cd', .slice an' nn cn', .slice ab' nb cb', .slice ax' ns cx', .slice af' nf cf'] (y7.heap.size) 29 HA.out rfl rfl hHi.out hHz.out hHo.out ?_)
  clear c0_0 c0_1 c0_2 c1_0 c1_1 c1_2 c2_0 c2_1 c2_2 c2_3 c2_4 c2_5 c2_6 c2_7
  clear hHi hHz hHo
  have hN := setRow_heap _ (y7.heap.size) _ #[.int .i64 W2, .int .i64 H2, .slice al' nl cl', .slice ad' nd cd', .slice an' nn cn', .slice ab' nb cb', .slice ax' ns cx', .slice af' nf cf'] _ _ HA.out
  clear HA
  have hsz := HU7.out.size
  have hb := Ve.below_n1 y7 (.cells #[.int .i64 0, .int .i64 0, .slice none 0 0, .slice none 0 0, .slice none 0 0, .slice none 0 0, .slice none 0 0, .slice none 0 0] 29)
  have HUx := below_setRow (g := y7.heap.size) (HU7.out.trans (hb.mono HU7.out.size)) (by omega) #[.int .i64 W2, .int .i64 H2, .slice al' nl cl', .slice ad' nd cd', .slice an' nn cn', .slice ab' nb cb', .slice ax' ns cx', .slice af' nf cf']
  have hO : ∀ kk, kk < y7.heap.size → ((y7.alloc (.cells #[.int .i64 0, .int .i64 0, .slice none 0 0, .slice none 0 0, .slice none 0 0, .slice none 0 0, .slice none 0 0, .slice none 0 0] 29)).setRow (y7.heap.size) #[.int .i64 W2, .int .i64 H2, .slice al' nl cl', .slice ad' nd cd', .slice an' nn cn', .slice ab' nb cb', .slice ax' ns cx', .slice af' nf cf']).heap[kk]? = y7.heap[kk]? := fun kk hk => (setRow_other _ _ _ _ (by omega)).trans (hb.block _ hk)
  obtain ⟨y8, hy8⟩ : ∃ y, (y7.alloc (.cells #[.int .i64 0, .int .i64 0, .slice none 0 0, .slice none 0 0, .slice none 0 0, .slice none 0 0, .slice none 0 0, .slice none 0 0] 29)).setRow (y7.heap.size) #[.int .i64 W2, .int .i64 H2, .slice al' nl cl', .slice ad' nd cd', .slice an' nn cn', .slice ab' nb cb', .slice ax' ns cx', .slice af' nf cf'] = y := ⟨_, rfl⟩
  have hs8 : y8.heap.size = y7.heap.size + 1 := by rw [← hy8]; simp [World.setRow]
  rw [hy8] at hN HUx hO ⊢
  clear hy8 hsz hb
  have HU8 := Lib.hid HUx
  clear HUx
  have hl8_0 := lt_heap hr7_0
  have hr8_0 := (hO _ hl8_0).trans hr7_0
  have hl8_1 := lt_heap hr7_1
  have hr8_1 := (hO _ hl8_1).trans hr7_1
  have hl8_2 := lt_heap hr7_2
  have hr8_2 := (hO _ hl8_2).trans hr7_2
  have hr8_3 := hN
  have hKK := hO
  clear hN hO
  clear hr7_0 hr7_1 hr7_2 HU7
  have RA8 := Lib.hid ((RA7.out.low.keep (fun b hb => hKK b hb)).rw (by decide))
  clear RA7
  have RB8 := Lib.hid ((RB7.out.low.keep (fun b hb => hKK b hb)).rw (by decide))
  clear RB7
  have FA8 := Lib.hid (show FAt y8 (⟨W2, H2, nl, nd, nn, nb, ns, nf, L, D, N, B, S, F⟩ : Flm) (⟨al, cl, ad, cd, an, cn, ab, cb, ax, cx, af, cf⟩ : Pl) from ⟨(FA7.out.l.low.keep (fun b hb => hKK b hb)).rw (by decide), (FA7.out.d.low.keep (fun b hb => hKK b hb)).rw (by decide), (FA7.out.n.low.keep (fun b hb => hKK b hb)).rw (by decide), (FA7.out.b.low.keep (fun b hb => hKK b hb)).rw (by decide), (FA7.out.s.low.keep (fun b hb => hKK b hb)).rw (by decide), (FA7.out.f.low.keep (fun b hb => hKK b hb)).rw (by decide)⟩)
  clear FA7
  have FB8 := Lib.hid (show FAt y8 (⟨W2, H2, nl, nd, nn, nb, ns, nf, L, D, N, B, S, F⟩ : Flm) (⟨al', cl', ad', cd', an', cn', ab', cb', ax', cx', af', cf'⟩ : Pl) from ⟨(FB7.out.l.low.keep (fun b hb => hKK b hb)).rw (by decide), (FB7.out.d.low.keep (fun b hb => hKK b hb)).rw (by decide), (FB7.out.n.low.keep (fun b hb => hKK b hb)).rw (by decide), (FB7.out.b.low.keep (fun b hb => hKK b hb)).rw (by decide), (FB7.out.s.low.keep (fun b hb => hKK b hb)).rw (by decide), (FB7.out.f.low.keep (fun b hb => hKK b hb)).rw (by decide)⟩)
  clear FB7
  clear hKK
  refine wp_region_held_drew (S := fun y => y.heap[y1.heap.size]? = some (.cells #[.int .i64 W, .int .i64 H, .slice a1 n c1] 35 (0, 0)) ∧ y.heap[y3.heap.size]? = some (.cells #[.int .i64 W, .int .i64 H, .slice a2 n c2] 24 (0, 0)) ∧ y.heap[y5.heap.size]? = some (.cells #[.int .i64 W2, .int .i64 H2, .slice al nl cl, .slice ad nd cd, .slice an nn cn, .slice ab nb cb, .slice ax ns cx, .slice af nf cf] 39 (0, 0)) ∧ y.heap[y7.heap.size]? = some (.cells #[.int .i64 W2, .int .i64 H2, .slice al' nl cl', .slice ad' nd cd', .slice an' nn cn', .slice ab' nb cb', .slice ax' ns cx', .slice af' nf cf'] 29 (0, 0))) (by kernel_rfl) (⟨hr8_0, hr8_1, hr8_2, hr8_3⟩) (fun hS0 => ?_)
  obtain ⟨z0, hz0_⟩ : ∃ y, y8.drew = y := ⟨_, rfl⟩
  have HV0 := Lib.hid (show Below w.heap.size w z0 by rw [← hz0_]; exact HU8.out.drew)
  have RA0 := Lib.hid (show Rw 3 z0 a1 n M by rw [← hz0_]; exact RA8.out.on (Below.refl _ _).drew)
  have RB0 := Lib.hid (show Rw 3 z0 a2 n M by rw [← hz0_]; exact RB8.out.on (Below.refl _ _).drew)
  have FA0 := Lib.hid (show FAt z0 (⟨W2, H2, nl, nd, nn, nb, ns, nf, L, D, N, B, S, F⟩ : Flm) (⟨al, cl, ad, cd, an, cn, ab, cb, ax, cx, af, cf⟩ : Pl) by rw [← hz0_]; exact FA8.out.on (Below.refl _ _).drew)
  have FB0 := Lib.hid (show FAt z0 (⟨W2, H2, nl, nd, nn, nb, ns, nf, L, D, N, B, S, F⟩ : Flm) (⟨al', cl', ad', cd', an', cn', ab', cb', ax', cx', af', cf'⟩ : Pl) by rw [← hz0_]; exact FB8.out.on (Below.refl _ _).drew)
  rw [hz0_] at hS0 ⊢
  clear hz0_
  refine wpAnyH_ready (rs := [0]) (by kernel_rfl) (by simp) ?_
  refine AllReadyH.cons rfl (fun K hK => ?_) AllReadyH.nil
  go_simp
  go_wp2_with (go_at_call 7; refine (awake_any _).mono ?_; rintro e z1 ⟨rfl, hb1⟩)
  have HV1 := Lib.hid (HV0.out.trans (hb1.mono HV0.out.size))
  have RA1 := Lib.hid (RA0.out.on hb1)
  have RB1 := Lib.hid (RB0.out.on hb1)
  have FA1 := Lib.hid (FA0.out.on hb1)
  have FB1 := Lib.hid (FB0.out.on hb1)
  refine hK.out _ _ (⟨(hb1.block _ (lt_heap hS0.1)).trans hS0.1, (hb1.block _ (lt_heap hS0.2.1)).trans hS0.2.1, (hb1.block _ (lt_heap hS0.2.2.1)).trans hS0.2.2.1, (hb1.block _ (lt_heap hS0.2.2.2)).trans hS0.2.2.2⟩) (fun hS1 => ?_)
  clear hK K
  refine wpAnyH_take (i := 1) (v := ?_) rfl (by kernel_rfl) (by kernel_rfl) (by kernel_rfl) (fun _ _ _ h => h) (Or.inl ⟨by kernel_rfl, by (intro wz hSz; go_simp; try with_reducible rfl)⟩) hS1 ?_
  go_simp
  refine wpAnyH_take (i := 2) (v := ?_) rfl (by kernel_rfl) (by kernel_rfl) (by kernel_rfl) (fun _ _ _ h => h) (Or.inl ⟨by kernel_rfl, by (intro wz hSz; go_simp; try with_reducible rfl)⟩) hS1 ?_
  go_simp
  refine wpAnyH_take (i := 3) (v := ?_) rfl (by kernel_rfl) (by kernel_rfl) (by kernel_rfl) (fun _ _ _ h => h) (Or.inl ⟨by kernel_rfl, by (intro wz hSz; go_simp; try with_reducible rfl)⟩) hS1 ?_
  go_simp
  refine wpAnyH_take (i := 4) (v := ?_) rfl (by kernel_rfl) (by kernel_rfl) (by kernel_rfl) (fun _ _ _ h => h) (Or.inl ⟨by kernel_rfl, by (intro wz hSz; go_simp; try with_reducible rfl)⟩) hS1 ?_
  go_simp
  refine wpAnyH_take (i := 5) (v := ?_) rfl (by kernel_rfl) (by kernel_rfl) (by kernel_rfl) (fun _ _ _ h => h) (Or.inl ⟨by kernel_rfl, by (intro wz hSz; go_simp; try with_reducible rfl)⟩) hS1 ?_
  go_simp
  refine wpAnyH_take (i := 6) (v := ?_) rfl (by kernel_rfl) (by kernel_rfl) (by kernel_rfl) (fun _ _ _ h => h) (Or.inl ⟨by kernel_rfl, by (intro wz hSz; go_simp; try with_reducible rfl)⟩) hS1 ?_
  go_simp
  refine wpAnyH_take (i := 7) (v := ?_) rfl (by kernel_rfl) (by kernel_rfl) (by kernel_rfl) (fun _ _ _ h => h) (Or.inl ⟨by kernel_rfl, by (intro wz hSz; have c0 := cell_of_row _ _ 0 _ _ _ (hSz.1); have c1 := cell_of_row _ _ 1 _ _ _ (hSz.1); have c2 := cell_of_row _ _ 2 _ _ _ (hSz.1); simp at c0 c1 c2; go_simp; try with_reducible rfl)⟩) hS1 ?_
  go_simp
  refine wpAnyH_take (i := 9) (v := ?_) rfl (by kernel_rfl) (by kernel_rfl) (by kernel_rfl) (fun _ _ _ h => h) (Or.inl ⟨by kernel_rfl, by (intro wz hSz; have c0 := cell_of_row _ _ 0 _ _ _ (hSz.2.1); have c1 := cell_of_row _ _ 1 _ _ _ (hSz.2.1); have c2 := cell_of_row _ _ 2 _ _ _ (hSz.2.1); simp at c0 c1 c2; go_simp; try with_reducible rfl)⟩) hS1 ?_
  go_simp
  refine wpAnyH_ready (rs := [8]) (by kernel_rfl) (by simp) ?_
  refine AllReadyH.cons rfl (fun K hK => ?_) AllReadyH.nil
  go_simp
  go_wp2_with (go_at_call 25; refine (fromsheet_any W H a1 n c1 M _ RA1.out (by omega)).mono ?_; rintro e z2 ⟨⟨a3, c3, rfl, h3⟩, hb2⟩)
  have HV2 := Lib.hid (HV1.out.trans (hb2.mono HV1.out.size))
  have RA2 := Lib.hid (RA1.out.on hb2)
  have RB2 := Lib.hid (RB1.out.on hb2)
  have FA2 := Lib.hid (FA1.out.on hb2)
  have FB2 := Lib.hid (FB1.out.on hb2)
  have XS2 := Lib.hid (h3.rw (by decide))
  clear h3
  refine hK.out _ _ (⟨(hb2.block _ (lt_heap hS1.1)).trans hS1.1, (hb2.block _ (lt_heap hS1.2.1)).trans hS1.2.1, (hb2.block _ (lt_heap hS1.2.2.1)).trans hS1.2.2.1, (hb2.block _ (lt_heap hS1.2.2.2)).trans hS1.2.2.2⟩) (fun hS2 => ?_)
  clear hK K
  refine wpAnyH_ready (rs := [10]) (by kernel_rfl) (by simp) ?_
  refine AllReadyH.cons rfl (fun K hK => ?_) AllReadyH.nil
  go_simp
  go_wp2_with (go_at_call 24; refine (samesheet_any W H n a3 a2 c3 c2 M _ XS2.out RB2.out (by omega)).mono ?_; rintro e z3 ⟨rfl, hb3⟩)
  have HV3 := Lib.hid (HV2.out.trans (hb3.mono HV2.out.size))
  have RA3 := Lib.hid (RA2.out.on hb3)
  have RB3 := Lib.hid (RB2.out.on hb3)
  have FA3 := Lib.hid (FA2.out.on hb3)
  have FB3 := Lib.hid (FB2.out.on hb3)
  have XS3 := Lib.hid (XS2.out.on hb3)
  refine hK.out _ _ (⟨(hb3.block _ (lt_heap hS2.1)).trans hS2.1, (hb3.block _ (lt_heap hS2.2.1)).trans hS2.2.1, (hb3.block _ (lt_heap hS2.2.2.1)).trans hS2.2.2.1, (hb3.block _ (lt_heap hS2.2.2.2)).trans hS2.2.2.2⟩) (fun hS3 => ?_)
  clear hK K
  refine wpAnyH_take (i := 11) (v := ?_) rfl (by kernel_rfl) (by kernel_rfl) (by kernel_rfl) (fun _ _ _ h => h) (Or.inl ⟨by kernel_rfl, by (intro wz hSz; go_simp; try with_reducible rfl)⟩) hS3 ?_
  go_simp
  refine wpAnyH_take (i := 12) (v := ?_) rfl (by kernel_rfl) (by kernel_rfl) (by kernel_rfl) (fun _ _ _ h => h) (Or.inl ⟨by kernel_rfl, by (intro wz hSz; go_simp; try with_reducible rfl)⟩) hS3 ?_
  go_simp
  refine wpAnyH_take (i := 13) (v := ?_) rfl (by kernel_rfl) (by kernel_rfl) (by kernel_rfl) (fun _ _ _ h => h) (Or.inl ⟨by kernel_rfl, by (intro wz hSz; go_simp; try with_reducible rfl)⟩) hS3 ?_
  go_simp
  refine wpAnyH_take (i := 14) (v := ?_) rfl (by kernel_rfl) (by kernel_rfl) (by kernel_rfl) (fun _ _ _ h => h) (Or.inl ⟨by kernel_rfl, by (intro wz hSz; go_simp; try with_reducible rfl)⟩) hS3 ?_
  go_simp
  refine wpAnyH_take (i := 15) (v := ?_) rfl (by kernel_rfl) (by kernel_rfl) (by kernel_rfl) (fun _ _ _ h => h) (Or.inl ⟨by kernel_rfl, by (intro wz hSz; go_simp; try with_reducible rfl)⟩) hS3 ?_
  go_simp
  refine wpAnyH_take (i := 16) (v := ?_) rfl (by kernel_rfl) (by kernel_rfl) (by kernel_rfl) (fun _ _ _ h => h) (Or.inl ⟨by kernel_rfl, by (intro wz hSz; go_simp; try with_reducible rfl)⟩) hS3 ?_
  go_simp
  refine wpAnyH_take (i := 17) (v := ?_) rfl (by kernel_rfl) (by kernel_rfl) (by kernel_rfl) (fun _ _ _ h => h) (Or.inl ⟨by kernel_rfl, by (intro wz hSz; go_simp; try with_reducible rfl)⟩) hS3 ?_
  go_simp
  refine wpAnyH_take (i := 18) (v := ?_) rfl (by kernel_rfl) (by kernel_rfl) (by kernel_rfl) (fun _ _ _ h => h) (Or.inl ⟨by kernel_rfl, by (intro wz hSz; have c0 := cell_of_row _ _ 0 _ _ _ (hSz.2.2.1); have c1 := cell_of_row _ _ 1 _ _ _ (hSz.2.2.1); have c2 := cell_of_row _ _ 2 _ _ _ (hSz.2.2.1); have c3 := cell_of_row _ _ 3 _ _ _ (hSz.2.2.1); have c4 := cell_of_row _ _ 4 _ _ _ (hSz.2.2.1); have c5 := cell_of_row _ _ 5 _ _ _ (hSz.2.2.1); have c6 := cell_of_row _ _ 6 _ _ _ (hSz.2.2.1); have c7 := cell_of_row _ _ 7 _ _ _ (hSz.2.2.1); simp at c0 c1 c2 c3 c4 c5 c6 c7; go_simp; try with_reducible rfl)⟩) hS3 ?_
  go_simp
  refine wpAnyH_take (i := 20) (v := ?_) rfl (by kernel_rfl) (by kernel_rfl) (by kernel_rfl) (fun _ _ _ h => h) (Or.inl ⟨by kernel_rfl, by (intro wz hSz; have c0 := cell_of_row _ _ 0 _ _ _ (hSz.2.2.2); have c1 := cell_of_row _ _ 1 _ _ _ (hSz.2.2.2); have c2 := cell_of_row _ _ 2 _ _ _ (hSz.2.2.2); have c3 := cell_of_row _ _ 3 _ _ _ (hSz.2.2.2); have c4 := cell_of_row _ _ 4 _ _ _ (hSz.2.2.2); have c5 := cell_of_row _ _ 5 _ _ _ (hSz.2.2.2); have c6 := cell_of_row _ _ 6 _ _ _ (hSz.2.2.2); have c7 := cell_of_row _ _ 7 _ _ _ (hSz.2.2.2); simp at c0 c1 c2 c3 c4 c5 c6 c7; go_simp; try with_reducible rfl)⟩) hS3 ?_
  go_simp
  refine wpAnyH_ready (rs := [19]) (by kernel_rfl) (by simp) ?_
  refine AllReadyH.cons rfl (fun K hK => ?_) AllReadyH.nil
  go_simp
  go_wp2_with (go_at_call 27; refine (from_film (⟨W2, H2, nl, nd, nn, nb, ns, nf, L, D, N, B, S, F⟩ : Flm) (⟨al, cl, ad, cd, an, cn, ab, cb, ax, cx, af, cf⟩ : Pl) _ FA3.out (by show nl * 24 ≤ 140737488351232; omega) (by show nd * 8 ≤ 140737488351232; omega) (by show nn * 24 ≤ 140737488351232; omega) (by show nb * 24 ≤ 140737488351232; omega) (by show ns * 8 ≤ 140737488351232; omega) (by show nf * 8 ≤ 140737488351232; omega)).mono ?_; rintro e z4 ⟨⟨⟨al3, cl3, ad3, cd3, an3, cn3, ab3, cb3, ax3, cx3, af3, cf3⟩, rfl, h5⟩, hb4⟩)
  have HV4 := Lib.hid (HV3.out.trans (hb4.mono HV3.out.size))
  have RA4 := Lib.hid (RA3.out.on hb4)
  have RB4 := Lib.hid (RB3.out.on hb4)
  have FA4 := Lib.hid (FA3.out.on hb4)
  have FB4 := Lib.hid (FB3.out.on hb4)
  have XS4 := Lib.hid (XS3.out.on hb4)
  have XF4 := Lib.hid h5
  clear h5
  refine hK.out _ _ (⟨(hb4.block _ (lt_heap hS3.1)).trans hS3.1, (hb4.block _ (lt_heap hS3.2.1)).trans hS3.2.1, (hb4.block _ (lt_heap hS3.2.2.1)).trans hS3.2.2.1, (hb4.block _ (lt_heap hS3.2.2.2)).trans hS3.2.2.2⟩) (fun hS4 => ?_)
  clear hK K
  refine wpAnyH_ready (rs := [21]) (by kernel_rfl) (by simp) ?_
  refine AllReadyH.cons rfl (fun K hK => ?_) AllReadyH.nil
  go_simp
  go_wp2_with (go_at_call 26; refine (same_film (⟨W2, H2, nl, nd, nn, nb, ns, nf, L, D, N, B, S, F⟩ : Flm) (⟨al3, cl3, ad3, cd3, an3, cn3, ab3, cb3, ax3, cx3, af3, cf3⟩ : Pl) (⟨al', cl', ad', cd', an', cn', ab', cb', ax', cx', af', cf'⟩ : Pl) _ XF4.out FB4.out (by show nl ≤ 140737488351232; omega) (by show nd ≤ 140737488351232; omega) (by show nn ≤ 140737488351232; omega) (by show nb ≤ 140737488351232; omega) (by show ns ≤ 140737488351232; omega) (by show nf ≤ 140737488351232; omega)).mono ?_; rintro e z5 ⟨rfl, hb5⟩)
  have HV5 := Lib.hid (HV4.out.trans (hb5.mono HV4.out.size))
  have RA5 := Lib.hid (RA4.out.on hb5)
  have RB5 := Lib.hid (RB4.out.on hb5)
  have FA5 := Lib.hid (FA4.out.on hb5)
  have FB5 := Lib.hid (FB4.out.on hb5)
  have XS5 := Lib.hid (XS4.out.on hb5)
  have XF5 := Lib.hid (XF4.out.on hb5)
  refine hK.out _ _ (⟨(hb5.block _ (lt_heap hS4.1)).trans hS4.1, (hb5.block _ (lt_heap hS4.2.1)).trans hS4.2.1, (hb5.block _ (lt_heap hS4.2.2.1)).trans hS4.2.2.1, (hb5.block _ (lt_heap hS4.2.2.2)).trans hS4.2.2.2⟩) (fun hS5 => ?_)
  clear hK K
  refine wpAnyH_take (i := 22) (v := ?_) rfl (by kernel_rfl) (by kernel_rfl) (by kernel_rfl) (fun _ _ _ h => h) (Or.inl ⟨by kernel_rfl, by (intro wz hSz; go_simp; try with_reducible rfl)⟩) hS5 ?_
  go_simp
  refine wpAnyH_take (i := 23) (v := ?_) rfl (by kernel_rfl) (by kernel_rfl) (by kernel_rfl) (fun _ _ _ h => h) (Or.inl ⟨by kernel_rfl, by (intro wz hSz; go_simp; try with_reducible rfl)⟩) hS5 ?_
  go_simp
  refine wpAnyH_done (by kernel_rfl) ?_ _
  go_wp2
  go_ret
  exact ⟨rfl, HV5.out⟩

end Go.Proofs.Ytgkfoiekminfmaa.filmReadsW
