/- JobBack: the walk through the law. -/
import Derived.Test.YtfbppiamlolfpaaGreatC39
import Derived.Test.YtfbppiamlolfpaaGreatC41
import Derived.Test.YtfbppiamlolfpaaGreatC43
import Derived.Test.YtfbppiamlolfpaaGreatC44
import Derived.Test.YtfbppiamlolfpaaGreatC38
import Derived.Test.YtfbppiamlolfpaaGreatC46
import Derived.Test.YtfbppiamlolfpaaGreatC48
import Derived.Test.YtfbppiamlolfpaaGreatC49
namespace Go.Proofs.YtfbppiamlolfpaaGreat.Jb
open Go Go.RowKit Go.Proofs.YtfbppiamlolfpaaGreat Go.Proofs.YtfbppiamlolfpaaGreat.Rp Go.Proofs.YtfbppiamlolfpaaGreat.Re Go.Proofs.YtfbppiamlolfpaaGreat.Au Go.Proofs.YtfbppiamlolfpaaGreat.Sc Go.Proofs.YtfbppiamlolfpaaGreat.Tk
set_option linter.unusedVariables false
set_option linter.unusedSimpArgs false

theorem own_len {base : Nat} {w : World} {b : Option Addr} {n c k : Nat} {xs : List Value} (h : w.ownsRow base 5 1 (.slice b n c) k xs) : n = k := by
  rcases h.2 with ⟨h1, h2⟩ | ⟨g, cap, cur, h1, -⟩
  · simp at h1; omega
  · simp at h1; exact h1.2.1

set_option maxHeartbeats 16000000 in
set_option maxRecDepth 100000 in
theorem back9_walk (s : Scn) (a : Pla) (ba : Option Addr) (bn bc : Nat) (l : List UInt8) (w : World) (hs : ScAt w s a) (hv : Bs w (.slice ba bn bc) l) (hl : l.length = bn) :
    Calls Tryz.prog 5 #[SV s a, .slice ba bn bc] w fun e w' => e = .returned (.bool true) ∧ Below w.heap.size w w' := by
  obtain ⟨c0, hc0⟩ : ∃ c0 : List Value, c0 = (SC s a).toList := ⟨_, rfl⟩
  have e0 : SV s a = .agg c0.toArray := by rw [hc0]
  have HE0 := Lib.hid e0
  have HB0 := Lib.hid (heap_alloc_last w (.cells c0.toArray 32))
  have HS0 := Lib.hid (hs.on (Ve.below_n1 w (.cells c0.toArray 32)))
  have HV0 := Lib.hid (hv.on (Ve.below_n1 w (.cells c0.toArray 32)))
  have HW0 := Lib.hid (Ve.below_n1 w (.cells c0.toArray 32))
  have HZA := Lib.hid (show (Tryz.prog.info? 32).map (·.size) = some c0.toArray.size by rw [hc0]; kernel_rfl)
  rw [e0]
  clear hs hc0 e0 hv
  go_enter Tryz.func5, Tryz.ntmps5
  go_wp2_with (with_reducible refine wpList_load_row rfl 32 (.tmp 2) rfl w.heap.size rfl 32 c0.toArray (0, 0) _ HB0.out Tryz.underlying32 rfl HZA.out ?_)
  rw [← HE0.out]
  refine (small_any s a _ HS0.out).mono ?_
  rintro e w1 ⟨rfl, hb1⟩
  rw [HE0.out]
  have HB1 := Lib.hid ((hb1.block _ (Au.lt_heap HB0.out)).trans HB0.out)
  have HS1 := Lib.hid (HS0.out.on hb1)
  have HV1 := Lib.hid (HV0.out.on hb1)
  have HW1 := Lib.hid (HW0.out.trans (hb1.mono HW0.out.size))
  clear HB0 HS0 HV0 HW0
  clear hb1
  obtain ⟨sm, hsm⟩ : ∃ sm, sm = smallB s := ⟨_, rfl⟩
  rw [← hsm]
  clear hsm
  cases sm
  · go_wp2_with fail
    refine (jawake _).mono ?_
    rintro e w4 ⟨rfl, hb4⟩
    go_wp2
    go_ret
    exact ⟨rfl, HW1.out.trans (hb4.mono HW1.out.size)⟩
  · go_wp2_with (with_reducible refine wpList_load_row rfl 32 (.tmp 2) rfl w.heap.size rfl 32 c0.toArray (0, 0) _ HB1.out Tryz.underlying32 rfl HZA.out ?_)
    rw [← HE0.out]
    refine (sto_any s a _ HS1.out).mono ?_
    rintro e w2 ⟨⟨a1, rfl, -, hs1⟩, hb2⟩
    rw [HE0.out]
    have HB2 := Lib.hid ((hb2.block _ (Au.lt_heap HB1.out)).trans HB1.out)
    have HS2 := Lib.hid (HS1.out.on hb2)
    have HV2 := Lib.hid (HV1.out.on hb2)
    have HW2 := Lib.hid (HW1.out.trans (hb2.mono HW1.out.size))
    clear HB1 HS1 HV1 HW1
    have HT2 := Lib.hid hs1
    obtain ⟨v1, hv1⟩ : ∃ v, v = SV s a1 := ⟨_, rfl⟩
    have HVT := Lib.hid hv1
    rw [← hv1]
    clear hv1 hs1 hb2
    go_wp2_with fail
    rw [HVT.out]
    refine (Jw.jencode s a1 _ HT2.out).mono ?_
    rintro e w3 ⟨h3, hb3⟩
    have HB3 := Lib.hid ((hb3.block _ (Au.lt_heap HB2.out)).trans HB2.out)
    have HS3 := Lib.hid (HS2.out.on hb3)
    have HV3 := Lib.hid (HV2.out.on hb3)
    have HW3 := Lib.hid (HW2.out.trans (hb3.mono HW2.out.size))
    clear HB2 HS2 HV2 HW2
    clear hb3
    rcases h3 with ⟨h0, rfl⟩ | ⟨hok, pb, pn, pq, rfl, how⟩
    · rw [← HVT.out]
      obtain ⟨er, her⟩ : ∃ er, er = (chk s).1 := ⟨_, rfl⟩
      rw [← her] at h0 ⊢
      have d1 : (er == 0) = false := by simpa using h0
      have d2 : (er != 0) = true := by simp [h0]
      have d3 := decide_eq_false h0
      clear her
      go_wp2_with fail
      clear d1 d2 d3
      refine (jparse l ba bn bc _ HV3.out hl).mono ?_
      rintro e w6 ⟨h6, hb6⟩
      have HW6 := Lib.hid (HW3.out.trans (hb6.mono HW3.out.size))
      have HV6 := Lib.hid (HV3.out.on hb6)
      clear hb6 HW3 HV3
      obtain ⟨pe, hpe⟩ : ∃ pe, pe = parE l := ⟨_, rfl⟩
      rw [← hpe] at h6
      rcases h6 with ⟨hne, rfl⟩ | ⟨hpe0, hok6, a6, rfl, hs6⟩
      · clear hpe
        have d1 : (pe == 0) = false := by simpa using hne
        have d2 : (pe != 0) = true := by simp [hne]
        have d3 := decide_eq_false hne
        go_upto_region 9 with (with_reducible refine wpList_store_new rfl 51 (.tmp 9) (.tmp 42) rfl w6 #[.int .i64 0, .int .i64 0, .int .i64 0, .int .i64 0, .int .i64 0, .int .i64 0, .int .u64 0, .int .i64 0, .int .i64 0, .int .i64 0, .int .i64 0, .int .i64 0, .int .i64 0, .slice none 0 0, .slice none 0 0, .slice none 0 0, .slice none 0 0] zeroC w6.heap.size rfl rfl rfl infoZC zeroSz zeroOne ?_)
        have hbn := Ve.below_n1 w6 (.cells zeroC 51)
        have hNn := heap_alloc_last w6 (.cells zeroC 51)
        obtain ⟨y7, hyn⟩ : ∃ y, w6.alloc (.cells zeroC 51) = y := ⟨_, rfl⟩
        rw [hyn] at hbn hNn ⊢
        clear hyn
        have HW7 := Lib.hid (HW6.out.trans (hbn.mono HW6.out.size))
        clear hbn hNn
        go_wp2_with fail
        refine (jawake _).mono ?_
        rintro e w8 ⟨rfl, hb8⟩
        have HW8 := Lib.hid (HW7.out.trans (hb8.mono HW7.out.size))
        clear hb8 HW7
        go_wp2
        go_ret
        exact ⟨rfl, HW8.out⟩
      · have HENC := Lib.hid (enc_par l (hpe ▸ hpe0))
        clear hpe
        generalize parScn (l, 0) = q at HENC hok6 hs6 ⊢
        subst hpe0
        obtain ⟨cs, hcs⟩ : ∃ cs : List Value, SC q a6 = cs.toArray := ⟨(SC q a6).toList, by simp⟩
        have hsv : SV q a6 = .agg cs.toArray := by show Value.agg _ = _; rw [hcs]
        have HZ := Lib.hid (show (Tryz.prog.info? 51).map (·.size) = some cs.toArray.size by rw [← hcs]; kernel_rfl)
        have HZZ := Lib.hid (show (#[.int .i64 0, .int .i64 0, .int .i64 0, .int .i64 0, .int .i64 0, .int .i64 0, .int .u64 0, .int .i64 0, .int .i64 0, .int .i64 0, .int .i64 0, .int .i64 0, .int .i64 0, .slice none 0 0, .slice none 0 0, .slice none 0 0, .slice none 0 0] : Array Value).size = cs.toArray.size by rw [← hcs]; rfl)
        have HONE := Lib.hid (show cs.toArray.all (·.oneCell') = true by rw [← hcs]; simp [Value.oneCell'])
        rw [hsv]
        have HSV := Lib.hid hsv
        have HS6 := Lib.hid hs6
        have HOK := Lib.hid hok6
        clear hsv hcs hs6 hok6
        go_upto_region 9 with (with_reducible refine wpList_store_new rfl 51 (.tmp 9) (.tmp 42) rfl w6 #[.int .i64 0, .int .i64 0, .int .i64 0, .int .i64 0, .int .i64 0, .int .i64 0, .int .u64 0, .int .i64 0, .int .i64 0, .int .i64 0, .int .i64 0, .int .i64 0, .int .i64 0, .slice none 0 0, .slice none 0 0, .slice none 0 0, .slice none 0 0] cs.toArray w6.heap.size rfl rfl rfl HZ.out HZZ.out HONE.out ?_)
        have hbn := Ve.below_n1 w6 (.cells cs.toArray 51)
        have hNn := heap_alloc_last w6 (.cells cs.toArray 51)
        obtain ⟨y7, hyn⟩ : ∃ y, w6.alloc (.cells cs.toArray 51) = y := ⟨_, rfl⟩
        rw [hyn] at hbn hNn ⊢
        clear hyn
        have HW7 := Lib.hid (HW6.out.trans (hbn.mono HW6.out.size))
        have HS7 := Lib.hid (HS6.out.on hbn)
        have HV7 := Lib.hid (HV6.out.on hbn)
        have HN7 := Lib.hid hNn
        clear hbn hNn HW6 HS6 HV6
        go_wp2_with (with_reducible refine wpList_load_row rfl 51 (.tmp 9) rfl w6.heap.size rfl 51 cs.toArray (0, 0) _ HN7.out Tryz.underlying51 rfl HZ.out ?_)
        rw [← HSV.out]
        refine (Jw.jencode q a6 _ HS7.out).mono ?_
        rintro e w8 ⟨h8, hb8⟩
        rcases h8 with ⟨h8, -⟩ | ⟨-, b8, n8, c8, rfl, how8⟩
        · exact absurd HOK.out h8
        rw [HSV.out]
        rw [HENC.out] at how8
        have hc1 := conv_bs (Re.own_bs how8)
        have hc2 := conv_bs (HV7.out.on hb8)
        have HW8 := Lib.hid (HW7.out.trans (hb8.mono HW7.out.size))
        clear how8 hb8 HW7 HS7
        go_wp2_with fail
        clear hc1 hc2
        refine (jawake _).mono ?_
        rintro e w9 ⟨rfl, hb9⟩
        have HW9 := Lib.hid (HW8.out.trans (hb9.mono HW8.out.size))
        clear hb9 HW8
        go_wp2
        go_ret
        exact ⟨rfl, HW9.out⟩
    · rw [← HVT.out]
      obtain ⟨hpe0, hsame⟩ := par_enc s hok HS3.out.sd
      have HSAME := Lib.hid hsame
      have HPE := Lib.hid hpe0
      have HOW := Lib.hid how
      clear hpe0 hsame how
      go_wp2_with fail
      refine (jparse (Jw.encScn s) pb pn pq _ (Re.own_bs HOW.out) (own_len HOW.out).symm).mono ?_
      rintro e w4 ⟨h4, hb4⟩
      have HB4 := Lib.hid ((hb4.block _ (Au.lt_heap HB3.out)).trans HB3.out)
      have HS4 := Lib.hid (HS3.out.on hb4)
      have HV4 := Lib.hid (HV3.out.on hb4)
      have HW4 := Lib.hid (HW3.out.trans (hb4.mono HW3.out.size))
      clear HB3 HS3 HV3 HW3
      clear hb4
      rcases h4 with ⟨h4, -⟩ | ⟨-, -, a5, rfl, hs5⟩
      · exact absurd HPE.out h4
      rw [HSAME.out.sv]
      have hs5' := HSAME.out.at hs5
      obtain ⟨es, hes⟩ : ∃ cs : List Value, SC s a5 = cs.toArray := ⟨(SC s a5).toList, by simp⟩
      have hsv : SV s a5 = .agg es.toArray := by show Value.agg _ = _; rw [hes]
      have HEZ := Lib.hid (show (Tryz.prog.info? 51).map (·.size) = some es.toArray.size by rw [← hes]; kernel_rfl)
      have HEZZ := Lib.hid (show (#[.int .i64 0, .int .i64 0, .int .i64 0, .int .i64 0, .int .i64 0, .int .i64 0, .int .u64 0, .int .i64 0, .int .i64 0, .int .i64 0, .int .i64 0, .int .i64 0, .int .i64 0, .slice none 0 0, .slice none 0 0, .slice none 0 0, .slice none 0 0] : Array Value).size = es.toArray.size by rw [← hes]; rfl)
      have HEONE := Lib.hid (show es.toArray.all (·.oneCell') = true by rw [← hes]; simp [Value.oneCell'])
      rw [hsv]
      have HES := Lib.hid hsv
      have HX4 := Lib.hid hs5'
      clear hsv hes hs5 hs5' HSAME HPE HOW
      go_upto_region 6 with (with_reducible refine wpList_store_new rfl 51 (.tmp 7) (.tmp 28) rfl w4 #[.int .i64 0, .int .i64 0, .int .i64 0, .int .i64 0, .int .i64 0, .int .i64 0, .int .u64 0, .int .i64 0, .int .i64 0, .int .i64 0, .int .i64 0, .int .i64 0, .int .i64 0, .slice none 0 0, .slice none 0 0, .slice none 0 0, .slice none 0 0] es.toArray w4.heap.size rfl rfl rfl HEZ.out HEZZ.out HEONE.out ?_)
      have hbn := Ve.below_n1 w4 (.cells es.toArray 51)
      have hNn := heap_alloc_last w4 (.cells es.toArray 51)
      obtain ⟨y5, hyn⟩ : ∃ y, w4.alloc (.cells es.toArray 51) = y := ⟨_, rfl⟩
      rw [hyn] at hbn hNn ⊢
      clear hyn
      have HC5 := Lib.hid hNn
      have HB5 := Lib.hid ((hbn.block _ (Au.lt_heap HB4.out)).trans HB4.out)
      have HS5 := Lib.hid (HS4.out.on hbn)
      have HV5 := Lib.hid (HV4.out.on hbn)
      have HW5 := Lib.hid (HW4.out.trans (hbn.mono HW4.out.size))
      clear HB4 HS4 HV4 HW4
      have HX5 := Lib.hid (HX4.out.on hbn)
      clear hbn hNn HX4
      refine wp_region_held_drew (S := fun y => y.heap[w.heap.size]? = some (.cells c0.toArray 32 (0, 0)) ∧ y.heap[w4.heap.size]? = some (.cells es.toArray 51 (0, 0))) (by kernel_rfl) (⟨HB5.out, HC5.out⟩) (fun hS0 => ?_)
      obtain ⟨z0, hz0⟩ : ∃ z0, y5.drew = z0 := ⟨_, rfl⟩
      have HU0 := Lib.hid (show Below y5.heap.size y5 z0 by rw [← hz0]; exact (Below.refl y5.heap.size y5).drew)
      have HT0 := Lib.hid (HS5.out.on HU0.out)
      have HX0 := Lib.hid (HX5.out.on HU0.out)
      rw [hz0] at hS0 ⊢
      clear hz0
      refine wpAnyH_take (i := 0) (v := ?_) rfl (by kernel_rfl) (by kernel_rfl) (by kernel_rfl) (fun _ _ _ h => h) (Or.inl ⟨by kernel_rfl, by (intro wz hSz; go_simp; try with_reducible rfl)⟩) hS0 ?_
      go_simp
      refine wpAnyH_take (i := 1) (v := ?_) rfl (by kernel_rfl) (by kernel_rfl) (by kernel_rfl) (fun _ _ _ h => h) (Or.inl ⟨by kernel_rfl, by (intro wz hSz; go_simp; try with_reducible rfl)⟩) hS0 ?_
      go_simp
      refine wpAnyH_take (i := 2) (v := ?_) rfl (by kernel_rfl) (by kernel_rfl) (by kernel_rfl) (fun _ _ _ h => h) (Or.inl ⟨by kernel_rfl, by (intro wz hSz; go_simp; try with_reducible rfl)⟩) hS0 ?_
      go_simp
      refine wpAnyH_take (i := 3) (v := .agg es.toArray) rfl (by kernel_rfl) (by kernel_rfl) (by kernel_rfl) (fun _ _ _ h => h) (Lr.yieldsIf_load_row (by kernel_rfl) 51 (.tmp 7) rfl (w4.heap.size) rfl 51 es.toArray _ (fun yy hh => hh.2) Tryz.underlying51 rfl HEZ.out) hS0 ?_
      go_simp
      refine wpAnyH_take (i := 5) (v := .agg c0.toArray) rfl (by kernel_rfl) (by kernel_rfl) (by kernel_rfl) (fun _ _ _ h => h) (Lr.yieldsIf_load_row (by kernel_rfl) 32 (.tmp 2) rfl (w.heap.size) rfl 32 c0.toArray _ (fun yy hh => hh.1) Tryz.underlying32 rfl HZA.out) hS0 ?_
      go_simp
      refine wpAnyH_ready (rs := [4]) (by kernel_rfl) (by simp) ?_
      refine AllReadyH.cons rfl (fun K hK => ?_) AllReadyH.nil
      go_simp
      go_wp2_with (go_at_call 14; rw [← HES.out]; refine (sfrom_any s a5 _ HX0.out).mono ?_; rintro e z3 ⟨⟨a3, rfl, -, hs3⟩, hb13⟩)
      rw [HES.out]
      obtain ⟨v3, hv3⟩ : ∃ v, v = SV s a3 := ⟨_, rfl⟩
      have HV3x := Lib.hid hv3
      rw [← hv3]
      clear hv3
      have HU1 := Lib.hid (HU0.out.trans (hb13.mono HU0.out.size))
      have HT1 := Lib.hid (HT0.out.on hb13)
      have HX1 := Lib.hid (HX0.out.on hb13)
      refine hK.out _ _ (⟨(hb13.block _ (Au.lt_heap hS0.1)).trans hS0.1, (hb13.block _ (Au.lt_heap hS0.2)).trans hS0.2⟩) (fun hS3 => ?_)
      clear hK K
      refine wpAnyH_ready (rs := [6]) (by kernel_rfl) (by simp) ?_
      refine AllReadyH.cons rfl (fun K hK => ?_) AllReadyH.nil
      go_simp
      go_wp2_with (go_at_call 13; rw [HV3x.out, ← HE0.out]; refine (rsame_any s a3 a _ hs3 HT1.out).mono ?_; rintro e z4 ⟨rfl, hb14⟩)
      rw [← HV3x.out, HE0.out]
      have HU2 := Lib.hid (HU1.out.trans (hb14.mono HU1.out.size))
      have HT2 := Lib.hid (HT1.out.on hb14)
      have HX2 := Lib.hid (HX1.out.on hb14)
      refine hK.out _ _ (⟨(hb14.block _ (Au.lt_heap hS3.1)).trans hS3.1, (hb14.block _ (Au.lt_heap hS3.2)).trans hS3.2⟩) (fun hS4 => ?_)
      clear hK K
      refine wpAnyH_take (i := 7) (v := ?_) rfl (by kernel_rfl) (by kernel_rfl) (by kernel_rfl) (fun _ _ _ h => h) (Or.inl ⟨by kernel_rfl, by (intro wz hSz; go_simp; try with_reducible rfl)⟩) hS4 ?_
      go_simp
      refine wpAnyH_take (i := 8) (v := ?_) rfl (by kernel_rfl) (by kernel_rfl) (by kernel_rfl) (fun _ _ _ h => h) (Or.inl ⟨by kernel_rfl, by (intro wz hSz; go_simp; try with_reducible rfl)⟩) hS4 ?_
      go_simp
      refine wpAnyH_done (by kernel_rfl) ?_ _
      have HV9 := Lib.hid (HV5.out.on HU2.out)
      have HW9 := Lib.hid (HW5.out.trans (HU2.out.mono HW5.out.size))
      go_wp2_with fail
      refine (jparse l ba bn bc _ HV9.out hl).mono ?_
      rintro e w6 ⟨h6, hb6⟩
      have HW6 := Lib.hid (HW9.out.trans (hb6.mono HW9.out.size))
      have HV6 := Lib.hid (HV9.out.on hb6)
      clear hb6 HW9 HV9
      obtain ⟨pe, hpe⟩ : ∃ pe, pe = parE l := ⟨_, rfl⟩
      rw [← hpe] at h6
      rcases h6 with ⟨hne, rfl⟩ | ⟨hpe0, hok6, a6, rfl, hs6⟩
      · clear hpe
        have d1 : (pe == 0) = false := by simpa using hne
        have d2 : (pe != 0) = true := by simp [hne]
        have d3 := decide_eq_false hne
        go_upto_region 9 with (with_reducible refine wpList_store_new rfl 51 (.tmp 9) (.tmp 42) rfl w6 #[.int .i64 0, .int .i64 0, .int .i64 0, .int .i64 0, .int .i64 0, .int .i64 0, .int .u64 0, .int .i64 0, .int .i64 0, .int .i64 0, .int .i64 0, .int .i64 0, .int .i64 0, .slice none 0 0, .slice none 0 0, .slice none 0 0, .slice none 0 0] zeroC w6.heap.size rfl rfl rfl infoZC zeroSz zeroOne ?_)
        have hbn := Ve.below_n1 w6 (.cells zeroC 51)
        have hNn := heap_alloc_last w6 (.cells zeroC 51)
        obtain ⟨y7, hyn⟩ : ∃ y, w6.alloc (.cells zeroC 51) = y := ⟨_, rfl⟩
        rw [hyn] at hbn hNn ⊢
        clear hyn
        have HW7 := Lib.hid (HW6.out.trans (hbn.mono HW6.out.size))
        clear hbn hNn
        go_wp2_with fail
        refine (jawake _).mono ?_
        rintro e w8 ⟨rfl, hb8⟩
        have HW8 := Lib.hid (HW7.out.trans (hb8.mono HW7.out.size))
        clear hb8 HW7
        go_wp2
        go_ret
        exact ⟨rfl, HW8.out⟩
      · have HENC := Lib.hid (enc_par l (hpe ▸ hpe0))
        clear hpe
        generalize parScn (l, 0) = q at HENC hok6 hs6 ⊢
        subst hpe0
        obtain ⟨cs, hcs⟩ : ∃ cs : List Value, SC q a6 = cs.toArray := ⟨(SC q a6).toList, by simp⟩
        have hsv : SV q a6 = .agg cs.toArray := by show Value.agg _ = _; rw [hcs]
        have HZ := Lib.hid (show (Tryz.prog.info? 51).map (·.size) = some cs.toArray.size by rw [← hcs]; kernel_rfl)
        have HZZ := Lib.hid (show (#[.int .i64 0, .int .i64 0, .int .i64 0, .int .i64 0, .int .i64 0, .int .i64 0, .int .u64 0, .int .i64 0, .int .i64 0, .int .i64 0, .int .i64 0, .int .i64 0, .int .i64 0, .slice none 0 0, .slice none 0 0, .slice none 0 0, .slice none 0 0] : Array Value).size = cs.toArray.size by rw [← hcs]; rfl)
        have HONE := Lib.hid (show cs.toArray.all (·.oneCell') = true by rw [← hcs]; simp [Value.oneCell'])
        rw [hsv]
        have HSV := Lib.hid hsv
        have HS6 := Lib.hid hs6
        have HOK := Lib.hid hok6
        clear hsv hcs hs6 hok6
        go_upto_region 9 with (with_reducible refine wpList_store_new rfl 51 (.tmp 9) (.tmp 42) rfl w6 #[.int .i64 0, .int .i64 0, .int .i64 0, .int .i64 0, .int .i64 0, .int .i64 0, .int .u64 0, .int .i64 0, .int .i64 0, .int .i64 0, .int .i64 0, .int .i64 0, .int .i64 0, .slice none 0 0, .slice none 0 0, .slice none 0 0, .slice none 0 0] cs.toArray w6.heap.size rfl rfl rfl HZ.out HZZ.out HONE.out ?_)
        have hbn := Ve.below_n1 w6 (.cells cs.toArray 51)
        have hNn := heap_alloc_last w6 (.cells cs.toArray 51)
        obtain ⟨y7, hyn⟩ : ∃ y, w6.alloc (.cells cs.toArray 51) = y := ⟨_, rfl⟩
        rw [hyn] at hbn hNn ⊢
        clear hyn
        have HW7 := Lib.hid (HW6.out.trans (hbn.mono HW6.out.size))
        have HS7 := Lib.hid (HS6.out.on hbn)
        have HV7 := Lib.hid (HV6.out.on hbn)
        have HN7 := Lib.hid hNn
        clear hbn hNn HW6 HS6 HV6
        go_wp2_with (with_reducible refine wpList_load_row rfl 51 (.tmp 9) rfl w6.heap.size rfl 51 cs.toArray (0, 0) _ HN7.out Tryz.underlying51 rfl HZ.out ?_)
        rw [← HSV.out]
        refine (Jw.jencode q a6 _ HS7.out).mono ?_
        rintro e w8 ⟨h8, hb8⟩
        rcases h8 with ⟨h8, -⟩ | ⟨-, b8, n8, c8, rfl, how8⟩
        · exact absurd HOK.out h8
        rw [HSV.out]
        rw [HENC.out] at how8
        have hc1 := conv_bs (Re.own_bs how8)
        have hc2 := conv_bs (HV7.out.on hb8)
        have HW8 := Lib.hid (HW7.out.trans (hb8.mono HW7.out.size))
        clear how8 hb8 HW7 HS7
        go_wp2_with fail
        clear hc1 hc2
        refine (jawake _).mono ?_
        rintro e w9 ⟨rfl, hb9⟩
        have HW9 := Lib.hid (HW8.out.trans (hb9.mono HW8.out.size))
        clear hb9 HW8
        go_wp2
        go_ret
        exact ⟨rfl, HW9.out⟩

end Go.Proofs.YtfbppiamlolfpaaGreat.Jb
