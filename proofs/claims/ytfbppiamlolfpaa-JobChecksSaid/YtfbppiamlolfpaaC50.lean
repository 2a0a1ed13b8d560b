/- JobChecks: the walk through the law. -/
import Derived.Test.YtfbppiamlolfpaaC41
import Derived.Test.YtfbppiamlolfpaaC46
import Derived.Test.YtfbppiamlolfpaaC47
import Derived.Test.YtfbppiamlolfpaaC49
namespace Go.Proofs.Ytfbppiamlolfpaa.Jb
open Go Go.RowKit Go.Proofs.Ytfbppiamlolfpaa Go.Proofs.Ytfbppiamlolfpaa.Rp Go.Proofs.Ytfbppiamlolfpaa.Re Go.Proofs.Ytfbppiamlolfpaa.Au Go.Proofs.Ytfbppiamlolfpaa.Sc Go.Proofs.Ytfbppiamlolfpaa.Tk
set_option linter.unusedVariables false
set_option linter.unusedSimpArgs false

theorem own_len {base : Nat} {w : World} {b : Option Addr} {n c k : Nat} {xs : List Value} (h : w.ownsRow base 5 1 (.slice b n c) k xs) : n = k := by
  rcases h.2 with ⟨h1, h2⟩ | ⟨g, cap, cur, h1, -⟩
  · simp at h1; omega
  · simp at h1; exact h1.2.1

/-- Encode's answer, in one form -/
theorem jencode2 (s : Scn) (a : Pla) (w : World) (hs : ScAt w s a) :
    Calls Try.prog 8 #[SV s a] w fun e w' => (∃ b n c, e = .returned (.tuple #[.slice b n c, .int .i64 (chk s).1]) ∧ decide (0 < n) = decide ((chk s).1 = 0)) ∧ Below w.heap.size w w' :=
  (Jw.jencode s a w hs).mono fun e w' ⟨h1, h2⟩ => ⟨by
    rcases h1 with ⟨h3, h4⟩ | ⟨h3, b, n, c, h4, h5⟩
    · exact ⟨none, 0, 0, h4, by simp [h3]⟩
    · have := (Jw.enc_length h3).1
      have := own_len h5
      exact ⟨b, n, c, by rw [h3]; exact h4, by rw [h3]; simp; omega⟩, h2⟩

set_option maxHeartbeats 8000000 in
set_option maxRecDepth 100000 in
theorem checks9_walk (s : Scn) (a : Pla) (ba : Option Addr) (bn bc : Nat) (l : List UInt8) (w : World) (hs : ScAt w s a) (hv : Bs w (.slice ba bn bc) l) (hl : l.length = bn) :
    Calls Try.prog 3 #[SV s a, .slice ba bn bc] w fun e w' => e = .returned (.bool true) ∧ Below w.heap.size w w' := by
  obtain ⟨c0, hc0⟩ : ∃ c0 : List Value, c0 = (SC s a).toList := ⟨_, rfl⟩
  have e0 : SV s a = .agg c0.toArray := by rw [hc0]
  have HE0 := Lib.hid e0
  have HB0 := Lib.hid (heap_alloc_last w (.cells c0.toArray 32))
  have HS0 := Lib.hid (hs.on (Ve.below_n1 w (.cells c0.toArray 32)))
  have HV0 := Lib.hid (hv.on (Ve.below_n1 w (.cells c0.toArray 32)))
  have HW0 := Lib.hid (Ve.below_n1 w (.cells c0.toArray 32))
  have HZA := Lib.hid (show (Try.prog.info? 32).map (·.size) = some c0.toArray.size by rw [hc0]; kernel_rfl)
  rw [e0]
  clear hs hc0 e0 hv
  go_enter Try.func3, Try.ntmps3
  go_wp2_with (with_reducible refine wpList_load_row rfl 32 (.tmp 2) rfl w.heap.size rfl 32 c0.toArray (0, 0) _ HB0.out Try.underlying32 rfl HZA.out ?_)
  rw [← HE0.out]
  refine (small_any s a _ HS0.out).mono ?_
  rintro e w1 ⟨rfl, hb1⟩
  rw [HE0.out]
  have HB1 := Lib.hid ((hb1.block _ (Au.lt_heap HB0.out)).trans HB0.out)
  have HS1 := Lib.hid (HS0.out.on hb1)
  have HV1 := Lib.hid (HV0.out.on hb1)
  have HW1 := Lib.hid (HW0.out.trans (hb1.mono HW0.out.size))
  clear HB0 HS0 HV0 HW0 hb1
  obtain ⟨sm, hsm⟩ : ∃ sm, sm = smallB s := ⟨_, rfl⟩
  rw [← hsm]
  clear hsm
  cases sm
  · go_wp2_with fail
    refine (jawake _).mono ?_
    rintro e w4 ⟨rfl, hb4⟩
    go_wp2
    go_ret
    exact ⟨rfl, HW1.out.trans (hb4.mono HW1.out.size)⟩
  · go_wp2_with (with_reducible refine wpList_load_row rfl 32 (.tmp 2) rfl w.heap.size rfl 32 c0.toArray (0, 0) _ HB1.out Try.underlying32 rfl HZA.out ?_)
    rw [← HE0.out]
    refine (sto_any s a _ HS1.out).mono ?_
    rintro e w2 ⟨⟨a1, rfl, -, hs1⟩, hb2⟩
    rw [HE0.out]
    have HB2 := Lib.hid ((hb2.block _ (Au.lt_heap HB1.out)).trans HB1.out)
    have HS2 := Lib.hid (HS1.out.on hb2)
    have HV2 := Lib.hid (HV1.out.on hb2)
    have HW2 := Lib.hid (HW1.out.trans (hb2.mono HW1.out.size))
    clear HB1 HS1 HV1 HW1 hb2
    have HT2 := Lib.hid hs1
    obtain ⟨v1, hv1⟩ : ∃ v, v = SV s a1 := ⟨_, rfl⟩
    have HV1 := Lib.hid hv1
    rw [← hv1]
    clear hv1 hs1
    go_wp2_with fail
    rw [HV1.out]
    refine (jencode2 s a1 _ HT2.out).mono ?_
    rintro e w3 ⟨⟨pb, pn, pq, rfl, hpn⟩, hb3⟩
    rw [← HV1.out]
    have HB3 := Lib.hid ((hb3.block _ (Au.lt_heap HB2.out)).trans HB2.out)
    have HS3 := Lib.hid (HS2.out.on hb3)
    have HV3 := Lib.hid (HV2.out.on hb3)
    have HW3 := Lib.hid (HW2.out.trans (hb3.mono HW2.out.size))
    clear HB2 HS2 HV2 HW2 hb3
    obtain ⟨er, her⟩ : ∃ er, er = (chk s).1 := ⟨_, rfl⟩
    rw [← her] at hpn ⊢
    have HER := Lib.hid her
    have HPN := Lib.hid hpn
    clear her hpn
    go_wp2_with (with_reducible refine wpList_load_row rfl 32 (.tmp 2) rfl w.heap.size rfl 32 c0.toArray (0, 0) _ HB3.out Try.underlying32 rfl HZA.out ?_)
    rw [← HE0.out]
    refine (sto_any s a _ HS3.out).mono ?_
    rintro e w4 ⟨⟨a2, rfl, -, hs2⟩, hb4⟩
    rw [HE0.out]
    have HB4 := Lib.hid ((hb4.block _ (Au.lt_heap HB3.out)).trans HB3.out)
    have HS4 := Lib.hid (HS3.out.on hb4)
    have HV4 := Lib.hid (HV3.out.on hb4)
    have HW4 := Lib.hid (HW3.out.trans (hb4.mono HW3.out.size))
    clear HB3 HS3 HV3 HW3 hb4
    have HT4 := Lib.hid hs2
    obtain ⟨v2, hv2⟩ : ∃ v, v = SV s a2 := ⟨_, rfl⟩
    have HV2 := Lib.hid hv2
    rw [← hv2]
    clear hv2 hs2
    go_wp2_with fail
    rw [HV2.out]
    refine (check_any s a2 _ HT4.out).mono ?_
    rintro e w5 ⟨rfl, hb5⟩
    rw [← HV2.out, ← HER.out]
    have HB5 := Lib.hid ((hb5.block _ (Au.lt_heap HB4.out)).trans HB4.out)
    have HS5 := Lib.hid (HS4.out.on hb5)
    have HV5 := Lib.hid (HV4.out.on hb5)
    have HW5 := Lib.hid (HW4.out.trans (hb5.mono HW4.out.size))
    clear HB4 HS4 HV4 HW4 hb5
    obtain ⟨ep, hep⟩ : ∃ ep, ep = (chk s).2 := ⟨_, rfl⟩
    rw [← hep]
    obtain ⟨v, hvv⟩ : ∃ v, v = decide (er = 0) := ⟨_, rfl⟩
    have d1 : (er == 0) = v := by rw [hvv]; rfl
    have d2 : decide (0 < pn) = v := by rw [hvv]; exact HPN.out
    have d3 : decide ((0 : Int) < (pn : Int)) = v := by rw [← d2]; simp
    have d4 : decide (er = 0) = v := hvv.symm
    clear hvv hep
    go_wp2_with fail
    refine (jparse l ba bn bc _ HV5.out hl).mono ?_
    rintro e w6 ⟨h6, hb6⟩
    have HW6 := Lib.hid (HW5.out.trans (hb6.mono HW5.out.size))
    clear hb6 HW5 HB5 HS5 HV5 d1 d2 d3 d4
    generalize parE l = pe at h6
    rcases h6 with ⟨hpe, rfl⟩ | ⟨hpe, hok, a6, rfl, hs6⟩
    · have d1 : (pe != 0) = true := by simp [hpe]
      have d2 : (pe == 0) = false := by simpa using hpe
      have d3 := decide_eq_false hpe
      go_upto_region 8 with (with_reducible refine wpList_store_new rfl 51 (.tmp 9) (.tmp 43) rfl w6 #[.int .i64 0, .int .i64 0, .int .i64 0, .int .i64 0, .int .i64 0, .int .i64 0, .int .u64 0, .int .i64 0, .int .i64 0, .int .i64 0, .int .i64 0, .int .i64 0, .int .i64 0, .slice none 0 0, .slice none 0 0, .slice none 0 0, .slice none 0 0] zeroC w6.heap.size rfl rfl rfl infoZC zeroSz zeroOne ?_)
      have hbn := Ve.below_n1 w6 (.cells zeroC 51)
      have hNn := heap_alloc_last w6 (.cells zeroC 51)
      obtain ⟨y7, hyn⟩ : ∃ y, w6.alloc (.cells zeroC 51) = y := ⟨_, rfl⟩
      rw [hyn] at hbn hNn ⊢
      clear hyn
      have HW7 := Lib.hid (HW6.out.trans (hbn.mono HW6.out.size))
      have HN7 := Lib.hid hNn
      clear hbn hNn
      go_wp2_with fail
      refine (jawake _).mono ?_
      rintro e w8 ⟨rfl, hb8⟩
      have HW8 := Lib.hid (HW7.out.trans (hb8.mono HW7.out.size))
      have hN8 := (hb8.block _ (Au.lt_heap HN7.out)).trans HN7.out
      have c0 := cell_of_row _ _ 0 _ _ _ hN8
      have c14 := cell_of_row _ _ 14 _ _ _ hN8
      have c16 := cell_of_row _ _ 16 _ _ _ hN8
      rw [show zeroC[0]? = some (.int .i64 0) from rfl] at c0
      rw [show zeroC[14]? = some (.slice none 0 0) from rfl] at c14
      rw [show zeroC[16]? = some (.slice none 0 0) from rfl] at c16
      clear hN8 hb8
      go_wp2
      go_ret
      exact ⟨rfl, HW8.out⟩
    · generalize parScn (l, 0) = q at hok hs6 ⊢
      subst hpe
      obtain ⟨cs, hcs⟩ : ∃ cs : List Value, SC q a6 = cs.toArray := ⟨(SC q a6).toList, by simp⟩
      have hsv : SV q a6 = .agg cs.toArray := by show Value.agg _ = _; rw [hcs]
      have HZ := Lib.hid (show (Try.prog.info? 51).map (·.size) = some cs.toArray.size by rw [← hcs]; kernel_rfl)
      have HZZ := Lib.hid (show (#[.int .i64 0, .int .i64 0, .int .i64 0, .int .i64 0, .int .i64 0, .int .i64 0, .int .u64 0, .int .i64 0, .int .i64 0, .int .i64 0, .int .i64 0, .int .i64 0, .int .i64 0, .slice none 0 0, .slice none 0 0, .slice none 0 0, .slice none 0 0] : Array Value).size = cs.toArray.size by rw [← hcs]; rfl)
      have HONE := Lib.hid (show cs.toArray.all (·.oneCell') = true by rw [← hcs]; simp [Value.oneCell'])
      rw [hsv]
      have HSV := Lib.hid hsv
      have HS6 := Lib.hid hs6
      have HOK := Lib.hid hok
      clear hsv hcs hs6 hok
      go_upto_region 8 with (with_reducible refine wpList_store_new rfl 51 (.tmp 9) (.tmp 43) rfl w6 #[.int .i64 0, .int .i64 0, .int .i64 0, .int .i64 0, .int .i64 0, .int .i64 0, .int .u64 0, .int .i64 0, .int .i64 0, .int .i64 0, .int .i64 0, .int .i64 0, .int .i64 0, .slice none 0 0, .slice none 0 0, .slice none 0 0, .slice none 0 0] cs.toArray w6.heap.size rfl rfl rfl HZ.out HZZ.out HONE.out ?_)
      have hbn := Ve.below_n1 w6 (.cells cs.toArray 51)
      have hNn := heap_alloc_last w6 (.cells cs.toArray 51)
      obtain ⟨y7, hyn⟩ : ∃ y, w6.alloc (.cells cs.toArray 51) = y := ⟨_, rfl⟩
      rw [hyn] at hbn hNn ⊢
      clear hyn
      have HW7 := Lib.hid (HW6.out.trans (hbn.mono HW6.out.size))
      have HS7 := Lib.hid (HS6.out.on hbn)
      have HN7 := Lib.hid hNn
      clear hbn hNn HW6 HS6
      go_wp2_with (with_reducible refine wpList_load_row rfl 51 (.tmp 9) rfl w6.heap.size rfl 51 cs.toArray (0, 0) _ HN7.out Try.underlying51 rfl HZ.out ?_)
      rw [← HSV.out]
      refine (check_any q a6 _ HS7.out).mono ?_
      rintro e w8 ⟨rfl, hb8⟩
      rw [HSV.out, HOK.out]
      have HW8 := Lib.hid (HW7.out.trans (hb8.mono HW7.out.size))
      obtain ⟨kp, hkp⟩ : ∃ kp, kp = (chk q).2 := ⟨_, rfl⟩
      rw [← hkp]
      clear hb8 HW7 hkp
      go_wp2_with fail
      refine (jawake _).mono ?_
      rintro e w9 ⟨rfl, hb9⟩
      have HW9 := Lib.hid (HW8.out.trans (hb9.mono HW8.out.size))
      clear hb9 HW8
      go_wp2
      go_ret
      exact ⟨rfl, HW9.out⟩

end Go.Proofs.Ytfbppiamlolfpaa.Jb
