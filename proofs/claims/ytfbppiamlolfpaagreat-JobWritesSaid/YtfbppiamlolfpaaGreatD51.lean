/- JobWrites: the walk through the law. -/
import Derived.Test.YtfbppiamlolfpaaGreatD48
import Derived.Test.YtfbppiamlolfpaaGreatD36
import Derived.Test.YtfbppiamlolfpaaGreatD50
namespace Go.Proofs.YtfbppiamlolfpaaGreat.Jd
open Go Go.RowKit Go.Proofs.YtfbppiamlolfpaaGreat Go.Proofs.YtfbppiamlolfpaaGreat.Rp Go.Proofs.YtfbppiamlolfpaaGreat.Re Go.Proofs.YtfbppiamlolfpaaGreat.Au Go.Proofs.YtfbppiamlolfpaaGreat.Sc Go.Proofs.YtfbppiamlolfpaaGreat.Tk
set_option linter.unusedVariables false
set_option linter.unusedSimpArgs false
open Go.Proofs.YtfbppiamlolfpaaGreat.Jb (jawake)

set_option maxHeartbeats 8000000 in
set_option maxRecDepth 100000 in
theorem writes9_walk (s : Scn) (a : Pla) (w : World) (hs : ScAt w s a) :
    Calls Tryz.prog 3 #[SV s a] w fun e w' => e = .returned (.bool true) ∧ Below w.heap.size w w' := by
  obtain ⟨c0, hc0⟩ : ∃ c0 : List Value, c0 = (SC s a).toList := ⟨_, rfl⟩
  have e0 : SV s a = .agg c0.toArray := by rw [hc0]
  have HE0 := Lib.hid e0
  have HB0 := Lib.hid (heap_alloc_last w (.cells c0.toArray 32))
  have HS0 := Lib.hid (hs.on (Ve.below_n1 w (.cells c0.toArray 32)))
  have HW0 := Lib.hid (Ve.below_n1 w (.cells c0.toArray 32))
  have HZA := Lib.hid (show (Tryz.prog.info? 32).map (·.size) = some c0.toArray.size by rw [hc0]; kernel_rfl)
  rw [e0]
  clear hs hc0 e0
  go_enter Tryz.func3, Tryz.ntmps3
  go_wp2_with (with_reducible refine wpList_load_row rfl 32 (.tmp 1) rfl w.heap.size rfl 32 c0.toArray (0, 0) _ HB0.out Tryz.underlying32 rfl HZA.out ?_)
  rw [← HE0.out]
  refine (small_any s a _ HS0.out).mono ?_
  rintro e w1 ⟨rfl, hb1⟩
  rw [HE0.out]
  have HB1 := Lib.hid ((hb1.block _ (Au.lt_heap HB0.out)).trans HB0.out)
  have HS1 := Lib.hid (HS0.out.on hb1)
  have HW1 := Lib.hid (HW0.out.trans (hb1.mono HW0.out.size))
  clear HB0 HS0 HW0
  clear hb1
  obtain ⟨sm, hsm⟩ : ∃ sm, sm = smallB s := ⟨_, rfl⟩
  rw [← hsm]
  clear hsm
  cases sm
  · go_wp2_with fail
    refine (jawake _).mono ?_
    rintro e w4 ⟨rfl, hb4⟩
    go_wp2
    go_ret
    exact ⟨rfl, HW1.out.trans (hb4.mono HW1.out.size)⟩
  · go_wp2_with (with_reducible refine wpList_load_row rfl 32 (.tmp 1) rfl w.heap.size rfl 32 c0.toArray (0, 0) _ HB1.out Tryz.underlying32 rfl HZA.out ?_)
    rw [← HE0.out]
    refine (sto_any s a _ HS1.out).mono ?_
    rintro e w2 ⟨⟨a1, rfl, -, hs1⟩, hb2⟩
    rw [HE0.out]
    have HB2 := Lib.hid ((hb2.block _ (Au.lt_heap HB1.out)).trans HB1.out)
    have HS2 := Lib.hid (HS1.out.on hb2)
    have HW2 := Lib.hid (HW1.out.trans (hb2.mono HW1.out.size))
    clear HB1 HS1 HW1
    have HT2 := Lib.hid hs1
    obtain ⟨v1, hv1⟩ : ∃ v, v = SV s a1 := ⟨_, rfl⟩
    have HVT := Lib.hid hv1
    rw [← hv1]
    clear hv1 hs1 hb2
    go_wp2_with fail
    rw [HVT.out]
    refine (jenc2 s a1 _ HT2.out).mono ?_
    rintro e w3 ⟨⟨pb, pn, pq, rfl, hp⟩, hb3⟩
    rw [← HVT.out]
    have HB3 := Lib.hid ((hb3.block _ (Au.lt_heap HB2.out)).trans HB2.out)
    have HS3 := Lib.hid (HS2.out.on hb3)
    have HW3 := Lib.hid (HW2.out.trans (hb3.mono HW2.out.size))
    clear HB2 HS2 HW2
    have HP3 := Lib.hid hp
    clear hb3 hp
    go_wp2_with (with_reducible refine wpList_load_row rfl 32 (.tmp 1) rfl w.heap.size rfl 32 c0.toArray (0, 0) _ HB3.out Tryz.underlying32 rfl HZA.out ?_)
    rw [← HE0.out]
    refine (dencode s a _ HS3.out).mono ?_
    rintro e w4 ⟨⟨qb, qn, qq, rfl, hq⟩, hb4⟩
    rw [HE0.out]
    have HB4 := Lib.hid ((hb4.block _ (Au.lt_heap HB3.out)).trans HB3.out)
    have HS4 := Lib.hid (HS3.out.on hb4)
    have HW4 := Lib.hid (HW3.out.trans (hb4.mono HW3.out.size))
    clear HB3 HS3 HW3
    have HP4 := Lib.hid (HP3.out.on hb4)
    have HQ4 := Lib.hid hq
    clear hb4 hq HP3
    obtain ⟨er, her⟩ : ∃ er, er = (chk s).1 := ⟨_, rfl⟩
    rw [← her]
    clear her
    go_wp2_with fail
    refine (jawake _).mono ?_
    rintro e w5 ⟨rfl, hb5⟩
    have hc1 := conv_bs (HP4.out.on hb5)
    have hc2 := conv_bs (HQ4.out.on hb5)
    have HW5 := Lib.hid (HW4.out.trans (hb5.mono HW4.out.size))
    clear hb5 HB4 HS4 HW4
    go_wp2
    go_ret
    exact ⟨rfl, HW5.out⟩

end Go.Proofs.YtfbppiamlolfpaaGreat.Jd
