/- The walk of FixTexts: the law returns true, whatever comes in; nothing that was there is written. -/
import Derived.Test.YtcgafhpbcdmigaaDoorQg
import Derived.Test.YtcgafhpbcdmigaaDoorWk
namespace Go.Proofs.YtcgafhpbcdmigaaDoor.fixTextsW
open Go.RowKit Go.Proofs.YtcgafhpbcdmigaaDoor Go.Proofs.YtcgafhpbcdmigaaDoor.Wa Go.Proofs.YtcgafhpbcdmigaaDoor.Qa

set_option maxHeartbeats 2000000 in
set_option maxRecDepth 100000 in
theorem walk (a : Int) (s : ByteArray) (w : World) (hL : Laid w) :
    Calls Tryd.prog 3 #[.int .i64 a, .string s] w fun e w' => e = .returned (.bool true) ∧ Below w.heap.size w w' := by
  have b0 := Pl.held_lo a
  have b1 := Pl.held_hi a
  obtain ⟨L, hz⟩ : ∃ L, s.size = L := ⟨_, rfl⟩
  by_cases ht : 200 < L
  · have ht' : (200 : Int) < L := by omega
    go_enter Tryd.func3, Tryd.ntmps3
    go_wp2_with fail
    refine (awake_any _).mono ?_
    rintro e w1 ⟨rfl, hb1⟩
    go_wp2_with fail
    go_ret
    exact ⟨rfl, hb1⟩
  · have ht' : ¬ (200 : Int) < L := by omega
    obtain ⟨x, r, HB1, HB2⟩ := both s (by omega)
    obtain ⟨t, htx⟩ : ∃ t, Pl.textOf (Pl.held a) = t := ⟨_, rfl⟩
    have HT := Lib.hid htx
    have HB1 := Lib.hid HB1
    have HB2 := Lib.hid HB2
    have HH : Hid (∀ w, Laid w → Calls Tryd.prog 5 #[.string ⟨t.toArray⟩] w fun e w' => e = .returned (.tuple #[.int .i64 (Pl.held a), .int .i64 0]) ∧ Below w.heap.size w w') := Lib.hid fun w hL => by
      rw [← htx]; exact parse_yes (Pl.held a) b0 b1 w hL
    clear htx
    go_enter Tryd.func3, Tryd.ntmps3
    go_wp2_with fail
    refine (HB1.out _ hL).mono ?_
    rintro e w1 ⟨rfl, hb1⟩
    go_wp2_with fail
    refine (HB2.out _).mono ?_
    rintro e w2 ⟨rfl, hb2⟩
    replace hb2 := hb1.trans (hb2.mono hb1.size)
    clear hb1
    go_wp2_with fail
    refine (text_is a t HT.out _ (hL.on hb2)).mono ?_
    rintro e w3 ⟨rfl, hb3⟩
    replace hb3 := hb2.trans (hb3.mono hb2.size)
    clear hb2
    go_wp2_with fail
    refine (HH.out _ (hL.on hb3)).mono ?_
    rintro e w4 ⟨rfl, hb4⟩
    replace hb4 := hb3.trans (hb4.mono hb3.size)
    clear hb3
    go_wp2_with fail
    refine (awake_any _).mono ?_
    rintro e w5 ⟨rfl, hb5⟩
    replace hb5 := hb4.trans (hb5.mono hb4.size)
    clear hb4
    go_wp2_with fail
    refine (text_is a t HT.out _ (hL.on hb5)).mono ?_
    rintro e w6 ⟨rfl, hb6⟩
    replace hb6 := hb5.trans (hb6.mono hb5.size)
    clear hb5
    go_wp2_with fail
    refine (rtext_is a ⟨t.toArray⟩ (by rw [HT.out]) _).mono ?_
    rintro e w7 ⟨rfl, hb7⟩
    replace hb7 := hb6.trans (hb7.mono hb6.size)
    clear hb6
    go_wp2_with fail
    refine (held_any a _).mono ?_
    rintro e w8 ⟨rfl, rfl⟩
    go_wp2_with fail
    go_ret
    exact ⟨rfl, hb7⟩
end Go.Proofs.YtcgafhpbcdmigaaDoor.fixTextsW
