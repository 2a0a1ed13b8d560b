/- SealDigits: the walk. -/
import Derived.Test.YtpinpkhalccjhaaDoorSeo
import Derived.Test.YtpinpkhalccjhaaDoorSei
import Derived.Test.YtpinpkhalccjhaaDoorRfb
namespace Go.Proofs.YtpinpkhalccjhaaDoor.sealDigitsW
open Go Go.RowKit Go.Proofs.YtpinpkhalccjhaaDoor Go.Proofs.YtpinpkhalccjhaaDoor.Au Go.Proofs.YtpinpkhalccjhaaDoor.Re Go.Proofs.YtpinpkhalccjhaaDoor.Se
set_option linter.unusedVariables false
set_option linter.unusedSimpArgs false

set_option maxHeartbeats 8000000 in
set_option maxRecDepth 100000 in
theorem go_ok (a : Option Addr) (n c : Nat) (l : List UInt8) (s : ByteArray) (L : Nat) (w : World) (hl : Bs w (.slice a n c) l) (hT : Tabs w) (hL : s.size = L) (hn5 : n ≤ 5000) (hL5 : L ≤ 5000) (hok : okHex s) : Calls Tryd.prog 10 #[.slice a n c, .string s] w fun e' w' => e' = .returned (.bool true) ∧ Below w.heap.size w w' := by
  have HL := Lib.hid hl
  have HT := Lib.hid hT
  have HS := Lib.hid hL
  have HOK := Lib.hid hok
  have HN := Lib.hid (bs_len hl)
  have g1 : ¬ (5000 : Int) < (n : Int) := by omega
  have g2 : ¬ (5000 : Int) < (L : Int) := by omega
  clear hl hT hok
  go_enter Tryd.func10, Tryd.ntmps10
  go_wp2_with fail
  refine (unhex_go s L HS.out (by omega) _).mono ?_
  rintro e y1 ⟨hyes, -, hb1⟩
  obtain ⟨v1, rfl, ho1⟩ := hyes HOK.out
  clear hyes
  obtain ⟨a1, c1, rfl⟩ := own_form ho1
  obtain ⟨n2, hn2⟩ : ∃ x, x = L / 2 := ⟨_, rfl⟩
  rw [← hn2] at ho1 ⊢
  have HN2 := Lib.hid hn2
  clear hn2
  have HB1 := Lib.hid (own_bs' (by rw [outs_len]) ho1)
  have HU1 := Lib.hid hb1
  clear ho1 hb1
  go_wp2_with fail
  refine (runhex_go s L HS.out (by omega) _).mono ?_
  rintro e y2 ⟨hyes, -, hb2⟩
  obtain ⟨v2, rfl, ho2⟩ := hyes HOK.out
  clear hyes
  obtain ⟨a2, c2, rfl⟩ := own_form ho2
  rw [← HN2.out] at ho2 ⊢
  have HB2 := Lib.hid (own_bs' (by rw [outs_len]) ho2)
  have HB12 := Lib.hid (HB1.out.on hb2)
  have HU2 := Lib.hid (HU1.out.trans (hb2.mono HU1.out.size))
  clear ho2 hb2 HB1 HU1
  go_wp2_with fail
  refine (hex_all a n c l _ (by omega) (HL.out.on HU2.out)).mono ?_
  rintro e y3 ⟨rfl, hb3⟩
  have HB13 := Lib.hid (HB12.out.on hb3)
  have HB23 := Lib.hid (HB2.out.on hb3)
  have HU3 := Lib.hid (HU2.out.trans (hb3.mono HU2.out.size))
  clear hb3 HB12 HB2 HU2
  obtain ⟨X, hX⟩ : ∃ X : ByteArray, X = ⟨(hexL l).toArray⟩ := ⟨_, rfl⟩
  rw [← hX]
  have HX := Lib.hid hX
  clear hX
  go_wp2_with fail
  refine (unhex_go X (2 * n) (by rw [HX.out, size_hex, HN.out]) (by omega) _).mono ?_
  rintro e y4 ⟨hyes, -, hb4⟩
  obtain ⟨v4, rfl, ho4⟩ := hyes (by rw [HX.out]; exact ok_hex l)
  clear hyes
  obtain ⟨a4, c4, rfl⟩ := own_form ho4
  rw [show 2 * n / 2 = n by omega] at ho4 ⊢
  have ho4' := own_bs' (by rw [outs_len]) ho4
  rw [HX.out, HN.out, outs_hex] at ho4'
  rw [← HN.out] at ho4'
  have HB4 := Lib.hid ho4'
  have HB14 := Lib.hid (HB13.out.on hb4)
  have HB24 := Lib.hid (HB23.out.on hb4)
  have HU4 := Lib.hid (HU3.out.trans (hb4.mono HU3.out.size))
  clear ho4 ho4' hb4 HB13 HB23 HU3
  go_wp2_with fail
  refine (awake_any _ (HT.out.on HU4.out)).mono ?_
  rintro e y5 ⟨rfl, hb5⟩
  have HB5 := Lib.hid (HB4.out.on hb5)
  have HB15 := Lib.hid (HB14.out.on hb5)
  have HB25 := Lib.hid (HB24.out.on hb5)
  have HU5 := Lib.hid (HU4.out.trans (hb5.mono HU4.out.size))
  clear hb5 HB4 HB14 HB24 HU4
  go_wp2_with fail
  refine (hex_all a n c l _ (by omega) (HL.out.on HU5.out)).mono ?_
  rintro e y6 ⟨rfl, hb6⟩
  rw [← HX.out]
  have HB6 := Lib.hid (HB5.out.on hb6)
  have HB16 := Lib.hid (HB15.out.on hb6)
  have HB26 := Lib.hid (HB25.out.on hb6)
  have HU6 := Lib.hid (HU5.out.trans (hb6.mono HU5.out.size))
  clear hb6 HB5 HB15 HB25 HU5
  go_wp2_with fail
  refine (rhex_all a n c l _ (by omega) (HL.out.on HU6.out)).mono ?_
  rintro e y7 ⟨rfl, hb7⟩
  rw [← HX.out]
  have hc1 := conv_bs (HB16.out.on hb7)
  have hc2 := conv_bs (HB26.out.on hb7)
  have hc3 := conv_bs (HB6.out.on hb7)
  have hc4 := conv_bs ((HL.out.on HU6.out).on hb7)
  have HU7 := Lib.hid (HU6.out.trans (hb7.mono HU6.out.size))
  clear hb7 HB6 HB16 HB26 HU6
  go_wp2_with fail
  go_ret
  exact ⟨rfl, HU7.out⟩

set_option maxHeartbeats 8000000 in
set_option maxRecDepth 100000 in
theorem go_no (a : Option Addr) (n c : Nat) (l : List UInt8) (s : ByteArray) (L : Nat) (w : World) (hl : Bs w (.slice a n c) l) (hT : Tabs w) (hL : s.size = L) (hn5 : n ≤ 5000) (hL5 : L ≤ 5000) (hok : ¬ okHex s) : Calls Tryd.prog 10 #[.slice a n c, .string s] w fun e' w' => e' = .returned (.bool true) ∧ Below w.heap.size w w' := by
  have HL := Lib.hid hl
  have HT := Lib.hid hT
  have HS := Lib.hid hL
  have HOK := Lib.hid hok
  have HN := Lib.hid (bs_len hl)
  have g1 : ¬ (5000 : Int) < (n : Int) := by omega
  have g2 : ¬ (5000 : Int) < (L : Int) := by omega
  clear hl hT hok
  go_enter Tryd.func10, Tryd.ntmps10
  go_wp2_with fail
  refine (unhex_go s L HS.out (by omega) _).mono ?_
  rintro e y1 ⟨-, hno, hb1⟩
  obtain rfl := hno HOK.out
  clear hno
  have HU1 := Lib.hid hb1
  clear hb1
  go_wp2_with fail
  refine (runhex_go s L HS.out (by omega) _).mono ?_
  rintro e y2 ⟨-, hno, hb2⟩
  obtain rfl := hno HOK.out
  clear hno
  have HU2 := Lib.hid (HU1.out.trans (hb2.mono HU1.out.size))
  clear hb2 HU1
  go_wp2_with fail
  refine (hex_all a n c l _ (by omega) (HL.out.on HU2.out)).mono ?_
  rintro e y3 ⟨rfl, hb3⟩
  have HU3 := Lib.hid (HU2.out.trans (hb3.mono HU2.out.size))
  clear hb3 HU2
  obtain ⟨X, hX⟩ : ∃ X : ByteArray, X = ⟨(hexL l).toArray⟩ := ⟨_, rfl⟩
  rw [← hX]
  have HX := Lib.hid hX
  clear hX
  go_wp2_with fail
  refine (unhex_go X (2 * n) (by rw [HX.out, size_hex, HN.out]) (by omega) _).mono ?_
  rintro e y4 ⟨hyes, -, hb4⟩
  obtain ⟨v4, rfl, ho4⟩ := hyes (by rw [HX.out]; exact ok_hex l)
  clear hyes
  obtain ⟨a4, c4, rfl⟩ := own_form ho4
  rw [show 2 * n / 2 = n by omega] at ho4 ⊢
  have ho4' := own_bs' (by rw [outs_len]) ho4
  rw [HX.out, HN.out, outs_hex] at ho4'
  rw [← HN.out] at ho4'
  have HB4 := Lib.hid ho4'
  have HU4 := Lib.hid (HU3.out.trans (hb4.mono HU3.out.size))
  clear ho4 ho4' hb4 HU3
  go_wp2_with fail
  refine (awake_any _ (HT.out.on HU4.out)).mono ?_
  rintro e y5 ⟨rfl, hb5⟩
  have HB5 := Lib.hid (HB4.out.on hb5)
  have HU5 := Lib.hid (HU4.out.trans (hb5.mono HU4.out.size))
  clear hb5 HB4 HU4
  go_wp2_with fail
  refine (hex_all a n c l _ (by omega) (HL.out.on HU5.out)).mono ?_
  rintro e y6 ⟨rfl, hb6⟩
  rw [← HX.out]
  have HB6 := Lib.hid (HB5.out.on hb6)
  have HU6 := Lib.hid (HU5.out.trans (hb6.mono HU5.out.size))
  clear hb6 HB5 HU5
  go_wp2_with fail
  refine (rhex_all a n c l _ (by omega) (HL.out.on HU6.out)).mono ?_
  rintro e y7 ⟨rfl, hb7⟩
  rw [← HX.out]
  have hc1 : (convert 67 9 (.slice none 0 0)).run Tryd.prog y7 = .ok (.string ⟨#[]⟩) y7 := conv_bs (.inl ⟨rfl, rfl⟩)
  have hc3 := conv_bs (HB6.out.on hb7)
  have hc4 := conv_bs ((HL.out.on HU6.out).on hb7)
  have HU7 := Lib.hid (HU6.out.trans (hb7.mono HU6.out.size))
  clear hb7 HB6 HU6
  go_wp2_with fail
  go_ret
  exact ⟨rfl, HU7.out⟩

set_option maxHeartbeats 4000000 in
set_option maxRecDepth 100000 in
theorem big_n (a : Option Addr) (n c : Nat) (s : ByteArray) (w : World) (hT : Tabs w) (hn : ¬ n ≤ 5000) : Calls Tryd.prog 10 #[.slice a n c, .string s] w fun e' w' => e' = .returned (.bool true) ∧ Below w.heap.size w w' := by
  have HT := Lib.hid hT
  have g1 : (5000 : Int) < (n : Int) := by omega
  clear hT
  go_enter Tryd.func10, Tryd.ntmps10
  go_wp2_with fail
  refine (awake_any _ HT.out).mono ?_
  rintro e y1 ⟨rfl, hb1⟩
  go_wp2_with fail
  go_ret
  exact ⟨rfl, hb1⟩

set_option maxHeartbeats 4000000 in
set_option maxRecDepth 100000 in
theorem big_s (a : Option Addr) (n c : Nat) (s : ByteArray) (L : Nat) (w : World) (hT : Tabs w) (hL : s.size = L) (hn : n ≤ 5000) (hs : ¬ L ≤ 5000) : Calls Tryd.prog 10 #[.slice a n c, .string s] w fun e' w' => e' = .returned (.bool true) ∧ Below w.heap.size w w' := by
  have HT := Lib.hid hT
  have g1 : ¬ (5000 : Int) < (n : Int) := by omega
  have g2 : (5000 : Int) < (L : Int) := by omega
  clear hT
  go_enter Tryd.func10, Tryd.ntmps10
  go_wp2_with fail
  refine (awake_any _ HT.out).mono ?_
  rintro e y1 ⟨rfl, hb1⟩
  go_wp2_with fail
  go_ret
  exact ⟨rfl, hb1⟩

theorem walk (a : Option Addr) (n c : Nat) (l : List UInt8) (s : ByteArray) (w : World) (hl : Bs w (.slice a n c) l) (hT : Tabs w) : Calls Tryd.prog 10 #[.slice a n c, .string s] w fun e' w' => e' = .returned (.bool true) ∧ Below w.heap.size w w' := by
  by_cases hn : n ≤ 5000
  case neg => exact big_n a n c s w hT hn
  by_cases hs : s.size ≤ 5000
  case neg => exact big_s a n c s _ w hT rfl hn hs
  by_cases hok : okHex s
  · exact go_ok a n c l s _ w hl hT rfl hn hs hok
  · exact go_no a n c l s _ w hl hT rfl hn hs hok

end Go.Proofs.YtpinpkhalccjhaaDoor.sealDigitsW
