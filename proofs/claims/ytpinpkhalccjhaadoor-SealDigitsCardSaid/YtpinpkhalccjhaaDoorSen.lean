/- Layer 22: digits back to bytes, by the document. -/
import Derived.Test.YtpinpkhalccjhaaDoorSem
namespace Go.Proofs.YtpinpkhalccjhaaDoor.Se
open Go Go.RowKit Go.Proofs.YtpinpkhalccjhaaDoor Go.Proofs.YtpinpkhalccjhaaDoor.Au Go.Proofs.YtpinpkhalccjhaaDoor.Re
set_option linter.unusedVariables false
set_option linter.unusedSimpArgs false

theorem okHex_iff (s : ByteArray) : okHex s ↔ s.size % 2 = 0 ∧ ∀ j, j < s.size → dv (ats s j) < 16 := by
  constructor
  · rintro ⟨h1, h2⟩
    refine ⟨h1, fun j hj => ?_⟩
    have h := h2 (j / 2) (by omega)
    rcases (show j = 2 * (j / 2) ∨ j = 2 * (j / 2) + 1 by omega) with e | e
    · rw [e]; exact h.1
    · rw [e]; exact h.2
  · rintro ⟨h1, h2⟩
    exact ⟨h1, fun k hk => ⟨h2 _ (by omega), h2 _ (by omega)⟩⟩

/-- what is there behind i digits -/
def half_ (s : ByteArray) (i : Nat) : List UInt8 := outs s (i / 2) ++ (if i % 2 = 1 then [UInt8.ofNat (dv (ats s (i - 1)) * 16)] else [])

theorem half_even (s : ByteArray) (i : Nat) (h : i % 2 = 0) : half_ s i = outs s (i / 2) := by
  unfold half_; rw [if_neg (by omega), List.append_nil]

theorem half_up (s : ByteArray) (i : Nat) (h : i % 2 = 0) : half_ s (i + 1) = half_ s i ++ [UInt8.ofNat (dv (ats s i) * 16)] := by
  rw [half_even s i h]
  unfold half_
  rw [if_pos (by omega), show (i + 1) / 2 = i / 2 by omega, show i + 1 - 1 = i by omega]

theorem half_down (s : ByteArray) (i : Nat) (h : i % 2 = 1) : half_ s (i + 1) = (half_ s i).set (i / 2) (UInt8.ofNat (dv (ats s (i - 1)) * 16 + dv (ats s i))) := by
  rw [half_even s (i + 1) (by omega)]
  unfold half_
  rw [if_pos h, show (i + 1) / 2 = i / 2 + 1 by omega, outs_succ, List.set_append_right _ _ (by rw [outs_len]; omega), outs_len, show i / 2 - i / 2 = 0 by omega]
  simp only [List.set_cons_zero]
  unfold pairB
  rw [show 2 * (i / 2) = i - 1 by omega, show i - 1 + 1 = i by omega]

theorem half_len (s : ByteArray) (i : Nat) : (half_ s i).length = (i + 1) / 2 := by
  unfold half_
  rw [List.length_append, outs_len]
  split
  · simp; omega
  · simp; omega

theorem half_at (s : ByteArray) (i : Nat) (h : i % 2 = 1) (h0 : dv (ats s (i - 1)) < 16) : (half_ s i)[i / 2]? = some (UInt8.ofNat (dv (ats s (i - 1)) * 16)) := by
  unfold half_
  rw [if_pos h, List.getElem?_append_right (by rw [outs_len]; omega), outs_len]
  simp

/-- a byte that is owned, turned -/
theorem own_put {w : World} {base : Nat} {a : Option Addr} {n c : Nat} {l : List UInt8} (h : w.ownsRow base 5 1 (.slice a n c) n (vals l)) {j : Nat} (hj : j < n) (y : UInt8) (yi : Int) (hy : yi = (y.toNat : Int)) : ∃ q x, a = some ⟨q, 0, none⟩ ∧ base ≤ q ∧ l[j]? = some x ∧ w.cell? ⟨q, j, none⟩ = some (.int .u8 (x.toNat : Int)) ∧ w.frozen? ⟨q, j, none⟩ = false ∧ (w.setCell ⟨q, j, none⟩ (.int .u8 yi)).ownsRow base 5 1 (.slice a n c) n (vals (l.set j y)) := by
  have hl : n = l.length := by have := h.1; rw [vals_length, Nat.mul_one] at this; exact this.symm
  rcases h.2 with ⟨h1, h2⟩ | ⟨q, cap, cur, h1, h2, h3, h4, h5, h6, h7⟩
  · omega
  · cases h1
    have hx : l[j]? = some (l[j]'(by omega)) := List.getElem?_eq_getElem (by omega)
    have hcur : cur[j]? = some (.int .u8 ((l[j]'(by omega)).toNat : Int)) := by
      rw [Nat.mul_one] at h7
      have e := congrArg (fun l => l[j]?) h7
      simp only [List.getElem?_take, if_pos hj] at e
      have hv : (vals l)[j]? = some (.int .u8 ((l[j]'(by omega)).toNat : Int)) := by unfold vals; rw [List.getElem?_map, hx]; rfl
      rw [hv] at e
      simpa using e
    refine ⟨q, _, rfl, h2, hx, by simp [World.cell?, h3, hcur], by simp [World.frozen?, h3], ?_, .inr ⟨q, _, cur.setIfInBounds j (.int .u8 yi), rfl, h2, heap_setCell_same _ _ _ _ _ _ h3, h4, h5, by simpa using h6, ?_⟩⟩
    · rw [vals_length, List.length_set, Nat.mul_one]; exact hl.symm
    · rw [Nat.mul_one] at h7 ⊢
      rw [Array.toList_setIfInBounds, List.take_set, h7, hy]
      unfold vals
      rw [List.map_set]

theorem dv_dig (c : Nat) (h0 : 48 ≤ c) (h1 : c ≤ 57) : dv c = c - 48 := by unfold dv; rw [if_pos ⟨h0, h1⟩]
theorem dv_let (c : Nat) (h0 : 97 ≤ c) (h1 : c ≤ 102) : dv c = c - 87 := by unfold dv; rw [if_neg (by omega), if_pos ⟨h0, h1⟩]
theorem dv_no (c : Nat) (h0 : ¬ (48 ≤ c ∧ c ≤ 57)) (h1 : ¬ (97 ≤ c ∧ c ≤ 102)) : ¬ dv c < 16 := by unfold dv; rw [if_neg h0, if_neg h1]; omega

set_option maxHeartbeats 8000000 in
set_option maxRecDepth 100000 in
theorem runhex_go (s : ByteArray) (L : Nat) (hL : s.size = L) (hb : L ≤ 20000) (w : World) :
    Calls Tryd.prog 46 #[.string s] w fun e w' => (okHex s → ∃ v', e = .returned (.tuple #[v', .bool true]) ∧ w'.ownsRow w.heap.size 5 1 v' (L / 2) (vals (outs s (L / 2)))) ∧ (¬ okHex s → e = .returned (.tuple #[.slice none 0 0, .bool false])) ∧ Below w.heap.size w w' := by
  obtain ⟨i0, hi, hz0, hz1, hz2⟩ := info_parts infoByte
  by_cases hev : L % 2 = 0
  · have hm : ((L : Int) % 2 == 1) = false := by have : (L : Int) % 2 = 0 := by omega
                                                 simp [this]
    have HEV := Lib.hid hev
    clear hev
    go_enter Tryd.func46, Tryd.ntmps46
    go_wp2_with fail
    go_loopw [4, 5] (fun v i wr => ∃ (k n : Nat) (a : Option Addr) (c : Nat), k ≤ L ∧ n = (k + 1) / 2 ∧ i = .int .i64 k ∧ v = .slice a n c ∧ Hid (∀ j, j < k → dv (ats s j) < 16) ∧ Hid (wr.ownsRow w.heap.size 5 1 (.slice a n c) n (vals (half_ s k))) ∧ Hid (Below w.heap.size w wr)) (fun _ i _ => L - (intOf i).toNat)
    case atStart => exact ⟨0, 0, none, 0, by omega, rfl, rfl, rfl, Lib.hid (fun j hj => by omega), Lib.hid (World.ownsRow_nil _ _ _ _), Lib.hid (Below.refl _ _)⟩
    case round =>
      obtain ⟨k, n, a, c, hk, hn, rfl, rfl, HG, HI, HU⟩ := hrel
      have HN := Lib.hid hn
      have hnb : n ≤ 10001 := by omega
      clear hn
      have hbk := HU.out
      have hsz := hbk.size
      by_cases hlt : k < L
      · have hlt' : (k : Int) < L := by omega
        obtain ⟨ch, hch⟩ : ∃ x, x = ats s k := ⟨_, rfl⟩
        have hx0 : ∀ W, (Instr.index 9 (.string s) (.int .i64 (k : Int))).run Tryd.prog W = .ok (.int .u8 (ch : Int)) W := fun W => by rw [hch]; exact index_str s k (by omega) W
        have hv := ats_is s k (by omega)
        rw [← hch] at hv
        have hcb : ch < 256 := by rw [hch]; exact ats_lt s k
        have HCH := Lib.hid hch
        clear hch
        by_cases g0 : 48 ≤ ch ∧ ch ≤ 57
        · have g1 : 48 ≤ (ch : Int) := by omega
          have g2 : (ch : Int) ≤ 57 := by omega
          obtain ⟨x, hx⟩ : ∃ x : Nat, x = ch - 48 := ⟨_, rfl⟩
          have HX := Lib.hid (show x = dv (ats s k) by rw [← HCH.out, dv_dig ch g0.1 g0.2, hx])
          have hxi : (ch : Int) - 48 = (x : Int) := by omega
          have hxb : x < 16 := by omega
          have hxm : (x : Int) % 256 = (x : Int) := by omega
          clear hx
          have HG2 := Lib.hid (show ∀ j, j < k + 1 → dv (ats s j) < 16 from fun j hj => by
            by_cases e : j < k
            · exact HG.out j e
            · obtain rfl : j = k := by omega
              rw [← HX.out]; exact hxb)
          by_cases hp : k % 2 = 0
          · have hpe : ((k : Int) % 2 == 0) = true := by have : (k : Int) % 2 = 0 := by omega
                                                         simp [this]
            have HP := Lib.hid hp
            obtain ⟨z, hz⟩ : ∃ z : Nat, z = x * 16 := ⟨_, rfl⟩
            have hzi : (x : Int) * 16 = (z : Int) := by omega
            have hzm : (z : Int) % 256 = (z : Int) := by omega
            have HZ := Lib.hid (show (z : Int) = ((UInt8.ofNat (dv (ats s k) * 16)).toNat : Int) by rw [← HX.out, UInt8.toNat_ofNat_of_lt' (by simp [UInt8.size]; omega), hz])
            clear hp hz
            obtain ⟨yb, hyb⟩ : ∃ y : UInt8, y = UInt8.ofNat (dv (ats s k) * 16) := ⟨_, rfl⟩
            have HI1 := Lib.hid (HI.out.alloc (.cells #[.int .u8 (z : Int)] 5))
            have HV := Lib.hid (vals_one1 (z : Int) yb (by rw [hyb]; exact HZ.out) wr wr.heap.size rfl)
            have HYB := Lib.hid hyb
            clear hyb
            go_wp2_with (first | (at_builtin; refine wpList_append_own _ rfl _ _ 67 rfl w.heap.size 5 i0 (.int .u8 0) 1 1 Tryd.underlying67 hi hz0 hz1 hz2 rfl (by decide) _ _ _ rfl HI1.out ⟨wr.heap.size, 0, none⟩ 1 1 (vals [yb]) rfl rfl HV.out (vals_one _) ?d3 ?d4 ?d5 ?_))
            case d3 => unfold maxLen; omega
            case d4 => omega
            case d5 => first | omega | (simp; omega)
            intro v2 w2 hown2 hgrow2 _
            have hb2 : Below w.heap.size w w2 := (hbk.alloc hsz _).grown hgrow2 (by simp; omega) (fun q hq => (HI.out.lt q hq).1)
            have HO2 := Lib.hid (show w2.ownsRow w.heap.size 5 1 v2 (n + 1) (vals (half_ s (k + 1))) by rw [half_up s k HP.out, vals_append, ← HYB.out]; exact hown2)
            obtain ⟨a9, c9, hv9⟩ := own_form HO2.out
            subst hv9
            clear hown2 hgrow2 HI HI1 HV hx0 hv
            go_wp2_with fail
            go_roundw
            case rel => exact ⟨k + 1, n + 1, a9, c9, by omega, by have := HN.out; have := HP.out; omega, by go_num, rfl, HG2, HO2, Lib.hid hb2⟩
            case measure => simp [intOf]; omega
          · have hpe : ((k : Int) % 2 == 0) = false := by have : (k : Int) % 2 = 1 := by omega
                                                          simp [this]
            have hp1 : k % 2 = 1 := by omega
            obtain ⟨h2, hh2⟩ : ∃ z : Nat, z = k / 2 := ⟨_, rfl⟩
            have hhi : (k : Int) / 2 = (h2 : Int) := by omega
            have hhn : h2 < n := by have := HN.out; omega
            have hhn' : (h2 : Int) < (n : Int) := by omega
            have hd1 := HG.out (k - 1) (by omega)
            obtain ⟨d1, hd1e⟩ : ∃ d, d = dv (ats s (k - 1)) := ⟨_, rfl⟩
            rw [← hd1e] at hd1
            obtain ⟨z, hz⟩ : ∃ z : Nat, z = d1 * 16 + x := ⟨_, rfl⟩
            obtain ⟨q, xq, ha, hqb, hlx, hcx, hfx, hown3⟩ := own_put HI.out hhn (UInt8.ofNat (d1 * 16 + x)) (z : Int) (by rw [UInt8.toNat_ofNat_of_lt' (by simp [UInt8.size]; omega), hz])
            subst ha
            have hha := half_at s k hp1 (by rw [← hd1e]; exact hd1)
            rw [← hh2, ← hd1e, hlx] at hha
            have hxq : xq = UInt8.ofNat (d1 * 16) := Option.some.inj hha
            have hq16 : (xq.toNat : Int) = ((d1 * 16 : Nat) : Int) := by rw [hxq, UInt8.toNat_ofNat_of_lt' (by simp [UInt8.size]; omega)]
            obtain ⟨y16, hy16⟩ : ∃ y : Nat, y = d1 * 16 := ⟨_, rfl⟩
            rw [hq16, ← hy16] at hcx
            have hzi : (y16 : Int) + (x : Int) = (z : Int) := by omega
            have hzm : (z : Int) % 256 = (z : Int) := by omega
            have HO3 := Lib.hid (show (wr.setCell ⟨q, h2, none⟩ (.int .u8 (z : Int))).ownsRow w.heap.size 5 1 (.slice (some ⟨q, 0, none⟩) n c) n (vals (half_ s (k + 1))) by rw [half_down s k hp1, ← hd1e, ← HX.out, ← hh2]; exact hown3)
            have HP := Lib.hid hp1
            clear hp hp1 hh2 hd1e hz hlx hown3 hha hxq hq16 hy16
            go_wp2_with fail
            go_roundw
            case rel => exact ⟨k + 1, n, some ⟨q, 0, none⟩, c, by omega, by have := HN.out; have := HP.out; omega, by go_num, rfl, HG2, HO3, Lib.hid (hbk.setCell (by show w.heap.size ≤ q; exact hqb) _)⟩
            case measure => simp [intOf]; omega
        · by_cases g9 : 97 ≤ ch ∧ ch ≤ 102
          · have g1 : 48 ≤ (ch : Int) := by omega
            have g2 : ¬ (ch : Int) ≤ 57 := by omega
            have g3 : 97 ≤ (ch : Int) := by omega
            have g4 : (ch : Int) ≤ 102 := by omega
            obtain ⟨x, hx⟩ : ∃ x : Nat, x = ch - 87 := ⟨_, rfl⟩
            obtain ⟨x9, hx9⟩ : ∃ x : Nat, x = ch - 97 := ⟨_, rfl⟩
            have HX := Lib.hid (show x = dv (ats s k) by rw [← HCH.out, dv_let ch g9.1 g9.2, hx])
            have hxi : (ch : Int) - 97 = (x9 : Int) := by omega
            have hxi2 : (x9 : Int) + 10 = (x : Int) := by omega
            have hxb : x < 16 := by omega
            have hxm : (x : Int) % 256 = (x : Int) := by omega
            have hxm9 : (x9 : Int) % 256 = (x9 : Int) := by omega
            clear hx hx9
            have HG2 := Lib.hid (show ∀ j, j < k + 1 → dv (ats s j) < 16 from fun j hj => by
              by_cases e : j < k
              · exact HG.out j e
              · obtain rfl : j = k := by omega
                rw [← HX.out]; exact hxb)
            by_cases hp : k % 2 = 0
            · have hpe : ((k : Int) % 2 == 0) = true := by have : (k : Int) % 2 = 0 := by omega
                                                           simp [this]
              have HP := Lib.hid hp
              obtain ⟨z, hz⟩ : ∃ z : Nat, z = x * 16 := ⟨_, rfl⟩
              have hzi : (x : Int) * 16 = (z : Int) := by omega
              have hzm : (z : Int) % 256 = (z : Int) := by omega
              have HZ := Lib.hid (show (z : Int) = ((UInt8.ofNat (dv (ats s k) * 16)).toNat : Int) by rw [← HX.out, UInt8.toNat_ofNat_of_lt' (by simp [UInt8.size]; omega), hz])
              clear hp hz
              obtain ⟨yb, hyb⟩ : ∃ y : UInt8, y = UInt8.ofNat (dv (ats s k) * 16) := ⟨_, rfl⟩
              have HI1 := Lib.hid (HI.out.alloc (.cells #[.int .u8 (z : Int)] 5))
              have HV := Lib.hid (vals_one1 (z : Int) yb (by rw [hyb]; exact HZ.out) wr wr.heap.size rfl)
              have HYB := Lib.hid hyb
              clear hyb
              go_wp2_with (first | (at_builtin; refine wpList_append_own _ rfl _ _ 67 rfl w.heap.size 5 i0 (.int .u8 0) 1 1 Tryd.underlying67 hi hz0 hz1 hz2 rfl (by decide) _ _ _ rfl HI1.out ⟨wr.heap.size, 0, none⟩ 1 1 (vals [yb]) rfl rfl HV.out (vals_one _) ?d3 ?d4 ?d5 ?_))
              case d3 => unfold maxLen; omega
              case d4 => omega
              case d5 => first | omega | (simp; omega)
              intro v2 w2 hown2 hgrow2 _
              have hb2 : Below w.heap.size w w2 := (hbk.alloc hsz _).grown hgrow2 (by simp; omega) (fun q hq => (HI.out.lt q hq).1)
              have HO2 := Lib.hid (show w2.ownsRow w.heap.size 5 1 v2 (n + 1) (vals (half_ s (k + 1))) by rw [half_up s k HP.out, vals_append, ← HYB.out]; exact hown2)
              obtain ⟨a9, c9, hv9⟩ := own_form HO2.out
              subst hv9
              clear hown2 hgrow2 HI HI1 HV hx0 hv
              go_wp2_with fail
              go_roundw
              case rel => exact ⟨k + 1, n + 1, a9, c9, by omega, by have := HN.out; have := HP.out; omega, by go_num, rfl, HG2, HO2, Lib.hid hb2⟩
              case measure => simp [intOf]; omega
            · have hpe : ((k : Int) % 2 == 0) = false := by have : (k : Int) % 2 = 1 := by omega
                                                            simp [this]
              have hp1 : k % 2 = 1 := by omega
              obtain ⟨h2, hh2⟩ : ∃ z : Nat, z = k / 2 := ⟨_, rfl⟩
              have hhi : (k : Int) / 2 = (h2 : Int) := by omega
              have hhn : h2 < n := by have := HN.out; omega
              have hhn' : (h2 : Int) < (n : Int) := by omega
              have hd1 := HG.out (k - 1) (by omega)
              obtain ⟨d1, hd1e⟩ : ∃ d, d = dv (ats s (k - 1)) := ⟨_, rfl⟩
              rw [← hd1e] at hd1
              obtain ⟨z, hz⟩ : ∃ z : Nat, z = d1 * 16 + x := ⟨_, rfl⟩
              obtain ⟨q, xq, ha, hqb, hlx, hcx, hfx, hown3⟩ := own_put HI.out hhn (UInt8.ofNat (d1 * 16 + x)) (z : Int) (by rw [UInt8.toNat_ofNat_of_lt' (by simp [UInt8.size]; omega), hz])
              subst ha
              have hha := half_at s k hp1 (by rw [← hd1e]; exact hd1)
              rw [← hh2, ← hd1e, hlx] at hha
              have hxq : xq = UInt8.ofNat (d1 * 16) := Option.some.inj hha
              have hq16 : (xq.toNat : Int) = ((d1 * 16 : Nat) : Int) := by rw [hxq, UInt8.toNat_ofNat_of_lt' (by simp [UInt8.size]; omega)]
              obtain ⟨y16, hy16⟩ : ∃ y : Nat, y = d1 * 16 := ⟨_, rfl⟩
              rw [hq16, ← hy16] at hcx
              have hzi : (y16 : Int) + (x : Int) = (z : Int) := by omega
              have hzm : (z : Int) % 256 = (z : Int) := by omega
              have HO3 := Lib.hid (show (wr.setCell ⟨q, h2, none⟩ (.int .u8 (z : Int))).ownsRow w.heap.size 5 1 (.slice (some ⟨q, 0, none⟩) n c) n (vals (half_ s (k + 1))) by rw [half_down s k hp1, ← hd1e, ← HX.out, ← hh2]; exact hown3)
              have HP := Lib.hid hp1
              clear hp hp1 hh2 hd1e hz hlx hown3 hha hxq hq16 hy16
              go_wp2_with fail
              go_roundw
              case rel => exact ⟨k + 1, n, some ⟨q, 0, none⟩, c, by omega, by have := HN.out; have := HP.out; omega, by go_num, rfl, HG2, HO3, Lib.hid (hbk.setCell (by show w.heap.size ≤ q; exact hqb) _)⟩
              case measure => simp [intOf]; omega
          · have HNO := Lib.hid (show ¬ okHex s from fun h => dv_no ch g0 g9 (by have h2 := ((okHex_iff s).1 h).2 k (by omega); rw [← HCH.out] at h2; exact h2))
            by_cases g1 : 48 ≤ (ch : Int)
            · have g2 : ¬ (ch : Int) ≤ 57 := by omega
              by_cases g3 : 97 ≤ (ch : Int)
              · have g4 : ¬ (ch : Int) ≤ 102 := by omega
                go_wp2
                go_ret2
                exact ⟨fun h => absurd h HNO.out, fun _ => rfl, hbk⟩
              · go_wp2
                go_ret2
                exact ⟨fun h => absurd h HNO.out, fun _ => rfl, hbk⟩
            · have g3 : ¬ 97 ≤ (ch : Int) := by omega
              go_wp2
              go_ret2
              exact ⟨fun h => absurd h HNO.out, fun _ => rfl, hbk⟩
      · have hge : ¬ (k : Int) < L := by omega
        have HKL := Lib.hid (show k = L by omega)
        go_wp2
        go_ret2
        have ho := HI.out
        rw [HKL.out, half_even s L HEV.out, HN.out, HKL.out, show (L + 1) / 2 = L / 2 by have := HEV.out; omega] at ho
        exact ⟨fun _ => ⟨_, rfl, by have e : n = L / 2 := by have := HN.out; have := HKL.out; have := HEV.out; omega
                                    rw [e]; exact ho⟩, fun h => absurd ((okHex_iff s).2 ⟨by rw [hL]; exact HEV.out, fun j hj => HG.out j (by rw [HKL.out]; omega)⟩) h, hbk⟩
  · have hm : ((L : Int) % 2 == 1) = true := by have : (L : Int) % 2 = 1 := by omega
                                                simp [this]
    have HNO := Lib.hid (show ¬ okHex s from fun h => hev (by rw [← hL]; exact h.1))
    clear hev
    go_enter Tryd.func46, Tryd.ntmps46
    go_wp2
    go_ret2
    exact ⟨fun h => absurd h HNO.out, fun _ => rfl, Below.refl _ _⟩

end Go.Proofs.YtpinpkhalccjhaaDoor.Se
