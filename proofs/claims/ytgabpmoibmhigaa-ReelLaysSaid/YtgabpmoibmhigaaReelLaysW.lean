/- The walk of ReelLays: whatever the input it returns true, and nothing that was there is written. -/
import Derived.Test.YtgabpmoibmhigaaRlf
import Derived.Test.YtgabpmoibmhigaaLs
import Derived.Laws.BitsAllLaws
import Derived.Deep.RegionHeld3
import Derived.StillTailTactics
import Derived.Deep.DeepCutAuto
namespace Go.Proofs.Ytgabpmoibmhigaa.reelLaysW
open Go.RowKit Go.Proofs.Ytgabpmoibmhigaa Go.Proofs.Ytgabpmoibmhigaa.Re Go.Proofs.Ytgabpmoibmhigaa.Rp Go.Proofs.Ytgabpmoibmhigaa.Ls
set_option linter.unusedVariables false

set_option maxHeartbeats 8000000 in
set_option maxRecDepth 100000 in
theorem walk (a0 : Option Addr) (len0 cap0 : Nat) (L : Nat → It) (a1 : Option Addr) (len1 cap1 : Nat) (zs : List Int) (w : World) (hI : Items w a0 L len0) (hl0 : len0 ≤ 140737488355328) (hz : IsRow .i64 w a1 len1 zs) :
    Calls Try.prog 3 #[.slice a0 len0 cap0, .slice a1 len1 cap1] w fun e w' => e = .returned (.bool true) ∧ Below w.heap.size w w' := by
  have HI := Lib.hid hI
  have HZ := Lib.hid hz
  clear hI hz
  go_enter Try.func3, Try.ntmps3
  go_wp2_with fail
  refine (fits_any a0 len0 cap0 L _ HI.out hl0).mono ?_
  rintro e w1 ⟨⟨r, rfl, hr⟩, b1⟩
  cases r
  case false =>
    go_wp2_with fail
    refine (awake_any _).mono ?_
    rintro e w2 ⟨rfl, hb2⟩
    have b2 := b1.trans (hb2.mono b1.size)
    go_wp2_with fail
    go_ret
    exact ⟨rfl, b2⟩
  case true =>
    obtain ⟨hr1, hr2⟩ := hr rfl
    have HR := Lib.hid (show ∀ k, k < len0 → ItOk (L k) ∧ (L k).p.length ≤ 3000 from fun k hk => by
      obtain ⟨b, off, -, -, h1, -, h3⟩ := HI.out.at hk
      exact ⟨h1, by have := bs_len h3; have := hr2 k hk; omega⟩)
    clear hr hr2
    go_wp2_with fail
    refine (new_any _).mono ?_
    rintro e w2 ⟨rfl, hw2⟩
    have b2 : Below w.heap.size w w2 := by rw [hw2]; exact b1.alloc b1.size _
    obtain ⟨g, hg⟩ : ∃ g, g = w1.heap.size := ⟨_, rfl⟩
    have hgw : w.heap.size ≤ g := by rw [hg]; exact b1.size
    have HP := Lib.hid (show Pair w.heap.size g [] [] (.slice none 0 0) w2 from by
      rw [hw2, hg]; exact Pair.start _ _ b1.size)
    rw [← hg]
    clear hw2 hg b1
    go_wp2_with fail
    go_loopw [6, 23] (fun v i wr => ∃ k : Nat, k ≤ len0 ∧ i = .int .i64 k ∧ (∃ a n c, v = .slice a n c) ∧ Hid (Pair w.heap.size g (encs L k) (encs L k) v wr) ∧ Below w.heap.size w wr) (fun _ i _ => len0 - (intOf i).toNat)
    case atStart => exact ⟨0, Nat.zero_le _, rfl, ⟨none, 0, 0, rfl⟩, HP, b2⟩
    case round =>
      obtain ⟨k, hk, rfl, ⟨va, vn, vc, rfl⟩, HI2, hbk⟩ := hrel
      by_cases hlt : k < len0
      · have hlt' : (k : Int) < len0 := by omega
        obtain ⟨b, off, rfl, hblt, hok, hra, hbs⟩ := (HI.out.on hbk).at hlt
        obtain ⟨-, -, -, -, -, -, hbs0⟩ := HI.out.at hlt
        have HSS := Lib.hid (fun (ad : Addr) (h1 : (L k).a = some ad) (h2 : (L k).p ≠ []) => bs_block_lt hbs0 h1 h2)
        obtain ⟨x, hx⟩ : ∃ x, x = L k := ⟨_, rfl⟩
        have hp := (HR.out k hlt).2
        have hencl := encs_length HR.out k (by omega)
        rw [← hx] at hok hra hbs HSS hp
        obtain ⟨cs, hcs⟩ : ∃ cs, cs = x.cells := ⟨_, rfl⟩
        have HSZ := Lib.hid (size_item hok)
        have HSZ2 := Lib.hid (size_item2 hok)
        have HAL := Lib.hid x.all
        have HZZ := Lib.hid (z39_size hok)
        rw [← hcs] at hra HSZ HSZ2 HAL HZZ
        have HRA := Lib.hid hra
        have HX := Lib.hid hx
        have HCS := Lib.hid hcs
        have HOK := Lib.hid hok
        have HBS := Lib.hid hbs
        have HPL := Lib.hid hp
        have HEL := Lib.hid (show (encs L k).length ≤ 1000000 by omega)
        clear hra hbs hbs0 hcs hx hok hp hencl
        have hsz := hbk.size
        -- the value, in a block of its own
        obtain ⟨wq, hwq⟩ : ∃ wq, wq = wr.alloc (.cells cs.toArray 33) := ⟨_, rfl⟩
        have HQ := Lib.hid (show wq.heap[wr.heap.size]? = some (.cells cs.toArray 33) by rw [hwq]; exact heap_alloc_last wr _)
        have HW1 := Lib.hid (show WAt g (fun j => SV w.heap.size (.slice va vn vc) j ∨ j = wr.heap.size) (encs L k) wq by rw [hwq]; exact HI2.out.wat.push _)
        have HP1 := Lib.hid (show Pair w.heap.size g (encs L k) (encs L k) (.slice va vn vc) wq by rw [hwq]; exact HI2.out.on (below_n1 _ _))
        have HBS1 := Lib.hid (show Bs wq (.slice x.a x.plen x.pcap) x.p by rw [hwq]; exact HBS.out.on (below_n1 _ _))
        have hbq : Below w.heap.size w wq := by rw [hwq]; exact hbk.alloc hsz _
        go_wp2_with (first | (with_reducible refine wpList_load_mid rfl 33 (.tmp 25) rfl b (off + k * 39) rfl cs _ HRA.out Try.underlying33 rfl HSZ.out ?_) | (with_reducible refine wpList_store_new rfl 33 (.tmp 8) (.tmp 26) rfl wr Z39 cs.toArray wr.heap.size rfl rfl rfl HSZ2.out HZZ.out HAL.out ?_; rw [← hwq]; clear hwq) | (with_reducible refine wpList_load_row rfl 33 (.tmp 8) rfl wr.heap.size rfl 33 cs.toArray (0, 0) _ HQ.out Try.underlying33 rfl HSZ2.out ?_))
        have HC := lay_any g _ (encs L k) x HOK.out _ HW1.out HBS1.out (fun ad h1 h2 => .inl (.inl (HSS.out ad h1 h2))) HPL.out HEL.out
        rw [← HCS.out] at HC
        refine HC.mono ?_
        clear HC
        rintro e w4 ⟨rfl, hw4, ha4⟩
        have hb4 : Below w.heap.size w w4 := hbq.trans (ha4.below (fun j hj => .inl (.inl hj)) hbq.size)
        have HP2 := Lib.hid (HP1.out.laid1 (hw4.weak fun j h => .inl h) (ha4.weak fun j h => .inl h))
        have HQ2 := Lib.hid ((ha4.block _ (.inr rfl) (lt_of_heap HQ.out)).trans HQ.out)
        have HBS2 := Lib.hid (HBS1.out.aw ha4 (fun ad _ _ h1 h2 => .inl (.inl (HSS.out ad (by simp at h1; exact h1.1) h2))))
        clear hw4 ha4 HW1 HP1 HBS1 HQ
        go_wp2_with (first | (with_reducible refine wpList_load_row rfl 33 (.tmp 8) rfl wr.heap.size rfl 33 cs.toArray (0, 0) _ HQ2.out Try.underlying33 rfl HSZ2.out ?_))
        have HD := laid_any (SU w.heap.size g w4) (encs L k) x HOK.out (.slice va vn vc) w4 HP2.out.su_lt HP2.out.own HBS2.out HPL.out HEL.out
        rw [← HCS.out] at HD
        refine HD.mono ?_
        clear HD
        rintro e w5 ⟨⟨v', rfl, ho5⟩, ha5⟩
        have hb5 : Below w.heap.size w w5 := hb4.trans (ha5.below (fun j hj => .inl hj) hb4.size)
        have HP3 := Lib.hid (show Pair w.heap.size g (encs L (k + 1)) (encs L (k + 1)) v' w5 by
          have h := HP2.out.laid2 ho5 ha5
          rw [HX.out] at h
          exact h)
        obtain ⟨a9, n9, c9, hv9⟩ := own_form3 ho5.1
        subst hv9
        clear ho5 ha5 HP2 HQ2 HBS2
        go_wp2_with fail
        go_roundw
        case rel => exact ⟨k + 1, by omega, by go_num, ⟨_, _, _, rfl⟩, HP3, hb5⟩
        case measure => simp [intOf]; omega
      · obtain rfl : k = len0 := by omega
        obtain ⟨lw, hlw⟩ : ∃ lw, lw = encs L k := ⟨_, rfl⟩
        have HLW := Lib.hid (show lw.length ≤ 1000000 by rw [hlw]; have := encs_length HR.out k (by omega); omega)
        rw [← hlw] at HI2
        clear hlw HI HR
        go_wp2_with fail
        refine (bytes_any g _ lw _ HI2.out.wat (by have := HLW.out; omega)).mono ?_
        rintro e w3 ⟨⟨ba, bn, bc, rfl, hob⟩, hb3⟩
        have hs3 := hb3.size
        have hbw3 : Below w.heap.size w w3 := hbk.trans (hb3.mono hbk.size)
        have HP3 := Lib.hid (HI2.out.on hb3)
        have hcb := conv_bs (own_bs hob)
        have hcv := conv_bs (own_bs HP3.out.2.2.2.1)
        have HSC := Lib.hid (own_scr hob)
        have HOB := Lib.hid hob
        obtain ⟨B, hB⟩ : ∃ B, B = wr.heap.size := ⟨_, rfl⟩
        have hwB : w.heap.size ≤ B := by rw [hB]; exact hbk.size
        have hbn : bn ≤ 1000000 := by have := own_len HOB.out; have := HLW.out; omega
        have HPX := Lib.hid (fun (wx : World) (hb : Below B w3 wx) => (HI2.out.on (hb3.trans (by rw [← hB]; exact hb)) : Pair w.heap.size g lw lw (.slice va vn vc) wx))
        rw [← hB] at HSC hs3
        clear hob hB
        go_wp2_with fail
        go_loopw [43] (fun i wx => ∃ j : Nat, j ≤ bn ∧ i = .int .i64 j ∧ Hid (Scr B ba bn wx) ∧ Below B w3 wx) (fun i _ => bn - (intOf i).toNat)
        case atStart => exact ⟨0, Nat.zero_le _, rfl, HSC, Below.refl _ _⟩
        case round =>
          obtain ⟨j, hj, rfl, HS, hbx⟩ := hrel
          by_cases hlt : j < bn
          · have hlt' : (j : Int) < bn := by omega
            obtain h0 | ⟨q, rfl, hBq, hcs, hfs⟩ := HS.out
            · omega
            obtain ⟨z, hz⟩ := hcs j hlt
            have hf := hfs j
            have HPT := Lib.hid (fun x => Scr.put (c := 0) HS.out j hlt x)
            clear hcs hfs
            go_wp2_with fail
            go_roundw
            case rel => exact ⟨j + 1, by omega, by go_num, Lib.hid (HPT.out _), hbx.setCell hBq _⟩
            case measure => simp [intOf]; omega
          · obtain rfl : j = bn := by omega
            have hbX : Below w.heap.size w wr := hbw3.trans (hbx.mono hwB)
            have HPR := Lib.hid (HPX.out wr hbx)
            clear hcb hcv HSC HPX HOB HS hb3 HP3
            go_wp2_with fail
            refine (new_any _).mono ?_
            rintro e w5 ⟨rfl, hw5⟩
            go_wp2_with fail
            refine (new_any _).mono ?_
            rintro e w6 ⟨rfl, hw6⟩
            have HT := Lib.hid (two_new wr)
            have hb6 : Below wr.heap.size wr w6 := by rw [hw6]; exact below_n2 _ _ _
            have hg2 : (wr.alloc (.cells #[.slice none 0 0] 74)).heap.size = wr.heap.size + 1 := by simp
            have hs6 : w6.heap.size = wr.heap.size + 2 := by rw [hw6]; simp
            rw [hg2]
            have HB6 := Lib.hid (HPR.out.both hb6 (by omega))
            have HT6 := Lib.hid (show (w6.cell? ⟨wr.heap.size, 0, none⟩ = some (.slice none 0 0) ∧ ∀ j, w6.frozen? ⟨wr.heap.size, j, none⟩ = false) ∧ (w6.cell? ⟨wr.heap.size + 1, 0, none⟩ = some (.slice none 0 0) ∧ ∀ j, w6.frozen? ⟨wr.heap.size + 1, j, none⟩ = false) by rw [hw6]; exact ⟨HT.out.1, HT.out.2.1⟩)
            have hbX6 : Below w.heap.size w w6 := hbX.trans (hb6.mono hbX.size)
            have hwr := hbX.size
            obtain ⟨G, hG⟩ : ∃ G, G = wr.heap.size := ⟨_, rfl⟩
            rw [← hG] at HB6 HT6 hs6 hwr ⊢
            have HS6 := Lib.hid hs6
            clear hw5 hw6 HT hb6 hg2 HPR hG hbX hs6
            obtain ⟨ns, hns, hnl, hrow⟩ := row_list HZ.out
            have HROW := Lib.hid (show ∀ (S : Nat → Prop) (wx : World), (∀ k, k < w.heap.size → S k) → Below w.heap.size w wx → Ints S wx a1 ns from fun S wx hS hbx => by
              rcases hrow with h | ⟨b, off, h, hb, hc⟩
              · exact .inl h
              · exact .inr ⟨b, off, h, fun w' ha j hj => (ha.cell (p := ⟨b, off + j, none⟩) (hS b hb) (Nat.lt_of_lt_of_le hb hbx.size)).trans ((hbx.cell (p := ⟨b, off + j, none⟩) hb).trans (hc j hj))⟩)
            have h6 := hbX6.size
            have HH := half_any G (fun k => k < w6.heap.size ∧ k ≠ G) [] a1 cap1 ns w6 (wat_nil (by have := HS6.out; omega) (Nat.le_refl _) HT6.out.1.1 HT6.out.1.2) (HROW.out _ _ (fun k hk => ⟨by omega, by omega⟩) hbX6) (by omega) (by simp; omega)
            rw [hns, List.nil_append] at HH
            have HNS := Lib.hid hns
            clear hrow hns
            go_wp2_with fail
            refine HH.mono ?_
            clear HH
            rintro e w7 ⟨rfl, hw7, ha7⟩
            have h7 := ha7.size
            have hs6 := HS6.out
            have HB7 := Lib.hid (And.intro (HB6.out.1.keep ha7 (fun k hk hn => ⟨hk, hn⟩) (.inl rfl)) (HB6.out.2.keep ha7 (fun k hk hn => ⟨hk, hn⟩) (.inl rfl)))
            have hbX7 : Below w.heap.size w w7 := hbX6.trans (ha7.below (fun k hk => ⟨by omega, by omega⟩) hbX6.size)
            have HU7 := Lib.hid hw7
            have HV7 := Lib.hid (wat_nil (g := G + 1) (N := w7.heap.size) (w := w7) (by omega) (Nat.le_refl _) ((ha7.cell (p := ⟨G + 1, 0, none⟩) ⟨by show G + 1 < _; omega, by show G + 1 ≠ _; omega⟩ (by show G + 1 < _; omega)).trans HT6.out.2.1) (fun j => (ha7.frozen (p := ⟨G + 1, j, none⟩) ⟨by show G + 1 < _; omega, by show G + 1 ≠ _; omega⟩ (by show G + 1 < _; omega)).trans (HT6.out.2.2 j)))
            have hG7 : G + 2 ≤ w7.heap.size := by omega
            have hGw6 : G + 1 < w6.heap.size := by omega
            have HSU := Lib.hid hGw6
            clear hw7 ha7 HB6 HT6 hs6 hGw6
            go_wp2_with fail
            go_loopw [60] (fun i wx => ∃ j : Nat, j ≤ len1 ∧ i = .int .i64 j ∧ Hid (WAt (G + 1) (fun k => k < w7.heap.size ∧ k ≠ G + 1) (numsOf 2 (ns.take j)) wx) ∧ Hid (Aw (fun k => k < w7.heap.size ∧ k ≠ G + 1) w7 wx)) (fun i _ => len1 - (intOf i).toNat)
            case atStart => exact ⟨0, Nat.zero_le _, rfl, Lib.hid (by rw [List.take_zero, numsOf_nil]; exact HV7.out), Lib.hid (Aw.refl _ _)⟩
            case round =>
              obtain ⟨j, hj, rfl, HV, HA⟩ := hrel
              have hbXx : Below w.heap.size w _ := hbX7.trans (HA.out.below (fun k hk => ⟨by have := hbX7.size; omega, by omega⟩) hbX7.size)
              by_cases hlt : j < len1
              · have hlt' : (j : Int) < len1 := by omega
                have hjn : j < ns.length := by have := HNS.out; omega
                obtain ⟨S0, hS0⟩ : ∃ S0 : Nat → Prop, S0 = fun k => k < w.heap.size := ⟨_, rfl⟩
                obtain h' | ⟨b, off, rfl, hc⟩ := HROW.out (fun k => k < w.heap.size) _ (fun k hk => hk) hbXx
                · exfalso; rw [h'] at hjn; simp at hjn
                have hck := hc _ (Aw.refl _ _) j hjn
                obtain ⟨z, hz⟩ : ∃ z, z = ns.getD j 0 := ⟨_, rfl⟩
                rw [← hz] at hck
                have HZZ := Lib.hid hz
                have HJN := Lib.hid hjn
                have hlen2 : (numsOf 2 (ns.take j)).length + 16 ≤ 140737488355328 := by rw [numsOf_length, List.length_take]; omega
                have HL2 := Lib.hid hlen2
                clear hc hz hjn hlen2 hS0
                go_wp2_with fail
                refine (half_one (G + 1) _ _ _ 1 z _ (HV.out.push _) (Ints.one _ _) HL2.out).mono ?_
                rintro e w8 ⟨rfl, hw8, ha8⟩
                have HV2 := Lib.hid (show WAt (G + 1) (fun k => k < w7.heap.size ∧ k ≠ G + 1) (numsOf 2 (ns.take (j + 1))) w8 by
                  rw [take_snoc ns j HJN.out, numsOf_snoc, ← HZZ.out]; exact hw8.weak fun k hk => .inl hk)
                have HA2 := Lib.hid ((HA.out.alloc _).trans (ha8.weak fun k hk => .inl hk))
                clear hw8 ha8 hck
                go_wp2_with fail
                go_roundw
                case rel => exact ⟨j + 1, by omega, by go_num, HV2, HA2⟩
                case measure => simp [intOf]; omega
              · obtain rfl : j = len1 := by omega
                go_upto_region 25 with fail
                have HV3 := Lib.hid (show WAt (G + 1) (fun k => k < w7.heap.size ∧ k ≠ G + 1) (numsOf 2 ns) _ by have h := HV.out; rw [List.take_of_length_le (by have := HNS.out; omega)] at h; exact h)
                have HU3 := Lib.hid (HU7.out.keep HA.out (fun k hk hn => ⟨hk, hn⟩) ⟨HSU.out, by omega⟩)
                have HW3 := Lib.hid (HB7.out.1.keep HA.out (fun k hk hn => ⟨hk, hn⟩) (.inr rfl))
                have HO3 := Lib.hid (HB7.out.2.keep HA.out (fun k hk hn => ⟨hk, hn⟩) (.inr rfl))
                have HNL := Lib.hid (show (numsOf 2 ns).length ≤ 140737488355328 by rw [numsOf_length]; have := HNS.out; omega)
                obtain ⟨ln, hln⟩ : ∃ ln, ln = numsOf 2 ns := ⟨_, rfl⟩
                rw [← hln] at HV3 HU3 HNL
                clear HV HA HU7 HB7 HV7 hln HI2 HZ HROW HNS hbx hbk HP hlt hj
                obtain ⟨wX, hwX⟩ : ∃ wX, wX = wr := ⟨_, rfl⟩
                rw [← hwX] at HW3 HO3 HU3 HV3 hbXx ⊢
                clear hwX
                have HWB := Lib.hid (fun (wx : World) (hb : Below wX.heap.size wX wx) => bytes_any g _ lw wx (HW3.out.on hb) (by have := HLW.out; omega))
                have HUB := Lib.hid (fun (wx : World) (hb : Below wX.heap.size wX wx) => bytes_any G _ ln wx (HU3.out.on hb) HNL.out)
                have HVB := Lib.hid (fun (wx : World) (hb : Below wX.heap.size wX wx) => bytes_any (G + 1) _ ln wx (HV3.out.on hb) HNL.out)
                have hcw : ∀ wx : World, Below wX.heap.size wX wx → (convert 28 9 (.slice va vn vc)).run Try.prog wx = .ok (.string ⟨lw.toArray⟩) wx := fun wx hb => conv_bs ((own_bs HO3.out.1).on hb)
                have hX := hbXx.size
                refine wp_region_held_drew (S := fun w' => Below wX.heap.size wX w') (by kernel_rfl) ((Below.refl _ _).drew) (fun hS0 => ?_)
                refine wpAnyH_ready (rs := [0]) (by kernel_rfl) (by simp) ?_
                refine AllReadyH.cons rfl (fun K hK => ?_) (AllReadyH.nil)
                go_simp
                go_wp2_with (go_at_call 8; refine (awake_any _).mono ?_; rintro e y1 ⟨rfl, hy1⟩)
                have hS1 : Below wX.heap.size wX y1 := hS0.trans (hy1.mono (by simp))
                refine hK.out _ _ hS1 (fun _ => ?_)
                clear hK K
                refine wpAnyH_take (i := 1) (v := ?_) rfl (by kernel_rfl) (by kernel_rfl) (by kernel_rfl) (fun _ _ _ h => h) (Or.inl ⟨by kernel_rfl, by (intro wz hSz; go_simp; try with_reducible rfl)⟩) hS1 ?_
                go_simp
                refine wpAnyH_take (i := 2) (v := ?_) rfl (by kernel_rfl) (by kernel_rfl) (by kernel_rfl) (fun _ _ _ h => h) (Or.inl ⟨by kernel_rfl, by (intro wz hSz; go_simp; try with_reducible rfl)⟩) hS1 ?_
                go_simp
                refine wpAnyH_take (i := 3) (v := ?_) rfl (by kernel_rfl) (by kernel_rfl) (by kernel_rfl) (fun _ _ _ h => h) (Or.inl ⟨by kernel_rfl, by (intro wz hSz; go_simp; try with_reducible rfl)⟩) hS1 ?_
                go_simp
                refine wpAnyH_take (i := 4) (v := ?_) rfl (by kernel_rfl) (by kernel_rfl) (by kernel_rfl) (fun _ _ _ h => h) (Or.inl ⟨by kernel_rfl, by (intro wz hSz; go_simp; try with_reducible rfl)⟩) hS1 ?_
                go_simp
                refine wpAnyH_take (i := 5) (v := ?_) rfl (by kernel_rfl) (by kernel_rfl) (by kernel_rfl) (fun _ _ _ h => h) (Or.inl ⟨by kernel_rfl, by (intro wz hSz; go_simp; try with_reducible rfl)⟩) hS1 ?_
                go_simp
                refine wpAnyH_take (i := 8) (v := ?_) rfl (by kernel_rfl) (by kernel_rfl) (by kernel_rfl) (fun _ _ _ h => h) (Or.inl ⟨by kernel_rfl, by (intro wz hSz; go_simp; try with_reducible rfl)⟩) hS1 ?_
                go_simp
                refine wpAnyH_take (i := 9) (v := ?_) rfl (by kernel_rfl) (by kernel_rfl) (by kernel_rfl) (fun _ _ _ h => h) (Or.inl ⟨by kernel_rfl, by (intro wz hSz; have hcz := hcw wz hSz; go_simp; try with_reducible rfl)⟩) hS1 ?_
                go_simp
                refine wpAnyH_ready (rs := [6]) (by kernel_rfl) (by simp) ?_
                refine AllReadyH.cons rfl (fun K hK => ?_) (AllReadyH.nil)
                go_simp
                go_wp2_with (go_at_call 12; refine (HWB.out _ hS1).mono ?_; rintro e y2 ⟨⟨ya, yn, yc, rfl, ho2⟩, hy2⟩)
                have hS2 : Below wX.heap.size wX y2 := hS1.trans (hy2.mono hS1.size)
                have hc2 := conv_bs (own_bs ho2)
                refine hK.out _ _ hS2 (fun _ => ?_)
                clear hK K
                refine wpAnyH_ready (rs := [7]) (by kernel_rfl) (by simp) ?_
                refine AllReadyH.cons rfl (fun K hK => ?_) (AllReadyH.nil)
                go_simp
                refine hK.out _ _ hS2 (fun _ => ?_)
                clear hK K
                refine wpAnyH_take (i := 10) (v := ?_) rfl (by kernel_rfl) (by kernel_rfl) (by kernel_rfl) (fun _ _ _ h => h) (Or.inl ⟨by kernel_rfl, by (intro wz hSz; go_simp; try with_reducible rfl)⟩) hS2 ?_
                go_simp
                refine wpAnyH_take (i := 11) (v := ?_) rfl (by kernel_rfl) (by kernel_rfl) (by kernel_rfl) (fun _ _ _ h => h) (Or.inl ⟨by kernel_rfl, by (intro wz hSz; go_simp; try with_reducible rfl)⟩) hS2 ?_
                go_simp
                refine wpAnyH_take (i := 12) (v := ?_) rfl (by kernel_rfl) (by kernel_rfl) (by kernel_rfl) (fun _ _ _ h => h) (Or.inl ⟨by kernel_rfl, by (intro wz hSz; go_simp; try with_reducible rfl)⟩) hS2 ?_
                go_simp
                refine wpAnyH_take (i := 13) (v := ?_) rfl (by kernel_rfl) (by kernel_rfl) (by kernel_rfl) (fun _ _ _ h => h) (Or.inl ⟨by kernel_rfl, by (intro wz hSz; go_simp; try with_reducible rfl)⟩) hS2 ?_
                go_simp
                refine wpAnyH_take (i := 16) (v := ?_) rfl (by kernel_rfl) (by kernel_rfl) (by kernel_rfl) (fun _ _ _ h => h) (Or.inl ⟨by kernel_rfl, by (intro wz hSz; go_simp; try with_reducible rfl)⟩) hS2 ?_
                go_simp
                refine wpAnyH_ready (rs := [14]) (by kernel_rfl) (by simp) ?_
                refine AllReadyH.cons rfl (fun K hK => ?_) (AllReadyH.nil)
                go_simp
                go_wp2_with (go_at_call 12; refine (HUB.out _ hS2).mono ?_; rintro e y3 ⟨⟨za, zn, zc, rfl, ho3⟩, hy3⟩)
                have hS3 : Below wX.heap.size wX y3 := hS2.trans (hy3.mono hS2.size)
                have hc3 := conv_bs (own_bs ho3)
                refine hK.out _ _ hS3 (fun _ => ?_)
                clear hK K
                refine wpAnyH_ready (rs := [15, 17]) (by kernel_rfl) (by simp) ?_
                refine AllReadyH.cons rfl (fun K hK => ?_) (AllReadyH.cons rfl (fun K hK => ?_) (AllReadyH.nil))
                · skip
                  go_simp
                  refine hK.out _ _ hS3 (fun _ => ?_)
                  clear hK K
                  refine wpAnyH_ready (rs := [17]) (by kernel_rfl) (by simp) ?_
                  refine AllReadyH.cons rfl (fun K hK => ?_) (AllReadyH.nil)
                  go_simp
                  go_wp2_with (go_at_call 12; refine (HVB.out _ hS3).mono ?_; rintro e y4 ⟨⟨ta, tn, tc, rfl, ho4⟩, hy4⟩)
                  have hS4 : Below wX.heap.size wX y4 := hS3.trans (hy4.mono hS3.size)
                  have hc4 := conv_bs (own_bs ho4)
                  have hc5 := conv_bs ((own_bs ho3).on hy4)
                  refine hK.out _ _ hS4 (fun _ => ?_)
                  clear hK K
                  refine wpAnyH_ready (rs := [18]) (by kernel_rfl) (by simp) ?_
                  refine AllReadyH.cons rfl (fun K hK => ?_) (AllReadyH.nil)
                  go_simp
                  refine hK.out _ _ hS4 (fun _ => ?_)
                  clear hK K
                  refine wpAnyH_take (i := 19) (v := ?_) rfl (by kernel_rfl) (by kernel_rfl) (by kernel_rfl) (fun _ _ _ h => h) (Or.inl ⟨by kernel_rfl, by (intro wz hSz; go_simp; try with_reducible rfl)⟩) hS4 ?_
                  go_simp
                  refine wpAnyH_take (i := 20) (v := ?_) rfl (by kernel_rfl) (by kernel_rfl) (by kernel_rfl) (fun _ _ _ h => h) (Or.inl ⟨by kernel_rfl, by (intro wz hSz; go_simp; try with_reducible rfl)⟩) hS4 ?_
                  go_simp
                  refine wpAnyH_take (i := 21) (v := ?_) rfl (by kernel_rfl) (by kernel_rfl) (by kernel_rfl) (fun _ _ _ h => h) (Or.inl ⟨by kernel_rfl, by (intro wz hSz; go_simp; try with_reducible rfl)⟩) hS4 ?_
                  go_simp
                  refine wpAnyH_done (by kernel_rfl) ?_ _
                  go_wp2
                  go_ret
                  exact ⟨rfl, hbXx.trans (hS4.mono hX)⟩
                · skip
                  go_simp
                  go_wp2_with (go_at_call 12; refine (HVB.out _ hS3).mono ?_; rintro e y4 ⟨⟨ta, tn, tc, rfl, ho4⟩, hy4⟩)
                  have hS4 : Below wX.heap.size wX y4 := hS3.trans (hy4.mono hS3.size)
                  have hc4 := conv_bs (own_bs ho4)
                  have hc5 := conv_bs ((own_bs ho3).on hy4)
                  refine hK.out _ _ hS4 (fun _ => ?_)
                  clear hK K
                  refine wpAnyH_ready (rs := [15, 18]) (by kernel_rfl) (by simp) ?_
                  refine AllReadyH.cons rfl (fun K hK => ?_) (AllReadyH.cons rfl (fun K hK => ?_) (AllReadyH.nil))
                  · skip
                    go_simp
                    refine hK.out _ _ hS4 (fun _ => ?_)
                    clear hK K
                    refine wpAnyH_ready (rs := [18]) (by kernel_rfl) (by simp) ?_
                    refine AllReadyH.cons rfl (fun K hK => ?_) (AllReadyH.nil)
                    go_simp
                    refine hK.out _ _ hS4 (fun _ => ?_)
                    clear hK K
                    refine wpAnyH_take (i := 19) (v := ?_) rfl (by kernel_rfl) (by kernel_rfl) (by kernel_rfl) (fun _ _ _ h => h) (Or.inl ⟨by kernel_rfl, by (intro wz hSz; go_simp; try with_reducible rfl)⟩) hS4 ?_
                    go_simp
                    refine wpAnyH_take (i := 20) (v := ?_) rfl (by kernel_rfl) (by kernel_rfl) (by kernel_rfl) (fun _ _ _ h => h) (Or.inl ⟨by kernel_rfl, by (intro wz hSz; go_simp; try with_reducible rfl)⟩) hS4 ?_
                    go_simp
                    refine wpAnyH_take (i := 21) (v := ?_) rfl (by kernel_rfl) (by kernel_rfl) (by kernel_rfl) (fun _ _ _ h => h) (Or.inl ⟨by kernel_rfl, by (intro wz hSz; go_simp; try with_reducible rfl)⟩) hS4 ?_
                    go_simp
                    refine wpAnyH_done (by kernel_rfl) ?_ _
                    go_wp2
                    go_ret
                    exact ⟨rfl, hbXx.trans (hS4.mono hX)⟩
                  · skip
                    go_simp
                    refine hK.out _ _ hS4 (fun _ => ?_)
                    clear hK K
                    refine wpAnyH_ready (rs := [15]) (by kernel_rfl) (by simp) ?_
                    refine AllReadyH.cons rfl (fun K hK => ?_) (AllReadyH.nil)
                    go_simp
                    refine hK.out _ _ hS4 (fun _ => ?_)
                    clear hK K
                    refine wpAnyH_take (i := 19) (v := ?_) rfl (by kernel_rfl) (by kernel_rfl) (by kernel_rfl) (fun _ _ _ h => h) (Or.inl ⟨by kernel_rfl, by (intro wz hSz; go_simp; try with_reducible rfl)⟩) hS4 ?_
                    go_simp
                    refine wpAnyH_take (i := 20) (v := ?_) rfl (by kernel_rfl) (by kernel_rfl) (by kernel_rfl) (fun _ _ _ h => h) (Or.inl ⟨by kernel_rfl, by (intro wz hSz; go_simp; try with_reducible rfl)⟩) hS4 ?_
                    go_simp
                    refine wpAnyH_take (i := 21) (v := ?_) rfl (by kernel_rfl) (by kernel_rfl) (by kernel_rfl) (fun _ _ _ h => h) (Or.inl ⟨by kernel_rfl, by (intro wz hSz; go_simp; try with_reducible rfl)⟩) hS4 ?_
                    go_simp
                    refine wpAnyH_done (by kernel_rfl) ?_ _
                    go_wp2
                    go_ret
                    exact ⟨rfl, hbXx.trans (hS4.mono hX)⟩
end Go.Proofs.Ytgabpmoibmhigaa.reelLaysW
