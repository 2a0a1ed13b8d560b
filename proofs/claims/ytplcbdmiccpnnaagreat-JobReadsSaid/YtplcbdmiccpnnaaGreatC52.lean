/- JobReads: the walk through the law. -/
import Derived.Test.YtplcbdmiccpnnaaGreatC47
import Derived.Test.YtplcbdmiccpnnaaGreatC45
import Derived.Test.YtplcbdmiccpnnaaGreatC49
import Derived.Test.YtplcbdmiccpnnaaGreatC50
import Derived.Test.YtplcbdmiccpnnaaGreatC51
import Derived.Test.YtplcbdmiccpnnaaGreatC23
import Derived.Test.YtplcbdmiccpnnaaGreatC09
namespace Go.Proofs.YtplcbdmiccpnnaaGreat.Jd
open Go Go.RowKit Go.Proofs.YtplcbdmiccpnnaaGreat Go.Proofs.YtplcbdmiccpnnaaGreat.Rp Go.Proofs.YtplcbdmiccpnnaaGreat.Re Go.Proofs.YtplcbdmiccpnnaaGreat.Au Go.Proofs.YtplcbdmiccpnnaaGreat.Sc Go.Proofs.YtplcbdmiccpnnaaGreat.Tk Go.Proofs.YtplcbdmiccpnnaaGreat.Jb
set_option linter.unusedVariables false
set_option linter.unusedSimpArgs false

set_option maxHeartbeats 16000000 in
set_option maxRecDepth 100000 in
theorem reads9_walk (ba : Option Addr) (bn bc : Nat) (l : List UInt8) (w : World) (hv : Bs w (.slice ba bn bc) l) (hl : l.length = bn) (hm : bn ≤ 140737488355328) :
    Calls Tryz.prog 3 #[.slice ba bn bc] w fun e w' => e = .returned (.bool true) ∧ Below w.heap.size w w' := by
  obtain ⟨q, pe, hJ, hD⟩ : ∃ (q : Scn) (pe : Int),
      (∀ (a : Option Addr) (n c : Nat) (W : World), Bs W (.slice a n c) l → l.length = n → Calls Tryz.prog 4 #[.slice a n c] W fun e w' => (∃ p, e = .returned (.tuple #[SV q p, .int .i64 pe]) ∧ ∀ w2 : World, (∀ k, W.heap.size ≤ k → k < w'.heap.size → w2.heap[k]? = w'.heap[k]?) → ScAt w2 q p) ∧ Below W.heap.size W w')
      ∧ (∀ (a : Option Addr) (n c : Nat) (W : World), Bs W (.slice a n c) l → l.length = n → Calls Tryz.prog 5 #[.slice a n c] W fun e w' => (∃ p, e = .returned (.tuple #[SV q p, .int .i64 pe]) ∧ ScAt w' q p) ∧ Below W.heap.size W w') :=
    ⟨parQ l, parE l, fun a n c W h1 h2 => jp l a n c W h1 h2, fun a n c W h1 h2 => dp l a n c W h1 h2⟩
  have HJ := Lib.hid hJ
  have HDD := Lib.hid hD
  have HVw := Lib.hid hv
  have hlm : l.length ≤ 140737488355328 := by omega
  clear hJ hD
  obtain ⟨i0, hi, hz0, hz1, hz2⟩ := info_parts infoByte
  have HO := Lib.hid (World.ownsRow_lit (base := w.heap.size) (size := 1) w #[] 0 (e := 5) (Nat.le_refl _) (by unfold maxLen; omega) rfl)
  go_enter Tryz.func3, Tryz.ntmps3
  go_upto_region 1 with fail
  go_cut [3] (fun s3 wx => Hid (wx.ownsRow w.heap.size 5 1 s3 l.length (vals l)) ∧ Hid (Below w.heap.size w wx))
  case first =>
    rcases hv with ⟨hv0, h0⟩ | ⟨ad, cap, hv0, hb⟩
    · injection hv0 with e1 e2 e3
      subst e1 e2 e3
      have HO2 := Lib.hid (show (w.alloc (.cells #[] 5)).ownsRow w.heap.size 5 1 (.slice (some ⟨w.heap.size, 0, none⟩) 0 0) l.length (vals l) by rw [h0]; exact HO.out)
      have hB1 := Ve.below_n1 w (.cells #[] 5)
      clear h0 hl hm hlm
      go_wp2_with (first | (at_builtin; refine wpList_append_own_none rfl _ _ 22 rfl w.heap.size 5 i0 1 Tryz.underlying22 hi _ _ _ rfl HO.out rfl ?_))
      go_meet
      exact ⟨HO2, Lib.hid hB1⟩
    · injection hv0 with e1 e2 e3
      subst e1 e3
      have HB := Lib.hid (fun j u hu => old1 (.cells #[] 5) (hb j u hu))
      have HL := Lib.hid hl
      have HM := Lib.hid hlm
      subst e2
      clear hb hl hm hlm
      go_wp2_with (first | (at_builtin; refine wpList_append_own _ rfl _ _ 22 rfl w.heap.size 5 i0 (.int .u8 0) 1 1 Tryz.underlying22 hi hz0 hz1 hz2 rfl (by decide) _ _ _ rfl HO.out ad l.length bc (vals l) rfl ?c1 HB.out (vals_one l) ?c3 ?c4 ?c5 ?_))
      case c1 => simp [vals_length]
      case c3 => have := HM.out; unfold maxLen; omega
      case c4 => have := HM.out; omega
      intro v0 w1 hown hgrow _
      have hB1 : Below w.heap.size w w1 := (Ve.below_n1 w (.cells #[] 5)).grown hgrow (by simp) (fun q hq => by simp [Value.ownBlock] at hq; omega)
      have HO2 := Lib.hid (show w1.ownsRow w.heap.size 5 1 v0 l.length (vals l) by simpa using hown)
      clear hown hgrow HO HB
      go_wp2_with fail
      go_meet
      exact ⟨HO2, Lib.hid hB1⟩
  case rest =>
    obtain ⟨HI, HW1⟩ := hcut
    rename World => w1
    have HL := Lib.hid hl
    clear hl hm
    obtain ⟨fa, fc, hf⟩ := Re.own_form HI.out
    subst hf
    have HV1 := Lib.hid (Re.own_bs HI.out)
    have HVB := Lib.hid (HVw.out.on HW1.out)
    have hz1' := HW1.out.size
    have HR := Lib.hid (show 0 < l.length → ∃ g cur, fa = some ⟨g, 0, none⟩ ∧ w.heap.size ≤ g ∧ g < w1.heap.size ∧ w1.heap[g]? = some (.cells cur 5 (0, 0)) ∧ ∀ j, j < l.length → ∃ z, cur[j]? = some (.int .u8 z) from fun hpos => by
      rcases HI.out.2 with ⟨-, h0⟩ | ⟨g, cap, cur, h1, h2, h3, h4, h5, h6, h7⟩
      · omega
      · injection h1 with e1 e2 e3
        refine ⟨g, cur, e1, h2, lt_of_heap h3, h3, fun j hj => ?_⟩
        have h8 : (vals l)[j]? = cur[j]? := by
          rw [← h7, List.getElem?_take_of_lt (by omega)]
          simp
        rw [← h8]
        exact ⟨((l[j]'hj).toNat : Int), by simp [vals, hj]⟩)
    clear hv HI HO
    go_wp2_with fail
    refine (HJ.out fa _ fc _ HV1.out rfl).mono ?_
    rintro e w2 ⟨⟨p, rfl, hs⟩, hb2⟩
    have HS := Lib.hid hs
    have HB2 := Lib.hid hb2
    have HW2 := Lib.hid (HW1.out.trans (hb2.mono HW1.out.size))
    have hz2' := hb2.size
    clear hs hb2
    obtain ⟨cs, hcs⟩ : ∃ cs : List Value, SC q p = cs.toArray := ⟨(SC q p).toList, by simp⟩
    have hsv : SV q p = .agg cs.toArray := by show Value.agg _ = _; rw [hcs]
    have HZ := Lib.hid (show (Tryz.prog.info? 36).map (·.size) = some cs.toArray.size by rw [← hcs]; kernel_rfl)
    have HZZ := Lib.hid (show (#[.int .i64 0, .int .i64 0, .int .i64 0, .int .i64 0, .int .i64 0, .int .i64 0, .int .u64 0, .int .i64 0, .int .i64 0, .int .i64 0, .int .i64 0, .int .i64 0, .int .i64 0, .slice none 0 0, .slice none 0 0, .slice none 0 0, .slice none 0 0] : Array Value).size = cs.toArray.size by rw [← hcs]; rfl)
    have HONE := Lib.hid (show cs.toArray.all (·.oneCell') = true by rw [← hcs]; simp [Value.oneCell'])
    rw [hsv]
    have HSV := Lib.hid hsv
    clear hsv hcs
    go_upto_region 3 with (with_reducible refine wpList_store_new rfl 36 (.tmp 4) (.tmp 15) rfl w2 #[.int .i64 0, .int .i64 0, .int .i64 0, .int .i64 0, .int .i64 0, .int .i64 0, .int .u64 0, .int .i64 0, .int .i64 0, .int .i64 0, .int .i64 0, .int .i64 0, .int .i64 0, .slice none 0 0, .slice none 0 0, .slice none 0 0, .slice none 0 0] cs.toArray w2.heap.size rfl rfl rfl HZ.out HZZ.out HONE.out ?_)
    have hbn := Ve.below_n1 w2 (.cells cs.toArray 36)
    have hNn := heap_alloc_last w2 (.cells cs.toArray 36)
    obtain ⟨w3, hyn⟩ : ∃ y, w2.alloc (.cells cs.toArray 36) = y := ⟨_, rfl⟩
    have hsn : w3.heap.size = w2.heap.size + 1 := by rw [← hyn]; simp
    rw [hyn] at hbn hNn ⊢
    clear hyn
    have HW3 := Lib.hid (HW2.out.trans (hbn.mono HW2.out.size))
    have HB3 := Lib.hid hbn
    have HC3 := Lib.hid hNn
    clear hbn hNn
    have HR3 := Lib.hid (show 0 < l.length → ∃ g cur, fa = some ⟨g, 0, none⟩ ∧ w.heap.size ≤ g ∧ g < w1.heap.size ∧ w3.heap[g]? = some (.cells cur 5 (0, 0)) ∧ ∀ j, j < l.length → ∃ z, cur[j]? = some (.int .u8 z) from fun hpos => by
      obtain ⟨g, cur, h1, h2, h3, h4, h5⟩ := HR.out hpos
      exact ⟨g, cur, h1, h2, h3, (HB3.out.block g (by omega)).trans ((HB2.out.block g h3).trans h4), h5⟩)
    clear HR
    go_upto_region 4 with fail
    go_loopw [6, 19] (fun i6 i wr => ∃ k : Nat, k ≤ l.length ∧ i = .int .i64 k ∧ Hid (∀ x, w1.heap.size ≤ x → wr.heap[x]? = w3.heap[x]?) ∧ Hid (Below w.heap.size w wr) ∧ w3.heap.size ≤ wr.heap.size ∧ Hid (0 < l.length → ∃ g cur, fa = some ⟨g, 0, none⟩ ∧ w.heap.size ≤ g ∧ g < w1.heap.size ∧ wr.heap[g]? = some (.cells cur 5 (0, 0)) ∧ ∀ j, j < l.length → ∃ z, cur[j]? = some (.int .u8 z))) (fun _ i _ => l.length - (intOf i).toNat)
    case atStart => exact ⟨0, by omega, rfl, Lib.hid fun _ _ => rfl, HW3, Nat.le_refl _, HR3⟩
    case round =>
      obtain ⟨k, hk, rfl, HKK, HWr, hzr, HRr⟩ := hrel
      by_cases hlt : k < l.length
      · have hlt' : (k : Int) < l.length := by omega
        obtain ⟨g, cur, hfa, h1, h2, h3, h4⟩ := HRr.out (by omega)
        subst hfa
        obtain ⟨z, hz⟩ := h4 k hlt
        have hks : k < cur.size := by
          rcases Nat.lt_or_ge k cur.size with h | h
          · exact h
          · rw [Array.getElem?_eq_none h] at hz; cases hz
        have ck := (cell_of_row _ _ k _ _ _ h3).trans hz
        have fz : ∀ j, wr.frozen? ⟨g, j, none⟩ = false := fun j => by simp [World.frozen?, h3]
        have H3 := Lib.hid h3
        have H4 := Lib.hid h4
        clear h3 h4 hz HRr
        go_wp2_with fail
        go_roundw
        case rel =>
          refine ⟨k + 1, by omega, by go_num, Lib.hid fun x hx => (Below.heap_setCell _ _ _ _ (show x ≠ g by omega)).trans (HKK.out x hx), Lib.hid (HWr.out.setCell (by show w.heap.size ≤ g; omega) _), by simp; omega, Lib.hid fun _ => ⟨g, _, rfl, h1, h2, heap_setCell_same _ _ k _ _ _ H3.out, fun j hj => ?_⟩⟩
          by_cases e : j = k
          · subst e
            exact ⟨_, by rw [Array.getElem?_setIfInBounds]; simp [hks]; rfl⟩
          · obtain ⟨y, hy⟩ := H4.out j hj
            exact ⟨y, by rw [Array.getElem?_setIfInBounds]; rw [if_neg (by omega)]; exact hy⟩
        case measure => simp [intOf]; omega
      · have hkk : k = l.length := by omega
        have HPr := Lib.hid (HS.out wr fun x h1 h2 => (HKK.out x h1).trans (HB3.out.block x h2))
        have HCr := Lib.hid ((HKK.out _ (by omega)).trans HC3.out)
        have hnl : ¬ (k : Int) < (l.length : Int) := by omega
        clear hlt hk hkk HRr HKK
        obtain ⟨w4, rfl⟩ : ∃ y : World, y = wr := ⟨_, rfl⟩
        go_wp2_with fail
        refine (HDD.out ba bn bc _ (HVw.out.on HWr.out) HL.out).mono ?_
        rintro e w5 ⟨⟨p2, rfl, hs2⟩, hb5⟩
        have HP5 := Lib.hid (HPr.out.on hb5)
        have HD5 := Lib.hid hs2
        have HW5 := Lib.hid (HWr.out.trans (hb5.mono HWr.out.size))
        have HC5 := Lib.hid ((hb5.block _ (Au.lt_heap HCr.out)).trans HCr.out)
        clear hs2 hb5
        obtain ⟨ds, hds⟩ : ∃ ds : List Value, SC q p2 = ds.toArray := ⟨(SC q p2).toList, by simp⟩
        have htv : SV q p2 = .agg ds.toArray := by show Value.agg _ = _; rw [hds]
        have HTZ := Lib.hid (show (Tryz.prog.info? 49).map (·.size) = some ds.toArray.size by rw [← hds]; kernel_rfl)
        have HTZZ := Lib.hid (show (#[.int .i64 0, .int .i64 0, .int .i64 0, .int .i64 0, .int .i64 0, .int .i64 0, .int .u64 0, .int .i64 0, .int .i64 0, .int .i64 0, .int .i64 0, .int .i64 0, .int .i64 0, .slice none 0 0, .slice none 0 0, .slice none 0 0, .slice none 0 0] : Array Value).size = ds.toArray.size by rw [← hds]; rfl)
        have HTONE := Lib.hid (show ds.toArray.all (·.oneCell') = true by rw [← hds]; simp [Value.oneCell'])
        rw [htv]
        have HTV := Lib.hid htv
        clear htv hds
        go_upto_region 9 with (with_reducible refine wpList_store_new rfl 49 (.tmp 7) (.tmp 32) rfl w5 #[.int .i64 0, .int .i64 0, .int .i64 0, .int .i64 0, .int .i64 0, .int .i64 0, .int .u64 0, .int .i64 0, .int .i64 0, .int .i64 0, .int .i64 0, .int .i64 0, .int .i64 0, .slice none 0 0, .slice none 0 0, .slice none 0 0, .slice none 0 0] ds.toArray w5.heap.size rfl rfl rfl HTZ.out HTZZ.out HTONE.out ?_)
        have hbn := Ve.below_n1 w5 (.cells ds.toArray 49)
        have hNn := heap_alloc_last w5 (.cells ds.toArray 49)
        obtain ⟨w6, hyn⟩ : ∃ y, w5.alloc (.cells ds.toArray 49) = y := ⟨_, rfl⟩
        have hsn : w6.heap.size = w5.heap.size + 1 := by rw [← hyn]; simp
        rw [hyn] at hbn hNn ⊢
        clear hyn
        have HC6 := Lib.hid ((hbn.block _ (Au.lt_heap HC5.out)).trans HC5.out)
        have HD6r := Lib.hid hNn
        have HP6 := Lib.hid (HP5.out.on hbn)
        have HD6 := Lib.hid (HD5.out.on hbn)
        have HW6 := Lib.hid (HW5.out.trans (hbn.mono HW5.out.size))
        clear hbn hNn HC5 HP5 HD5 HW5
        refine wp_region_held_drew (S := fun y => y.heap[w2.heap.size]? = some (.cells cs.toArray 36 (0, 0)) ∧ y.heap[w5.heap.size]? = some (.cells ds.toArray 49 (0, 0))) (by kernel_rfl) (⟨HC6.out, HD6r.out⟩) (fun hS0 => ?_)
        obtain ⟨z0, hz0⟩ : ∃ z0, w6.drew = z0 := ⟨_, rfl⟩
        have HU0 := Lib.hid (HW6.out.trans ((show Below w6.heap.size w6 z0 by rw [← hz0]; exact (Below.refl w6.heap.size w6).drew).mono HW6.out.size))
        have HP0 := Lib.hid (HP6.out.on (show Below w6.heap.size w6 z0 by rw [← hz0]; exact (Below.refl w6.heap.size w6).drew))
        have HD0 := Lib.hid (HD6.out.on (show Below w6.heap.size w6 z0 by rw [← hz0]; exact (Below.refl w6.heap.size w6).drew))
        rw [hz0] at hS0 ⊢
        clear hz0
        refine wpAnyH_ready (rs := [0]) (by kernel_rfl) (by simp) ?_
        refine AllReadyH.cons rfl (fun K hK => ?_) AllReadyH.nil
        go_simp
        go_wp2_with (go_at_call 6; refine (jawake _).mono ?_; rintro e z2 ⟨rfl, hb12⟩)
        have HU1 := Lib.hid (HU0.out.trans (hb12.mono HU0.out.size))
        have HP1 := Lib.hid (HP0.out.on hb12)
        have HD1 := Lib.hid (HD0.out.on hb12)
        refine hK.out _ _ (⟨(hb12.block _ (Au.lt_heap hS0.1)).trans hS0.1, (hb12.block _ (Au.lt_heap hS0.2)).trans hS0.2⟩) (fun hS2 => ?_)
        clear hK K
        refine wpAnyH_take (i := 1) (v := ?_) rfl (by kernel_rfl) (by kernel_rfl) (by kernel_rfl) (fun _ _ _ h => h) (Or.inl ⟨by kernel_rfl, by (intro wz hSz; go_simp; try with_reducible rfl)⟩) hS2 ?_
        go_simp
        refine wpAnyH_take (i := 2) (v := ?_) rfl (by kernel_rfl) (by kernel_rfl) (by kernel_rfl) (fun _ _ _ h => h) (Or.inl ⟨by kernel_rfl, by (intro wz hSz; go_simp; try with_reducible rfl)⟩) hS2 ?_
        go_simp
        refine wpAnyH_take (i := 3) (v := ?_) rfl (by kernel_rfl) (by kernel_rfl) (by kernel_rfl) (fun _ _ _ h => h) (Or.inl ⟨by kernel_rfl, by (intro wz hSz; go_simp; try with_reducible rfl)⟩) hS2 ?_
        go_simp
        refine wpAnyH_take (i := 4) (v := ?_) rfl (by kernel_rfl) (by kernel_rfl) (by kernel_rfl) (fun _ _ _ h => h) (Or.inl ⟨by kernel_rfl, by (intro wz hSz; go_simp; try with_reducible rfl)⟩) hS2 ?_
        go_simp
        refine wpAnyH_take (i := 5) (v := ?_) rfl (by kernel_rfl) (by kernel_rfl) (by kernel_rfl) (fun _ _ _ h => h) (Or.inl ⟨by kernel_rfl, by (intro wz hSz; go_simp; try with_reducible rfl)⟩) hS2 ?_
        go_simp
        refine wpAnyH_take (i := 6) (v := ?_) rfl (by kernel_rfl) (by kernel_rfl) (by kernel_rfl) (fun _ _ _ h => h) (Or.inl ⟨by kernel_rfl, by (intro wz hSz; go_simp; try with_reducible rfl)⟩) hS2 ?_
        go_simp
        refine wpAnyH_take (i := 7) (v := .agg cs.toArray) rfl (by kernel_rfl) (by kernel_rfl) (by kernel_rfl) (fun _ _ _ h => h) (Lr.yieldsIf_load_row (by kernel_rfl) 36 (.tmp 4) rfl (w2.heap.size) rfl 36 cs.toArray _ (fun yy hh => hh.1) Tryz.underlying36 rfl HZ.out) hS2 ?_
        go_simp
        refine wpAnyH_take (i := 9) (v := .agg ds.toArray) rfl (by kernel_rfl) (by kernel_rfl) (by kernel_rfl) (fun _ _ _ h => h) (Lr.yieldsIf_load_row (by kernel_rfl) 49 (.tmp 7) rfl (w5.heap.size) rfl 49 ds.toArray _ (fun yy hh => hh.2) Tryz.underlying49 rfl HTZ.out) hS2 ?_
        go_simp
        refine wpAnyH_ready (rs := [8]) (by kernel_rfl) (by simp) ?_
        refine AllReadyH.cons rfl (fun K hK => ?_) AllReadyH.nil
        go_simp
        go_wp2_with (go_at_call 8; rw [← HSV.out]; refine (sfrom_any q p _ HP1.out).mono ?_; rintro e z3 ⟨⟨p3, rfl, -, hs3⟩, hb13⟩)
        rw [HSV.out]
        obtain ⟨v3, hv3⟩ : ∃ v, v = SV q p3 := ⟨_, rfl⟩
        have HV3x := Lib.hid hv3
        rw [← hv3]
        clear hv3
        have HU2 := Lib.hid (HU1.out.trans (hb13.mono HU1.out.size))
        have HP2 := Lib.hid (HP1.out.on hb13)
        have HD2 := Lib.hid (HD1.out.on hb13)
        refine hK.out _ _ (⟨(hb13.block _ (Au.lt_heap hS2.1)).trans hS2.1, (hb13.block _ (Au.lt_heap hS2.2)).trans hS2.2⟩) (fun hS3 => ?_)
        clear hK K
        refine wpAnyH_ready (rs := [10]) (by kernel_rfl) (by simp) ?_
        refine AllReadyH.cons rfl (fun K hK => ?_) AllReadyH.nil
        go_simp
        go_wp2_with (go_at_call 7; rw [HV3x.out, ← HTV.out]; refine (rsame_any q p3 p2 _ hs3 HD2.out).mono ?_; rintro e z4 ⟨rfl, hb14⟩)
        rw [← HV3x.out, HTV.out]
        have HU3 := Lib.hid (HU2.out.trans (hb14.mono HU2.out.size))
        have HP3 := Lib.hid (HP2.out.on hb14)
        have HD3 := Lib.hid (HD2.out.on hb14)
        refine hK.out _ _ (⟨(hb14.block _ (Au.lt_heap hS3.1)).trans hS3.1, (hb14.block _ (Au.lt_heap hS3.2)).trans hS3.2⟩) (fun hS4 => ?_)
        clear hK K
        refine wpAnyH_take (i := 11) (v := ?_) rfl (by kernel_rfl) (by kernel_rfl) (by kernel_rfl) (fun _ _ _ h => h) (Or.inl ⟨by kernel_rfl, by (intro wz hSz; go_simp; try with_reducible rfl)⟩) hS4 ?_
        go_simp
        refine wpAnyH_take (i := 12) (v := ?_) rfl (by kernel_rfl) (by kernel_rfl) (by kernel_rfl) (fun _ _ _ h => h) (Or.inl ⟨by kernel_rfl, by (intro wz hSz; go_simp; try with_reducible rfl)⟩) hS4 ?_
        go_simp
        refine wpAnyH_done (by kernel_rfl) ?_ _
        go_wp2_with fail
        go_ret
        exact ⟨rfl, HU3.out⟩

end Go.Proofs.YtplcbdmiccpnnaaGreat.Jd
