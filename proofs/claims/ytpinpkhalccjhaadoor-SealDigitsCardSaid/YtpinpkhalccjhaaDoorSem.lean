/- Layer 22: bytes as digits, by the document. -/
import Derived.Test.YtpinpkhalccjhaaDoorSel
namespace Go.Proofs.YtpinpkhalccjhaaDoor.Se
open Go Go.RowKit Go.Proofs.YtpinpkhalccjhaaDoor Go.Proofs.YtpinpkhalccjhaaDoor.Au Go.Proofs.YtpinpkhalccjhaaDoor.Re
set_option linter.unusedVariables false
set_option linter.unusedSimpArgs false

theorem hexd_lo (x : Nat) (h : x < 10) : (hexd x).toNat = 48 + x := by
  unfold hexd
  rw [if_pos h, UInt8.toNat_ofNat_of_lt' (by simp [UInt8.size]; omega)]

theorem hexd_hi (x : Nat) (h : ¬ x < 10) (h2 : x < 16) : (hexd x).toNat = 87 + x := by
  unfold hexd
  rw [if_neg h, UInt8.toNat_ofNat_of_lt' (by simp [UInt8.size]; omega)]

set_option maxHeartbeats 4000000 in
set_option maxRecDepth 100000 in
theorem rhex_nil (w : World) : Calls Tryd.prog 48 #[.slice none 0 0] w fun e' w' => e' = .returned (.string ⟨(hexL []).toArray⟩) ∧ Below w.heap.size w w' := by
  have hcv : ∀ W, (convert 67 9 (.slice none 0 0)).run Tryd.prog W = .ok (.string ⟨#[]⟩) W := fun W => conv_bs (.inl ⟨rfl, rfl⟩)
  go_enter Tryd.func48, Tryd.ntmps48
  go_wp2_with fail
  refine wp_loop_rounds 1 ?_
  rw [rounds_succ]
  go_wp2_with fail
  go_ret
  exact ⟨rfl, Below.refl _ _⟩

set_option maxHeartbeats 8000000 in
set_option maxRecDepth 100000 in
theorem rhex_go (ad : Addr) (cap : Nat) (l : List UInt8) (ln : Nat) (w : World) (hn : ln = l.length) (hl : ln ≤ 100000) (hc : ∀ j u, (vals l)[j]? = some u → w.cell? (ad.add j) = some u) :
    Calls Tryd.prog 48 #[.slice (some ad) ln cap] w fun e' w' => e' = .returned (.string ⟨(hexL l).toArray⟩) ∧ Below w.heap.size w w' := by
  obtain ⟨i0, hi, hz0, hz1, hz2⟩ := info_parts infoByte
  have HC := Lib.hid hc
  have HN := Lib.hid hn
  clear hc hn
  go_enter Tryd.func48, Tryd.ntmps48
  go_wp2_with fail
  go_loopw [3, 4] (fun v i wr => ∃ (k n : Nat) (a : Option Addr) (c : Nat), k ≤ ln ∧ n = 2 * k ∧ i = .int .i64 k ∧ v = .slice a n c ∧ Hid (wr.ownsRow w.heap.size 5 1 (.slice a n c) n (vals (hexL (l.take k)))) ∧ Hid (Below w.heap.size w wr)) (fun _ i _ => ln - (intOf i).toNat)
  case atStart => exact ⟨0, 0, none, 0, by omega, rfl, rfl, rfl, Lib.hid (World.ownsRow_nil _ _ _ _), Lib.hid (Below.refl _ _)⟩
  case round =>
    obtain ⟨k, n, a, c, hk, hnk, rfl, rfl, HI, HU⟩ := hrel
    have HNK := Lib.hid hnk
    have hn200 : n ≤ 200000 := by omega
    clear hnk
    have hbk0 := HU.out
    have hsz0 := hbk0.size
    by_cases hlt : k < ln
    · have hlt' : (k : Int) < ln := by omega
      obtain ⟨x, hx⟩ : ∃ x, l[k]? = some x := ⟨_, List.getElem?_eq_getElem (by have := HN.out; omega)⟩
      obtain ⟨xn, hxn⟩ : ∃ m : Nat, m = x.toNat := ⟨_, rfl⟩
      have hxb : xn < 256 := by rw [hxn]; exact x.toNat_lt
      have hcell : wr.cell? (ad.add k) = some (.int .u8 (xn : Int)) := by
        have h1 := HC.out k (.int .u8 (xn : Int)) (by unfold vals; rw [List.getElem?_map, hx, hxn]; rfl)
        rw [HU.out.cell (World.block_lt_of_cell? w _ h1)]; exact h1
      obtain ⟨h4, hh4⟩ : ∃ m : Nat, m = xn / 16 := ⟨_, rfl⟩
      obtain ⟨l4, hl4⟩ : ∃ m : Nat, m = xn % 16 := ⟨_, rfl⟩
      have e4 : (xn : Int) / 16 = (h4 : Int) := by omega
      have f4 : (xn : Int) % 16 = (l4 : Int) := by omega
      have hw4 : IntKind.u8.wrap (h4 : Int) = (h4 : Int) := by rw [IntKind.wrap_u8']; omega
      have ft4 : (xn : Int).tmod 16 = (l4 : Int) := by rw [Int.tmod_eq_emod_of_nonneg (by omega)]; omega
      have h4b : h4 < 16 := by omega
      have l4b : l4 < 16 := by omega
      have HTK := Lib.hid (show hexL (l.take (k + 1)) = hexL (l.take k) ++ [hexd h4, hexd l4] by rw [hexL_take l k x hx, hh4, hl4, hxn]; simp)
      clear hx hxn hh4 hl4
      go_wp2_with fail
      refine wp_region_held_drew (S := fun y => y.cell? (ad.add k) = some (.int .u8 (xn : Int))) (by kernel_rfl) (hcell) (fun hS0 => ?_)
      refine wpAnyH_take (i := 0) (v := ?_) rfl (by kernel_rfl) (by kernel_rfl) (by kernel_rfl) (fun _ _ _ h => h) (Or.inl ⟨by kernel_rfl, by (intro wz hSz; go_simp; try with_reducible rfl)⟩) hS0 ?_
      go_simp
      refine wpAnyH_take (i := 1) (v := ?_) rfl (by kernel_rfl) (by kernel_rfl) (by kernel_rfl) (fun _ _ _ h => h) (Or.inl ⟨by kernel_rfl, by (intro wz hSz; go_simp; try with_reducible rfl)⟩) hS0 ?_
      go_simp
      refine wpAnyH_take (i := 2) (v := ?_) rfl (by kernel_rfl) (by kernel_rfl) (by kernel_rfl) (fun _ _ _ h => h) (Or.inl ⟨by kernel_rfl, by (intro wz hSz; go_simp; try with_reducible rfl)⟩) hS0 ?_
      go_simp
      refine wpAnyH_take (i := 3) (v := ?_) rfl (by kernel_rfl) (by kernel_rfl) (by kernel_rfl) (fun _ _ _ h => h) (Or.inl ⟨by kernel_rfl, by (intro wz hSz; have hcz := hSz; go_simp; try with_reducible rfl)⟩) hS0 ?_
      go_simp
      refine wpAnyH_take (i := 4) (v := ?_) rfl (by kernel_rfl) (by kernel_rfl) (by kernel_rfl) (fun _ _ _ h => h) (Or.inl ⟨by kernel_rfl, by (intro wz hSz; go_simp; try with_reducible rfl)⟩) hS0 ?_
      go_simp
      refine wpAnyH_take (i := 5) (v := ?_) rfl (by kernel_rfl) (by kernel_rfl) (by kernel_rfl) (fun _ _ _ h => h) (Or.inl ⟨by kernel_rfl, by (intro wz hSz; go_simp; try with_reducible rfl)⟩) hS0 ?_
      go_simp
      refine wpAnyH_take (i := 6) (v := ?_) rfl (by kernel_rfl) (by kernel_rfl) (by kernel_rfl) (fun _ _ _ h => h) (Or.inl ⟨by kernel_rfl, by (intro wz hSz; go_simp; try with_reducible rfl)⟩) hS0 ?_
      go_simp
      refine wpAnyH_take (i := 7) (v := ?_) rfl (by kernel_rfl) (by kernel_rfl) (by kernel_rfl) (fun _ _ _ h => h) (Or.inl ⟨by kernel_rfl, by (intro wz hSz; go_simp; try with_reducible rfl)⟩) hS0 ?_
      go_simp
      refine wpAnyH_take (i := 8) (v := ?_) rfl (by kernel_rfl) (by kernel_rfl) (by kernel_rfl) (fun _ _ _ h => h) (Or.inl ⟨by kernel_rfl, by (intro wz hSz; have hcz := hSz; go_simp; try with_reducible rfl)⟩) hS0 ?_
      go_simp
      refine wpAnyH_take (i := 9) (v := ?_) rfl (by kernel_rfl) (by kernel_rfl) (by kernel_rfl) (fun _ _ _ h => h) (Or.inl ⟨by kernel_rfl, by (intro wz hSz; go_simp; try with_reducible rfl)⟩) hS0 ?_
      go_simp
      refine wpAnyH_take (i := 12) (v := ?_) rfl (by kernel_rfl) (by kernel_rfl) (by kernel_rfl) (fun _ _ _ h => h) (Or.inl ⟨by kernel_rfl, by (intro wz hSz; go_simp; try with_reducible rfl)⟩) hS0 ?_
      go_simp
      refine wpAnyH_ready (rs := [10]) (by kernel_rfl) (by simp) ?_
      refine AllReadyH.cons rfl (fun K hK => ?_) AllReadyH.nil
      go_simp
      have hb2 : Below wr.heap.size wr ((wr.alloc (.cells #[.int .u8 (h4 : Int), .int .u8 (l4 : Int)] 5)).drew) := (Ve.below_n1 wr (.cells #[.int .u8 (h4 : Int), .int .u8 (l4 : Int)] 5)).drew
      have hN : ((wr.alloc (.cells #[.int .u8 (h4 : Int), .int .u8 (l4 : Int)] 5)).drew).heap[wr.heap.size]? = some (.cells #[.int .u8 (h4 : Int), .int .u8 (l4 : Int)] 5 (0, 0)) := heap_alloc_last wr (.cells #[.int .u8 (h4 : Int), .int .u8 (l4 : Int)] 5)
      obtain ⟨q, hq⟩ : ∃ q, q = wr.heap.size := ⟨_, rfl⟩
      obtain ⟨y2, hy2⟩ : ∃ y, (wr.alloc (.cells #[.int .u8 (h4 : Int), .int .u8 (l4 : Int)] 5)).drew = y := ⟨_, rfl⟩
      rw [hy2] at hb2 hN ⊢
      have hb2' := hb2
      rw [← hq] at hN
      rw [← hq]
      have hN' := hN
      have HQW := Lib.hid hq
      clear hq
      refine hK.out _ _ ((by rw [hb2'.cell (World.block_lt_of_cell? wr _ hcell)]; exact hcell)) (fun hSa => ?_)
      clear hK K
      refine wpAnyH_take (i := 11) (v := ?_) rfl (by kernel_rfl) (by kernel_rfl) (by kernel_rfl) (fun _ _ _ h => h) (Or.inl ⟨by kernel_rfl, by (intro wz hSz; go_simp; try with_reducible rfl)⟩) hSa ?_
      go_simp
      refine wpAnyH_done (by kernel_rfl) ?_ _
      have HQ0 := Lib.hid hN'
      have HU2 := Lib.hid (hbk0.trans (hb2'.mono hsz0))
      have HI2 := Lib.hid (show y2.ownsRow w.heap.size 5 1 (.slice a (n + 0) c) (n + 0) (vals (hexL (l.take k) ++ [hexd h4, hexd l4].take 0)) by simpa using Ls.own_below HI.out hb2')
      have HNQ0 := Lib.hid (show (Value.slice a (n + 0) c).ownBlock ≠ some q from fun e => by have := (HI.out.lt q (by simpa using e)).2; have := HQW.out; omega)
      clear hN hN' hb2 hb2' hy2 HI HU
      go_wp2_with fail
      go_loopw [3, 25] (fun v j wr => ∃ (m n2 : Nat) (a : Option Addr) (c : Nat), m ≤ 2 ∧ n2 = n + m ∧ j = .int .i64 m ∧ v = .slice a n2 c ∧ Hid (wr.ownsRow w.heap.size 5 1 (.slice a n2 c) n2 (vals (hexL (l.take k) ++ [hexd h4, hexd l4].take m))) ∧ Hid (wr.heap[q]? = some (.cells #[.int .u8 (h4 : Int), .int .u8 (l4 : Int)] 5 (0, 0))) ∧ Hid ((Value.slice a n2 c).ownBlock ≠ some q) ∧ Hid (Below w.heap.size w wr)) (fun _ j _ => 2 - (intOf j).toNat)
      case atStart => exact ⟨0, n + 0, a, c, by omega, rfl, rfl, rfl, HI2, HQ0, HNQ0, HU2⟩
      case round =>
        obtain ⟨m, n3, a, c, hm, hnm, rfl, rfl, HI, HQ, HNQ, HU⟩ := hrel
        have HNM := Lib.hid hnm
        have hbk := HU.out
        have hsz := hbk.size
        have hnb : n3 ≤ 300000 := by omega
        clear hnm
        by_cases hlm : m < 2
        · have hlm' : (m : Int) < 2 := by omega
          obtain ⟨x, hx⟩ : ∃ x : Nat, x = if m = 0 then h4 else l4 := ⟨_, rfl⟩
          have hxb : x < 16 := by rw [hx]; split <;> omega
          have hcq : wr.cell? ⟨q, m, none⟩ = some (.int .u8 (x : Int)) := by
            rcases (show m = 0 ∨ m = 1 by omega) with rfl | rfl
            · rw [hx]; exact cell_of_row _ _ 0 _ _ _ HQ.out
            · rw [hx]; exact cell_of_row _ _ 1 _ _ _ HQ.out
          have HNB := Lib.hid (show [hexd h4, hexd l4].take (m + 1) = [hexd h4, hexd l4].take m ++ [hexd x] by
            rcases (show m = 0 ∨ m = 1 by omega) with rfl | rfl
            · rw [hx]; rfl
            · rw [hx]; rfl)
          clear hx
          by_cases h10 : x < 10
          · have h10' : (x : Int) < 10 := by omega
            obtain ⟨z, hz⟩ : ∃ z : Nat, z = 48 + x := ⟨_, rfl⟩
            have hz1' : 48 + (x : Int) = (z : Int) := by omega
            have hz8 : (z : Int) % 256 = (z : Int) := by omega
            have HZ := Lib.hid (show (z : Int) = ((hexd x).toNat : Int) by rw [hexd_lo x h10]; omega)
            clear hz
            have HI1 := Lib.hid (HI.out.alloc (.cells #[.int .u8 (z : Int)] 5))
            have HV := Lib.hid (vals_one1 (z : Int) (hexd x) HZ.out wr wr.heap.size rfl)
            go_wp2_with (first | (at_builtin; refine wpList_append_lies _ rfl _ _ 67 rfl w.heap.size 5 i0 (.int .u8 0) 1 1 Tryd.underlying67 hi hz0 hz1 hz2 rfl (by decide) _ _ _ rfl HI1.out ⟨wr.heap.size, 0, none⟩ 1 1 (vals [hexd x]) rfl rfl HV.out (vals_one _) (by decide) ?d3 ?d4 ?d5 (wr.heap.size + 1) (by simp) ?_))
            case d3 => unfold maxLen; omega
            case d4 => omega
            case d5 => first | omega | (simp; omega)
            intro g9 c9 w2 hown2 hgrow2 hlie hlt9
            have hb2 : Below w.heap.size w w2 := (hbk.alloc hsz _).grown hgrow2 (by simp; omega) (fun b hb => (HI.out.lt b hb).1)
            have hql := lt_heap HQ.out
            have HQ2 := Lib.hid (show w2.heap[q]? = some (.cells #[.int .u8 (h4 : Int), .int .u8 (l4 : Int)] 5 (0, 0)) from
              (hgrow2.block q (by simp; omega) (fun e => HNQ.out e.symm)).trans (((Ve.below_n1 wr _).block q hql).trans HQ.out))
            have HO2 := Lib.hid (show w2.ownsRow w.heap.size 5 1 (.slice (some ⟨g9, 0, none⟩) (n3 + 1) c9) (n3 + 1) (vals (hexL (l.take k) ++ [hexd h4, hexd l4].take (m + 1))) by rw [HNB.out, ← List.append_assoc, vals_append]; exact hown2)
            have HNQ2 := Lib.hid (show (Value.slice (some ⟨g9, 0, none⟩) (n3 + 1) c9).ownBlock ≠ some q from fun e => by
              have e' : g9 = q := by simpa [Value.ownBlock] using e
              rcases hlie with h | h
              · exact HNQ.out (by rw [h, e'])
              · omega)
            clear hown2 hgrow2 HI HI1 HV hlie hlt9
            go_wp2_with fail
            go_roundw
            case rel => exact ⟨m + 1, n3 + 1, some ⟨g9, 0, none⟩, c9, by omega, by have := HNM.out; omega, by go_num, rfl, HO2, HQ2, HNQ2, Lib.hid hb2⟩
            case measure => simp [intOf]; omega
          · have h10' : ¬ (x : Int) < 10 := by omega
            obtain ⟨z, hz⟩ : ∃ z : Nat, z = 87 + x := ⟨_, rfl⟩
            obtain ⟨zb, hzb⟩ : ∃ z : Nat, z = 97 + x := ⟨_, rfl⟩
            have hz1' : 97 + (x : Int) = (zb : Int) := by omega
            have hz2' : (zb : Int) - 10 = (z : Int) := by omega
            have hz8 : (z : Int) % 256 = (z : Int) := by omega
            have hz9 : (zb : Int) % 256 = (zb : Int) := by omega
            have HZ := Lib.hid (show (z : Int) = ((hexd x).toNat : Int) by rw [hexd_hi x h10 hxb]; omega)
            clear hz hzb
            have HI1 := Lib.hid (HI.out.alloc (.cells #[.int .u8 (z : Int)] 5))
            have HV := Lib.hid (vals_one1 (z : Int) (hexd x) HZ.out wr wr.heap.size rfl)
            go_wp2_with (first | (at_builtin; refine wpList_append_lies _ rfl _ _ 67 rfl w.heap.size 5 i0 (.int .u8 0) 1 1 Tryd.underlying67 hi hz0 hz1 hz2 rfl (by decide) _ _ _ rfl HI1.out ⟨wr.heap.size, 0, none⟩ 1 1 (vals [hexd x]) rfl rfl HV.out (vals_one _) (by decide) ?d3 ?d4 ?d5 (wr.heap.size + 1) (by simp) ?_))
            case d3 => unfold maxLen; omega
            case d4 => omega
            case d5 => first | omega | (simp; omega)
            intro g9 c9 w2 hown2 hgrow2 hlie hlt9
            have hb2 : Below w.heap.size w w2 := (hbk.alloc hsz _).grown hgrow2 (by simp; omega) (fun b hb => (HI.out.lt b hb).1)
            have hql := lt_heap HQ.out
            have HQ2 := Lib.hid (show w2.heap[q]? = some (.cells #[.int .u8 (h4 : Int), .int .u8 (l4 : Int)] 5 (0, 0)) from
              (hgrow2.block q (by simp; omega) (fun e => HNQ.out e.symm)).trans (((Ve.below_n1 wr _).block q hql).trans HQ.out))
            have HO2 := Lib.hid (show w2.ownsRow w.heap.size 5 1 (.slice (some ⟨g9, 0, none⟩) (n3 + 1) c9) (n3 + 1) (vals (hexL (l.take k) ++ [hexd h4, hexd l4].take (m + 1))) by rw [HNB.out, ← List.append_assoc, vals_append]; exact hown2)
            have HNQ2 := Lib.hid (show (Value.slice (some ⟨g9, 0, none⟩) (n3 + 1) c9).ownBlock ≠ some q from fun e => by
              have e' : g9 = q := by simpa [Value.ownBlock] using e
              rcases hlie with h | h
              · exact HNQ.out (by rw [h, e'])
              · omega)
            clear hown2 hgrow2 HI HI1 HV hlie hlt9
            go_wp2_with fail
            go_roundw
            case rel => exact ⟨m + 1, n3 + 1, some ⟨g9, 0, none⟩, c9, by omega, by have := HNM.out; omega, by go_num, rfl, HO2, HQ2, HNQ2, Lib.hid hb2⟩
            case measure => simp [intOf]; omega
        · have hlg : ¬ (m : Int) < 2 := by omega
          have HM2 := Lib.hid (show m = 2 by omega)
          go_wp2_with fail
          go_roundw
          case rel => exact ⟨k + 1, n3, a, c, by omega, by have := HNK.out; have := HM2.out; have := HNM.out; omega, by go_num, rfl, by rw [HTK.out]; have h := HI.out; rw [HM2.out] at h; exact Lib.hid h, HU⟩
          case measure => simp [intOf]; omega
    · have hge : ¬ (k : Int) < ln := by omega
      have HE := Lib.hid (show l.take k = l from List.take_of_length_le (by have := HN.out; omega))
      have hbs : Bs wr (.slice a n c) (hexL l) := by
        have h := HI.out
        rw [HE.out] at h
        have hnl : n = (hexL l).length := by rw [hexL_len, HNK.out]; have := HN.out; omega
        rw [hnl] at h ⊢
        exact own_bs h
      have hcv : (convert 67 9 (.slice a n c)).run Tryd.prog wr = .ok (.string ⟨(hexL l).toArray⟩) wr := conv_bs hbs
      go_wp2_with fail
      go_ret
      exact ⟨rfl, hbk0⟩

end Go.Proofs.YtpinpkhalccjhaaDoor.Se
