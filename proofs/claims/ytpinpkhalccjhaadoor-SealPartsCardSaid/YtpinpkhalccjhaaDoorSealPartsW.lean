/- SealParts: the walk. -/
import Derived.Test.YtpinpkhalccjhaaDoorSej
import Derived.Test.YtpinpkhalccjhaaDoorLs
namespace Go.Proofs.YtpinpkhalccjhaaDoor.sealPartsW
open Go Go.RowKit Go.Proofs.YtpinpkhalccjhaaDoor Go.Proofs.YtpinpkhalccjhaaDoor.Au Go.Proofs.YtpinpkhalccjhaaDoor.Re Go.Proofs.YtpinpkhalccjhaaDoor.Se
set_option linter.unusedVariables false
set_option linter.unusedSimpArgs false

theorem own_bsc' {base : Nat} {w : World} {a : Option Addr} {n c : Nat} {l : List UInt8} (hn : n = l.length) (h : w.ownsRow base 5 1 (.slice a n c) n (vals l)) : BsC w (.slice a n c) l := by
  subst hn; exact own_bsc h

set_option maxHeartbeats 16000000 in
set_option maxRecDepth 100000 in
theorem walk (la : Option Addr) (ln lc : Nat) (f : Nat → List UInt8) (w : World) (hl : BsL w la ln f) (hb : ln ≤ 140737488351232) (hT : Tabs w) : Calls Tryd.prog 8 #[.slice la ln lc] w fun e' w' => e' = .returned (.bool true) ∧ Below w.heap.size w w' := by
  obtain ⟨i0, hi, hz0, hz1, hz2⟩ := info_parts infoByte
  have HL := Lib.hid hl
  have HT := Lib.hid hT
  have HG0 := Lib.hid (show 0 < w.heap.size from World.block_lt_of_cell? _ _ (hT.s 0 (by decide)))
  have HG2 := Lib.hid (show 2 < w.heap.size from World.block_lt_of_cell? _ _ (hT.k 0 (by decide)))
  clear hl hT
  go_enter Tryd.func8, Tryd.ntmps8
  go_wp2_with fail
  refine (new_any w HT.out).mono ?_
  rintro e y1 ⟨⟨g, rfl, hg, hp⟩, hb1⟩
  obtain ⟨B0, hB0⟩ : ∃ B, B = g + 1 := ⟨_, rfl⟩
  have HP0 := Lib.hid hp
  have HU0 := Lib.hid hb1
  have HGW := Lib.hid hg
  have HGB := Lib.hid (show g < B0 by omega)
  have HB0 := Lib.hid (show B0 ≤ g + 1 by omega)
  have HQ0 := Lib.hid (show 0 ≠ g by have := HG0.out; omega)
  have HQ2 := Lib.hid (show 2 ≠ g by have := HG2.out; omega)
  clear hg hp hb1 hB0
  go_wp2_with fail
  go_loopw [4, 13] (fun va i wr => ∃ (k : Nat) (acc : List UInt8) (al : Option Addr) (ac an : Nat), k ≤ ln ∧ k ≤ 30 ∧ i = .int .i64 k ∧ an ≤ 2000 * k ∧ an = acc.length ∧ va = .slice al an ac ∧ Hid (wr.ownsRow B0 5 1 (.slice al an ac) an (vals acc)) ∧ Hid (PrAt wr g (feeds press0 acc)) ∧ Hid (Below w.heap.size w wr)) (fun _ i _ => ln - (intOf i).toNat)
  case atStart => exact ⟨0, [], none, 0, 0, by omega, by omega, rfl, by omega, rfl, rfl, Lib.hid (World.ownsRow_nil _ _ _ _), HP0, HU0⟩
  case round =>
    obtain ⟨k, acc, al, ac, an, hk, hk30, rfl, han, hal, rfl, HO1, HP1, HU1⟩ := hrel
    have HAL := Lib.hid hal
    clear hal
    have hsz1 := HU1.out.size
    by_cases hlt : k < ln
    · have hlt' : (k : Int) < ln := by omega
      obtain ⟨lb, lo, hla, hlb, hcx⟩ := (show ∃ b o, la = some ⟨b, o, none⟩ ∧ b < w.heap.size ∧ ∀ k, k < ln → ∃ x, w.cell? ⟨b, o + k, none⟩ = some x ∧ BsC w x (f k) from by
        rcases HL.out with h | h
        · omega
        · exact h)
      subst hla
      obtain ⟨x, hx, hxb⟩ := hcx k hlt
      have hx1 : wr.cell? ⟨lb, lo + k, none⟩ = some x := by rw [HU1.out.cell (by exact hlb)]; exact hx
      obtain ⟨fk, hfk⟩ : ∃ l, l = f k := ⟨_, rfl⟩
      rw [← hfk] at hxb
      have HXB := Lib.hid hxb
      clear hcx hx hfk
      by_cases h30 : k < 30
      · have h30' : ¬ (30 : Int) ≤ (k : Int) := by omega
        rcases hxb with ⟨rfl, hfn⟩ | ⟨ad, c, hxs, hcn, hxc⟩
        · have HFN := Lib.hid hfn
          clear hfn
          have hsz := HU1.out.size
          have HE0 := Lib.hid (World.ownsRow_lit (base := wr.heap.size) (size := 1) wr #[] 0 (e := 5) (Nat.le_refl _) (by unfold maxLen; omega) rfl)
          have HBE := Lib.hid (Ve.below_n1 wr (.cells #[] 5))
          go_upto_region 8 with (first | (at_builtin; refine wpList_append_own_none rfl _ _ 67 rfl wr.heap.size 5 i0 1 Tryd.underlying67 hi _ _ _ rfl HE0.out rfl ?_))
          obtain ⟨y2, hy2⟩ : ∃ y, wr.alloc (.cells #[] 5) = y := ⟨_, rfl⟩
          have hb2 := HBE.out
          have hin : y2.ownsRow wr.heap.size 5 1 (.slice (some ⟨wr.heap.size, 0, none⟩) 0 0) 0 (vals fk) := by rw [← hy2, HFN.out]; exact HE0.out
          rw [hy2] at hb2 ⊢
          have HNK := Lib.hid (show 0 = fk.length by rw [HFN.out]; rfl)
          clear hy2
          go_wp2_with fail
          have hb3 := Ve.below_n1 y2 (.cells #[.slice (some ⟨wr.heap.size, 0, none⟩) 0 0] 67)
          have hN3 := heap_alloc_last y2 (.cells #[.slice (some ⟨wr.heap.size, 0, none⟩) 0 0] 67)
          obtain ⟨y3, hy3⟩ : ∃ y, y2.alloc (.cells #[.slice (some ⟨wr.heap.size, 0, none⟩) 0 0] 67) = y := ⟨_, rfl⟩
          have hs3 : y3.heap.size = y2.heap.size + 1 := by rw [← hy3]; simp
          rw [hy3] at hb3 hN3 ⊢
          have hs12 := hb2.size
          have hb23 := hb2.trans (hb3.mono hb2.size)
          have hgl := lt_heap HP1.out.row
          have HP3 := Lib.hid (HP1.out.on hb23)
          have HO3 := Lib.hid (Ls.own_below HO1.out hb23)
          have HU3 := Lib.hid (HU1.out.trans (hb23.mono hsz))
          have HI3 := Lib.hid (Ls.own_below hin hb3)
          have HPT := Lib.hid (show Parts y3 g (.slice (some ⟨y2.heap.size, 0, none⟩) 1 1) [fk] from parts_one hN3 (by omega) (own_bsc' HNK.out HI3.out) (fun ad n' c' e _ => by cases e; have := (own_caps HI3.out).2.2 _ rfl; omega))
          clear hy3 hb3 hN3 hb2 hin hb23
          refine (write_any g (feeds press0 acc) _ [fk] y3 HPT.out (by simp) HP3.out (HT.out.on HU3.out) HQ0.out HQ2.out (by have := HAL.out; have := HNK.out; rw [feeds_n]; simp only [List.flatten_cons, List.flatten_nil, List.append_nil]; show 0 + _ + _ < _; omega)).mono ?_
          rintro e y4 ⟨rfl, hp4, ha4⟩
          have hs4 := ha4.size
          have HP4 := Lib.hid (show PrAt y4 g (feeds press0 (acc ++ fk)) by rw [feeds_app]; simpa using hp4)
          have HO4 := Lib.hid (show y4.ownsRow B0 5 1 (.slice al an ac) an (vals acc) from own_heap HO3.out (fun q hq => ha4.block q (by have := (HO3.out.lt q hq).1; have := HGB.out; omega) (HO3.out.lt q hq).2))
          have HU4 := Lib.hid (HU3.out.trans (ha4.below (B := w.heap.size) (fun b hb => by have := HGW.out; omega) HU3.out.size))
          have HI4 := Lib.hid (show y4.ownsRow wr.heap.size 5 1 (.slice (some ⟨wr.heap.size, 0, none⟩) 0 0) 0 (vals fk) from own_heap HI3.out (fun q hq => ha4.block q (by have := (HI3.out.lt q hq).1; omega) (HI3.out.lt q hq).2))
          have HS4 := Lib.hid (show wr.heap.size ≤ y4.heap.size by omega)
          have HGL := Lib.hid hgl
          clear hp4 ha4 HP3 HO3 HU3 HI3 HPT hs3 hs12 hs4 hgl
          go_upto_region 10 with fail
          refine wp_loop_rounds 1 ?_
          rw [rounds_succ]
          go_upto_region 15 with (first | (at_builtin; refine wpList_append_own_none rfl _ _ 67 rfl B0 5 i0 1 Tryd.underlying67 hi _ _ _ rfl HO4.out rfl ?_))
          have y6 := y4
          have HO6 := Lib.hid (show y4.ownsRow B0 5 1 (.slice al an ac) an (vals (acc ++ fk)) by rw [HFN.out, List.append_nil]; exact HO4.out)
          have HP6 := HP4
          have HU6 := HU4
          have HNN := Lib.hid (show an = (acc ++ fk).length by rw [HFN.out, List.append_nil]; exact HAL.out)
          have HNL := Lib.hid (show an ≤ 2000 * (k + 1) by omega)
          have hnnb : an ≤ 70000 := by have := HNL.out; omega
          have HLN := Lib.hid (show (acc ++ fk).length ≤ 70000 by rw [← HNN.out]; exact hnnb)
          obtain ⟨hf, hhf⟩ : ∃ x : Nat, x = an / 2 := ⟨_, rfl⟩
          have hfi : (an : Int) / 2 = (hf : Int) := by omega
          have hfl : hf ≤ an := by omega
          clear hhf
          obtain ⟨a2, n2, c2, ha2, hn2, hc2, hhv, hb2⟩ := halves al an ac hf (acc ++ fk) HNN.out hfl (own_caps HO6.out).1 (own_caps HO6.out).2.1
          have HHV := Lib.hid hhv
          have hwf : IntKind.i64.wrap (hf : Int) = hf := by rw [IntKind.wrap_i64]; omega
          have hcv := (own_caps HO6.out).2.1
          have hfc : (hf : Int) ≤ (ac : Int) := by omega
          have hfn : (hf : Int) ≤ (an : Int) := by omega
          have HB2 := Lib.hid hb2
          obtain ⟨D, hD⟩ : ∃ D, D = (nums .u8 (sha (acc ++ fk))).toArray := ⟨_, rfl⟩
          have HDD := Lib.hid hD
          have hqD : ∀ W, (Op.equalIn 10000 81 (.agg D) (.agg D)).run Tryd.prog W = .ok true W := fun W => by rw [HDD.out]; exact eq_dig _ (sha_len _) W
          clear hhv hb2 hD
          refine wp_region_held_drew (S := fun _ => True) (by kernel_rfl) (trivial) (fun hS0 => ?_)
          obtain ⟨y7, hy7⟩ : ∃ y, y4.drew = y := ⟨_, rfl⟩
          have hP7 : PrAt y7 g (feeds press0 (acc ++ fk)) := by rw [← hy7]; exact HP6.out.on (Below.refl _ _).drew
          have hown7 : y7.ownsRow B0 5 1 (.slice al an ac) an (vals (acc ++ fk)) := by rw [← hy7]; exact Ls.own_below HO6.out (Below.refl _ _).drew
          have hA7 : BsC y7 (.slice al an ac) (acc ++ fk) := own_bsc' HNN.out hown7
          have hU7 : Below w.heap.size w y7 := by rw [← hy7]; exact HU6.out.drew
          rw [hy7]
          clear hy7
          refine wpAnyH_take (i := 0) (v := ?_) rfl (by kernel_rfl) (by kernel_rfl) (by kernel_rfl) (fun _ _ _ h => h) (Or.inl ⟨by kernel_rfl, by (intro wz hSz; go_simp; try with_reducible rfl)⟩) hS0 ?_
          go_simp
          refine wpAnyH_take (i := 2) (v := ?_) rfl (by kernel_rfl) (by kernel_rfl) (by kernel_rfl) (fun _ _ _ h => h) (Or.inl ⟨by kernel_rfl, by (intro wz hSz; go_simp; try with_reducible rfl)⟩) hS0 ?_
          go_simp
          refine wpAnyH_ready (rs := [1, 3]) (by kernel_rfl) (by simp) ?_
          refine AllReadyH.cons rfl (fun K hK => ?_) (AllReadyH.cons rfl (fun K hK => ?_) AllReadyH.nil)
          · skip
            go_simp
            go_wp2_with (go_at_call 44; refine (sum_any g (feeds press0 (acc ++ fk)) y7 hP7 (HT.out.on hU7) (by rw [feeds_n]; have := HLN.out; show 0 + _ < _; omega) (by have := HG0.out; have := hU7.size; omega) (by have := HG2.out; have := hU7.size; omega)).mono ?_; rintro e y8 ⟨rfl, hb8⟩)
            have hP8 := hP7.on hb8
            have hown8 := Ls.own_below hown7 hb8
            have hA8 := hA7.on hb8
            have hU8 := hU7.trans (hb8.mono hU7.size)
            have hz8 := hb8.size
            rw [show sumOf (feeds press0 (acc ++ fk)) = sha (acc ++ fk) from rfl, ← HDD.out]
            refine hK.out _ _ (trivial) (fun hSs8 => ?_)
            clear hK K
            refine wpAnyH_ready (rs := [3]) (by kernel_rfl) (by simp) ?_
            refine AllReadyH.cons rfl (fun K hK => ?_) AllReadyH.nil
            go_simp
            have hb9 := Ve.below_n1 y8 (.cells #[.slice al an ac] 67)
            have hN := heap_alloc_last y8 (.cells #[.slice al an ac] 67)
            obtain ⟨t1, ht1e⟩ : ∃ b, b = y8.heap.size := ⟨_, rfl⟩
            obtain ⟨y9, hy9⟩ : ∃ y, y8.alloc (.cells #[.slice al an ac] 67) = y := ⟨_, rfl⟩
            have hlt9 : y8.heap.size < y9.heap.size := by rw [← hy9]; simp
            rw [hy9] at hb9 hN ⊢
            rw [← ht1e] at hN hlt9 ⊢
            have hgt1 : g < t1 := by rw [ht1e]; exact lt_heap hP8.row
            have hwt1 : t1 < y9.heap.size := hlt9
            clear hy9 ht1e
            have hP9 := hP8.on hb9
            have hown9 := Ls.own_below hown8 hb9
            have hA9 := hA8.on hb9
            have hU9 := hU8.trans (hb9.mono hU8.size)
            have hz9 := hb9.size
            have hk9_t1 := hN
            clear hN
            refine hK.out _ _ (trivial) (fun hSa9 => ?_)
            clear hK K
            refine wpAnyH_ready (rs := [4]) (by kernel_rfl) (by simp) ?_
            refine AllReadyH.cons rfl (fun K hK => ?_) AllReadyH.nil
            have HPP10 := Lib.hid (show ∀ (w' : World) (g' : Nat), Below y9.heap.size y9 w' → y9.heap.size ≤ g' → Parts w' g' (.slice (some ⟨t1, 0, none⟩) 1 1) [acc ++ fk] from fun w' g' hb hg => by
              have h2 := (hb.block _ (lt_heap hk9_t1)).trans hk9_t1
              have hlm := lt_heap hk9_t1
              have hA' := hA9.on hb
              exact parts_one h2 (by omega) hA' (fun ad n c e _ => by cases e; have := (own_caps hown9).2.2 _ rfl; omega))
            have hof10 := of_any (.slice (some ⟨t1, 0, none⟩) 1 1) [acc ++ fk] y9 HPP10.out (by simp) (HT.out.on hU9) (by have := HLN.out; simp only [List.flatten_cons, List.flatten_nil, List.append_nil]; omega)
            rw [show ([acc ++ fk] : List (List UInt8)).flatten = acc ++ fk from by simp, ← HDD.out] at hof10
            have HOF10 := Lib.hid hof10
            clear hof10
            go_simp
            go_wp2_with (go_at_call 39; refine HOF10.out.mono ?_; rintro e y10 ⟨rfl, hb10⟩)
            have hP10 := hP9.on hb10
            have hown10 := Ls.own_below hown9 hb10
            have hA10 := hA9.on hb10
            have hU10 := hU9.trans (hb10.mono hU9.size)
            have hz10 := hb10.size
            have hk10_t1 := (hb10.block _ (lt_heap hk9_t1)).trans hk9_t1
            refine hK.out _ _ (trivial) (fun hSo10 => ?_)
            clear hK K
            refine wpAnyH_take (i := 5) (v := ?_) rfl (by kernel_rfl) (by kernel_rfl) (by kernel_rfl) (fun _ _ _ h => h) (Or.inl ⟨by kernel_rfl, by (intro wz hSz; go_simp; try with_reducible rfl)⟩) hSo10 ?_
            go_simp
            refine wpAnyH_take (i := 6) (v := ?_) rfl (by kernel_rfl) (by kernel_rfl) (by kernel_rfl) (fun _ _ _ h => h) (Or.inl ⟨by kernel_rfl, by (intro wz hSz; go_simp; try with_reducible rfl)⟩) hSo10 ?_
            go_simp
            refine wpAnyH_take (i := 7) (v := ?_) rfl (by kernel_rfl) (by kernel_rfl) (by kernel_rfl) (fun _ _ _ h => h) (Or.inl ⟨by kernel_rfl, by (intro wz hSz; go_simp; try with_reducible rfl)⟩) hSo10 ?_
            go_simp
            refine wpAnyH_take (i := 9) (v := ?_) rfl (by kernel_rfl) (by kernel_rfl) (by kernel_rfl) (fun _ _ _ h => h) (Or.inl ⟨by kernel_rfl, by (intro wz hSz; go_simp; try with_reducible rfl)⟩) hSo10 ?_
            go_simp
            refine wpAnyH_take (i := 10) (v := ?_) rfl (by kernel_rfl) (by kernel_rfl) (by kernel_rfl) (fun _ _ _ h => h) (Or.inl ⟨by kernel_rfl, by (intro wz hSz; go_simp; try with_reducible rfl)⟩) hSo10 ?_
            go_simp
            refine wpAnyH_take (i := 11) (v := ?_) rfl (by kernel_rfl) (by kernel_rfl) (by kernel_rfl) (fun _ _ _ h => h) (Or.inl ⟨by kernel_rfl, by (intro wz hSz; go_simp; try with_reducible rfl)⟩) hSo10 ?_
            go_simp
            refine wpAnyH_take (i := 12) (v := ?_) rfl (by kernel_rfl) (by kernel_rfl) (by kernel_rfl) (fun _ _ _ h => h) (Or.inl ⟨by kernel_rfl, by (intro wz hSz; go_simp; try with_reducible rfl)⟩) hSo10 ?_
            go_simp
            refine wpAnyH_take (i := 13) (v := ?_) rfl (by kernel_rfl) (by kernel_rfl) (by kernel_rfl) (fun _ _ _ h => h) (Or.inl ⟨by kernel_rfl, by (intro wz hSz; go_simp; try with_reducible rfl)⟩) hSo10 ?_
            go_simp
            refine wpAnyH_take (i := 14) (v := ?_) rfl (by kernel_rfl) (by kernel_rfl) (by kernel_rfl) (fun _ _ _ h => h) (Or.inl ⟨by kernel_rfl, by (intro wz hSz; go_simp; try with_reducible rfl)⟩) hSo10 ?_
            go_simp
            refine wpAnyH_take (i := 15) (v := ?_) rfl (by kernel_rfl) (by kernel_rfl) (by kernel_rfl) (fun _ _ _ h => h) (Or.inl ⟨by kernel_rfl, by (intro wz hSz; go_simp; try with_reducible rfl)⟩) hSo10 ?_
            go_simp
            refine wpAnyH_take (i := 16) (v := ?_) rfl (by kernel_rfl) (by kernel_rfl) (by kernel_rfl) (fun _ _ _ h => h) (Or.inl ⟨by kernel_rfl, by (intro wz hSz; go_simp; try with_reducible rfl)⟩) hSo10 ?_
            go_simp
            refine wpAnyH_take (i := 17) (v := ?_) rfl (by kernel_rfl) (by kernel_rfl) (by kernel_rfl) (fun _ _ _ h => h) (Or.inl ⟨by kernel_rfl, by (intro wz hSz; go_simp; try with_reducible rfl)⟩) hSo10 ?_
            go_simp
            refine wpAnyH_take (i := 18) (v := ?_) rfl (by kernel_rfl) (by kernel_rfl) (by kernel_rfl) (fun _ _ _ h => h) (Or.inl ⟨by kernel_rfl, by (intro wz hSz; go_simp; try with_reducible rfl)⟩) hSo10 ?_
            go_simp
            refine wpAnyH_ready (rs := [8, 19]) (by kernel_rfl) (by simp) ?_
            refine AllReadyH.cons rfl (fun K hK => ?_) (AllReadyH.cons rfl (fun K hK => ?_) AllReadyH.nil)
            · skip
              go_simp
              go_wp2_with (go_at_call 44; refine (sum_any g (feeds press0 (acc ++ fk)) y10 hP10 (HT.out.on hU10) (by rw [feeds_n]; have := HLN.out; show 0 + _ < _; omega) (by have := HG0.out; have := hU10.size; omega) (by have := HG2.out; have := hU10.size; omega)).mono ?_; rintro e y11 ⟨rfl, hb11⟩)
              have hP11 := hP10.on hb11
              have hown11 := Ls.own_below hown10 hb11
              have hA11 := hA10.on hb11
              have hU11 := hU10.trans (hb11.mono hU10.size)
              have hz11 := hb11.size
              rw [show sumOf (feeds press0 (acc ++ fk)) = sha (acc ++ fk) from rfl, ← HDD.out]
              have hk11_t1 := (hb11.block _ (lt_heap hk10_t1)).trans hk10_t1
              refine hK.out _ _ (trivial) (fun hSs11 => ?_)
              clear hK K
              refine wpAnyH_ready (rs := [19]) (by kernel_rfl) (by simp) ?_
              refine AllReadyH.cons rfl (fun K hK => ?_) AllReadyH.nil
              go_simp
              have hb12 := Ve.below_n1 y11 (.cells #[.slice al hf ac, .slice a2 n2 c2] 67)
              have hN := heap_alloc_last y11 (.cells #[.slice al hf ac, .slice a2 n2 c2] 67)
              obtain ⟨t2, ht2e⟩ : ∃ b, b = y11.heap.size := ⟨_, rfl⟩
              obtain ⟨y12, hy12⟩ : ∃ y, y11.alloc (.cells #[.slice al hf ac, .slice a2 n2 c2] 67) = y := ⟨_, rfl⟩
              have hlt12 : y11.heap.size < y12.heap.size := by rw [← hy12]; simp
              rw [hy12] at hb12 hN ⊢
              rw [← ht2e] at hN hlt12 ⊢
              have hgt2 : g < t2 := by rw [ht2e]; exact lt_heap hP11.row
              have hwt2 : t2 < y12.heap.size := hlt12
              clear hy12 ht2e
              have hP12 := hP11.on hb12
              have hown12 := Ls.own_below hown11 hb12
              have hA12 := hA11.on hb12
              have hU12 := hU11.trans (hb12.mono hU11.size)
              have hz12 := hb12.size
              have hk12_t1 := (hb12.block _ (lt_heap hk11_t1)).trans hk11_t1
              have hk12_t2 := hN
              clear hN
              refine hK.out _ _ (trivial) (fun hSa12 => ?_)
              clear hK K
              refine wpAnyH_ready (rs := [20]) (by kernel_rfl) (by simp) ?_
              refine AllReadyH.cons rfl (fun K hK => ?_) AllReadyH.nil
              have HPP13 := Lib.hid (show ∀ (w' : World) (g' : Nat), Below y12.heap.size y12 w' → y12.heap.size ≤ g' → Parts w' g' (.slice (some ⟨t2, 0, none⟩) 2 2) [(acc ++ fk).take hf, (acc ++ fk).drop hf] from fun w' g' hb hg => by
                have h2 := (hb.block _ (lt_heap hk12_t2)).trans hk12_t2
                have hlm := lt_heap hk12_t2
                have hA' := hA12.on hb
                have hH := (HHV.out w' hA')
                exact parts_two h2 (by omega) hH.1 (fun ad n c e _ => by cases e; have := (own_caps hown12).2.2 _ rfl; omega) hH.2 (fun ad n c e _ => by cases e; obtain ⟨b, e1, e2⟩ := HB2.out _ rfl; have := (own_caps hown12).2.2 _ e1; omega))
              have hof13 := of_any (.slice (some ⟨t2, 0, none⟩) 2 2) [(acc ++ fk).take hf, (acc ++ fk).drop hf] y12 HPP13.out (by simp) (HT.out.on hU12) (by have := HLN.out; simp only [List.flatten_cons, List.flatten_nil, List.append_nil, List.take_append_drop]; omega)
              rw [show ([(acc ++ fk).take hf, (acc ++ fk).drop hf] : List (List UInt8)).flatten = acc ++ fk from by simp, ← HDD.out] at hof13
              have HOF13 := Lib.hid hof13
              clear hof13
              go_simp
              go_wp2_with (go_at_call 39; refine HOF13.out.mono ?_; rintro e y13 ⟨rfl, hb13⟩)
              have hP13 := hP12.on hb13
              have hown13 := Ls.own_below hown12 hb13
              have hA13 := hA12.on hb13
              have hU13 := hU12.trans (hb13.mono hU12.size)
              have hz13 := hb13.size
              have hk13_t1 := (hb13.block _ (lt_heap hk12_t1)).trans hk12_t1
              have hk13_t2 := (hb13.block _ (lt_heap hk12_t2)).trans hk12_t2
              refine hK.out _ _ (trivial) (fun hSo13 => ?_)
              clear hK K
              refine wpAnyH_take (i := 21) (v := ?_) rfl (by kernel_rfl) (by kernel_rfl) (by kernel_rfl) (fun _ _ _ h => h) (Or.inl ⟨by kernel_rfl, by (intro wz hSz; go_simp; try with_reducible rfl)⟩) hSo13 ?_
              go_simp
              refine wpAnyH_take (i := 22) (v := ?_) rfl (by kernel_rfl) (by kernel_rfl) (by kernel_rfl) (fun _ _ _ h => h) (Or.inl ⟨by kernel_rfl, by (intro wz hSz; go_simp; try with_reducible rfl)⟩) hSo13 ?_
              go_simp
              refine wpAnyH_done (by kernel_rfl) ?_ _
              go_wp2_with fail
              go_roundw
              case rel => exact ⟨k + 1, acc ++ fk, al, ac, an, by omega, by omega, by go_num, HNL.out, HNN.out, rfl, Lib.hid hown13, Lib.hid hP13, Lib.hid hU13⟩
              case measure => simp [intOf]; omega
            · skip
              go_simp
              have hb11 := Ve.below_n1 y10 (.cells #[.slice al hf ac, .slice a2 n2 c2] 67)
              have hN := heap_alloc_last y10 (.cells #[.slice al hf ac, .slice a2 n2 c2] 67)
              obtain ⟨t2, ht2e⟩ : ∃ b, b = y10.heap.size := ⟨_, rfl⟩
              obtain ⟨y11, hy11⟩ : ∃ y, y10.alloc (.cells #[.slice al hf ac, .slice a2 n2 c2] 67) = y := ⟨_, rfl⟩
              have hlt11 : y10.heap.size < y11.heap.size := by rw [← hy11]; simp
              rw [hy11] at hb11 hN ⊢
              rw [← ht2e] at hN hlt11 ⊢
              have hgt2 : g < t2 := by rw [ht2e]; exact lt_heap hP10.row
              have hwt2 : t2 < y11.heap.size := hlt11
              clear hy11 ht2e
              have hP11 := hP10.on hb11
              have hown11 := Ls.own_below hown10 hb11
              have hA11 := hA10.on hb11
              have hU11 := hU10.trans (hb11.mono hU10.size)
              have hz11 := hb11.size
              have hk11_t1 := (hb11.block _ (lt_heap hk10_t1)).trans hk10_t1
              have hk11_t2 := hN
              clear hN
              refine hK.out _ _ (trivial) (fun hSa11 => ?_)
              clear hK K
              refine wpAnyH_ready (rs := [8]) (by kernel_rfl) (by simp) ?_
              refine AllReadyH.cons rfl (fun K hK => ?_) AllReadyH.nil
              go_simp
              go_wp2_with (go_at_call 44; refine (sum_any g (feeds press0 (acc ++ fk)) y11 hP11 (HT.out.on hU11) (by rw [feeds_n]; have := HLN.out; show 0 + _ < _; omega) (by have := HG0.out; have := hU11.size; omega) (by have := HG2.out; have := hU11.size; omega)).mono ?_; rintro e y12 ⟨rfl, hb12⟩)
              have hP12 := hP11.on hb12
              have hown12 := Ls.own_below hown11 hb12
              have hA12 := hA11.on hb12
              have hU12 := hU11.trans (hb12.mono hU11.size)
              have hz12 := hb12.size
              rw [show sumOf (feeds press0 (acc ++ fk)) = sha (acc ++ fk) from rfl, ← HDD.out]
              have hk12_t1 := (hb12.block _ (lt_heap hk11_t1)).trans hk11_t1
              have hk12_t2 := (hb12.block _ (lt_heap hk11_t2)).trans hk11_t2
              refine hK.out _ _ (trivial) (fun hSs12 => ?_)
              clear hK K
              refine wpAnyH_ready (rs := [20]) (by kernel_rfl) (by simp) ?_
              refine AllReadyH.cons rfl (fun K hK => ?_) AllReadyH.nil
              have HPP13 := Lib.hid (show ∀ (w' : World) (g' : Nat), Below y12.heap.size y12 w' → y12.heap.size ≤ g' → Parts w' g' (.slice (some ⟨t2, 0, none⟩) 2 2) [(acc ++ fk).take hf, (acc ++ fk).drop hf] from fun w' g' hb hg => by
                have h2 := (hb.block _ (lt_heap hk12_t2)).trans hk12_t2
                have hlm := lt_heap hk12_t2
                have hA' := hA12.on hb
                have hH := (HHV.out w' hA')
                exact parts_two h2 (by omega) hH.1 (fun ad n c e _ => by cases e; have := (own_caps hown12).2.2 _ rfl; omega) hH.2 (fun ad n c e _ => by cases e; obtain ⟨b, e1, e2⟩ := HB2.out _ rfl; have := (own_caps hown12).2.2 _ e1; omega))
              have hof13 := of_any (.slice (some ⟨t2, 0, none⟩) 2 2) [(acc ++ fk).take hf, (acc ++ fk).drop hf] y12 HPP13.out (by simp) (HT.out.on hU12) (by have := HLN.out; simp only [List.flatten_cons, List.flatten_nil, List.append_nil, List.take_append_drop]; omega)
              rw [show ([(acc ++ fk).take hf, (acc ++ fk).drop hf] : List (List UInt8)).flatten = acc ++ fk from by simp, ← HDD.out] at hof13
              have HOF13 := Lib.hid hof13
              clear hof13
              go_simp
              go_wp2_with (go_at_call 39; refine HOF13.out.mono ?_; rintro e y13 ⟨rfl, hb13⟩)
              have hP13 := hP12.on hb13
              have hown13 := Ls.own_below hown12 hb13
              have hA13 := hA12.on hb13
              have hU13 := hU12.trans (hb13.mono hU12.size)
              have hz13 := hb13.size
              have hk13_t1 := (hb13.block _ (lt_heap hk12_t1)).trans hk12_t1
              have hk13_t2 := (hb13.block _ (lt_heap hk12_t2)).trans hk12_t2
              refine hK.out _ _ (trivial) (fun hSo13 => ?_)
              clear hK K
              refine wpAnyH_take (i := 21) (v := ?_) rfl (by kernel_rfl) (by kernel_rfl) (by kernel_rfl) (fun _ _ _ h => h) (Or.inl ⟨by kernel_rfl, by (intro wz hSz; go_simp; try with_reducible rfl)⟩) hSo13 ?_
              go_simp
              refine wpAnyH_take (i := 22) (v := ?_) rfl (by kernel_rfl) (by kernel_rfl) (by kernel_rfl) (fun _ _ _ h => h) (Or.inl ⟨by kernel_rfl, by (intro wz hSz; go_simp; try with_reducible rfl)⟩) hSo13 ?_
              go_simp
              refine wpAnyH_done (by kernel_rfl) ?_ _
              go_wp2_with fail
              go_roundw
              case rel => exact ⟨k + 1, acc ++ fk, al, ac, an, by omega, by omega, by go_num, HNL.out, HNN.out, rfl, Lib.hid hown13, Lib.hid hP13, Lib.hid hU13⟩
              case measure => simp [intOf]; omega
          · skip
            go_simp
            have hb8 := Ve.below_n1 y7 (.cells #[.slice al an ac] 67)
            have hN := heap_alloc_last y7 (.cells #[.slice al an ac] 67)
            obtain ⟨t1, ht1e⟩ : ∃ b, b = y7.heap.size := ⟨_, rfl⟩
            obtain ⟨y8, hy8⟩ : ∃ y, y7.alloc (.cells #[.slice al an ac] 67) = y := ⟨_, rfl⟩
            have hlt8 : y7.heap.size < y8.heap.size := by rw [← hy8]; simp
            rw [hy8] at hb8 hN ⊢
            rw [← ht1e] at hN hlt8 ⊢
            have hgt1 : g < t1 := by rw [ht1e]; exact lt_heap hP7.row
            have hwt1 : t1 < y8.heap.size := hlt8
            clear hy8 ht1e
            have hP8 := hP7.on hb8
            have hown8 := Ls.own_below hown7 hb8
            have hA8 := hA7.on hb8
            have hU8 := hU7.trans (hb8.mono hU7.size)
            have hz8 := hb8.size
            have hk8_t1 := hN
            clear hN
            refine hK.out _ _ (trivial) (fun hSa8 => ?_)
            clear hK K
            refine wpAnyH_ready (rs := [1]) (by kernel_rfl) (by simp) ?_
            refine AllReadyH.cons rfl (fun K hK => ?_) AllReadyH.nil
            go_simp
            go_wp2_with (go_at_call 44; refine (sum_any g (feeds press0 (acc ++ fk)) y8 hP8 (HT.out.on hU8) (by rw [feeds_n]; have := HLN.out; show 0 + _ < _; omega) (by have := HG0.out; have := hU8.size; omega) (by have := HG2.out; have := hU8.size; omega)).mono ?_; rintro e y9 ⟨rfl, hb9⟩)
            have hP9 := hP8.on hb9
            have hown9 := Ls.own_below hown8 hb9
            have hA9 := hA8.on hb9
            have hU9 := hU8.trans (hb9.mono hU8.size)
            have hz9 := hb9.size
            rw [show sumOf (feeds press0 (acc ++ fk)) = sha (acc ++ fk) from rfl, ← HDD.out]
            have hk9_t1 := (hb9.block _ (lt_heap hk8_t1)).trans hk8_t1
            refine hK.out _ _ (trivial) (fun hSs9 => ?_)
            clear hK K
            refine wpAnyH_ready (rs := [4]) (by kernel_rfl) (by simp) ?_
            refine AllReadyH.cons rfl (fun K hK => ?_) AllReadyH.nil
            have HPP10 := Lib.hid (show ∀ (w' : World) (g' : Nat), Below y9.heap.size y9 w' → y9.heap.size ≤ g' → Parts w' g' (.slice (some ⟨t1, 0, none⟩) 1 1) [acc ++ fk] from fun w' g' hb hg => by
              have h2 := (hb.block _ (lt_heap hk9_t1)).trans hk9_t1
              have hlm := lt_heap hk9_t1
              have hA' := hA9.on hb
              exact parts_one h2 (by omega) hA' (fun ad n c e _ => by cases e; have := (own_caps hown9).2.2 _ rfl; omega))
            have hof10 := of_any (.slice (some ⟨t1, 0, none⟩) 1 1) [acc ++ fk] y9 HPP10.out (by simp) (HT.out.on hU9) (by have := HLN.out; simp only [List.flatten_cons, List.flatten_nil, List.append_nil]; omega)
            rw [show ([acc ++ fk] : List (List UInt8)).flatten = acc ++ fk from by simp, ← HDD.out] at hof10
            have HOF10 := Lib.hid hof10
            clear hof10
            go_simp
            go_wp2_with (go_at_call 39; refine HOF10.out.mono ?_; rintro e y10 ⟨rfl, hb10⟩)
            have hP10 := hP9.on hb10
            have hown10 := Ls.own_below hown9 hb10
            have hA10 := hA9.on hb10
            have hU10 := hU9.trans (hb10.mono hU9.size)
            have hz10 := hb10.size
            have hk10_t1 := (hb10.block _ (lt_heap hk9_t1)).trans hk9_t1
            refine hK.out _ _ (trivial) (fun hSo10 => ?_)
            clear hK K
            refine wpAnyH_take (i := 5) (v := ?_) rfl (by kernel_rfl) (by kernel_rfl) (by kernel_rfl) (fun _ _ _ h => h) (Or.inl ⟨by kernel_rfl, by (intro wz hSz; go_simp; try with_reducible rfl)⟩) hSo10 ?_
            go_simp
            refine wpAnyH_take (i := 6) (v := ?_) rfl (by kernel_rfl) (by kernel_rfl) (by kernel_rfl) (fun _ _ _ h => h) (Or.inl ⟨by kernel_rfl, by (intro wz hSz; go_simp; try with_reducible rfl)⟩) hSo10 ?_
            go_simp
            refine wpAnyH_take (i := 7) (v := ?_) rfl (by kernel_rfl) (by kernel_rfl) (by kernel_rfl) (fun _ _ _ h => h) (Or.inl ⟨by kernel_rfl, by (intro wz hSz; go_simp; try with_reducible rfl)⟩) hSo10 ?_
            go_simp
            refine wpAnyH_take (i := 9) (v := ?_) rfl (by kernel_rfl) (by kernel_rfl) (by kernel_rfl) (fun _ _ _ h => h) (Or.inl ⟨by kernel_rfl, by (intro wz hSz; go_simp; try with_reducible rfl)⟩) hSo10 ?_
            go_simp
            refine wpAnyH_take (i := 10) (v := ?_) rfl (by kernel_rfl) (by kernel_rfl) (by kernel_rfl) (fun _ _ _ h => h) (Or.inl ⟨by kernel_rfl, by (intro wz hSz; go_simp; try with_reducible rfl)⟩) hSo10 ?_
            go_simp
            refine wpAnyH_take (i := 11) (v := ?_) rfl (by kernel_rfl) (by kernel_rfl) (by kernel_rfl) (fun _ _ _ h => h) (Or.inl ⟨by kernel_rfl, by (intro wz hSz; go_simp; try with_reducible rfl)⟩) hSo10 ?_
            go_simp
            refine wpAnyH_take (i := 12) (v := ?_) rfl (by kernel_rfl) (by kernel_rfl) (by kernel_rfl) (fun _ _ _ h => h) (Or.inl ⟨by kernel_rfl, by (intro wz hSz; go_simp; try with_reducible rfl)⟩) hSo10 ?_
            go_simp
            refine wpAnyH_take (i := 13) (v := ?_) rfl (by kernel_rfl) (by kernel_rfl) (by kernel_rfl) (fun _ _ _ h => h) (Or.inl ⟨by kernel_rfl, by (intro wz hSz; go_simp; try with_reducible rfl)⟩) hSo10 ?_
            go_simp
            refine wpAnyH_take (i := 14) (v := ?_) rfl (by kernel_rfl) (by kernel_rfl) (by kernel_rfl) (fun _ _ _ h => h) (Or.inl ⟨by kernel_rfl, by (intro wz hSz; go_simp; try with_reducible rfl)⟩) hSo10 ?_
            go_simp
            refine wpAnyH_take (i := 15) (v := ?_) rfl (by kernel_rfl) (by kernel_rfl) (by kernel_rfl) (fun _ _ _ h => h) (Or.inl ⟨by kernel_rfl, by (intro wz hSz; go_simp; try with_reducible rfl)⟩) hSo10 ?_
            go_simp
            refine wpAnyH_take (i := 16) (v := ?_) rfl (by kernel_rfl) (by kernel_rfl) (by kernel_rfl) (fun _ _ _ h => h) (Or.inl ⟨by kernel_rfl, by (intro wz hSz; go_simp; try with_reducible rfl)⟩) hSo10 ?_
            go_simp
            refine wpAnyH_take (i := 17) (v := ?_) rfl (by kernel_rfl) (by kernel_rfl) (by kernel_rfl) (fun _ _ _ h => h) (Or.inl ⟨by kernel_rfl, by (intro wz hSz; go_simp; try with_reducible rfl)⟩) hSo10 ?_
            go_simp
            refine wpAnyH_take (i := 18) (v := ?_) rfl (by kernel_rfl) (by kernel_rfl) (by kernel_rfl) (fun _ _ _ h => h) (Or.inl ⟨by kernel_rfl, by (intro wz hSz; go_simp; try with_reducible rfl)⟩) hSo10 ?_
            go_simp
            refine wpAnyH_ready (rs := [8, 19]) (by kernel_rfl) (by simp) ?_
            refine AllReadyH.cons rfl (fun K hK => ?_) (AllReadyH.cons rfl (fun K hK => ?_) AllReadyH.nil)
            · skip
              go_simp
              go_wp2_with (go_at_call 44; refine (sum_any g (feeds press0 (acc ++ fk)) y10 hP10 (HT.out.on hU10) (by rw [feeds_n]; have := HLN.out; show 0 + _ < _; omega) (by have := HG0.out; have := hU10.size; omega) (by have := HG2.out; have := hU10.size; omega)).mono ?_; rintro e y11 ⟨rfl, hb11⟩)
              have hP11 := hP10.on hb11
              have hown11 := Ls.own_below hown10 hb11
              have hA11 := hA10.on hb11
              have hU11 := hU10.trans (hb11.mono hU10.size)
              have hz11 := hb11.size
              rw [show sumOf (feeds press0 (acc ++ fk)) = sha (acc ++ fk) from rfl, ← HDD.out]
              have hk11_t1 := (hb11.block _ (lt_heap hk10_t1)).trans hk10_t1
              refine hK.out _ _ (trivial) (fun hSs11 => ?_)
              clear hK K
              refine wpAnyH_ready (rs := [19]) (by kernel_rfl) (by simp) ?_
              refine AllReadyH.cons rfl (fun K hK => ?_) AllReadyH.nil
              go_simp
              have hb12 := Ve.below_n1 y11 (.cells #[.slice al hf ac, .slice a2 n2 c2] 67)
              have hN := heap_alloc_last y11 (.cells #[.slice al hf ac, .slice a2 n2 c2] 67)
              obtain ⟨t2, ht2e⟩ : ∃ b, b = y11.heap.size := ⟨_, rfl⟩
              obtain ⟨y12, hy12⟩ : ∃ y, y11.alloc (.cells #[.slice al hf ac, .slice a2 n2 c2] 67) = y := ⟨_, rfl⟩
              have hlt12 : y11.heap.size < y12.heap.size := by rw [← hy12]; simp
              rw [hy12] at hb12 hN ⊢
              rw [← ht2e] at hN hlt12 ⊢
              have hgt2 : g < t2 := by rw [ht2e]; exact lt_heap hP11.row
              have hwt2 : t2 < y12.heap.size := hlt12
              clear hy12 ht2e
              have hP12 := hP11.on hb12
              have hown12 := Ls.own_below hown11 hb12
              have hA12 := hA11.on hb12
              have hU12 := hU11.trans (hb12.mono hU11.size)
              have hz12 := hb12.size
              have hk12_t1 := (hb12.block _ (lt_heap hk11_t1)).trans hk11_t1
              have hk12_t2 := hN
              clear hN
              refine hK.out _ _ (trivial) (fun hSa12 => ?_)
              clear hK K
              refine wpAnyH_ready (rs := [20]) (by kernel_rfl) (by simp) ?_
              refine AllReadyH.cons rfl (fun K hK => ?_) AllReadyH.nil
              have HPP13 := Lib.hid (show ∀ (w' : World) (g' : Nat), Below y12.heap.size y12 w' → y12.heap.size ≤ g' → Parts w' g' (.slice (some ⟨t2, 0, none⟩) 2 2) [(acc ++ fk).take hf, (acc ++ fk).drop hf] from fun w' g' hb hg => by
                have h2 := (hb.block _ (lt_heap hk12_t2)).trans hk12_t2
                have hlm := lt_heap hk12_t2
                have hA' := hA12.on hb
                have hH := (HHV.out w' hA')
                exact parts_two h2 (by omega) hH.1 (fun ad n c e _ => by cases e; have := (own_caps hown12).2.2 _ rfl; omega) hH.2 (fun ad n c e _ => by cases e; obtain ⟨b, e1, e2⟩ := HB2.out _ rfl; have := (own_caps hown12).2.2 _ e1; omega))
              have hof13 := of_any (.slice (some ⟨t2, 0, none⟩) 2 2) [(acc ++ fk).take hf, (acc ++ fk).drop hf] y12 HPP13.out (by simp) (HT.out.on hU12) (by have := HLN.out; simp only [List.flatten_cons, List.flatten_nil, List.append_nil, List.take_append_drop]; omega)
              rw [show ([(acc ++ fk).take hf, (acc ++ fk).drop hf] : List (List UInt8)).flatten = acc ++ fk from by simp, ← HDD.out] at hof13
              have HOF13 := Lib.hid hof13
              clear hof13
              go_simp
              go_wp2_with (go_at_call 39; refine HOF13.out.mono ?_; rintro e y13 ⟨rfl, hb13⟩)
              have hP13 := hP12.on hb13
              have hown13 := Ls.own_below hown12 hb13
              have hA13 := hA12.on hb13
              have hU13 := hU12.trans (hb13.mono hU12.size)
              have hz13 := hb13.size
              have hk13_t1 := (hb13.block _ (lt_heap hk12_t1)).trans hk12_t1
              have hk13_t2 := (hb13.block _ (lt_heap hk12_t2)).trans hk12_t2
              refine hK.out _ _ (trivial) (fun hSo13 => ?_)
              clear hK K
              refine wpAnyH_take (i := 21) (v := ?_) rfl (by kernel_rfl) (by kernel_rfl) (by kernel_rfl) (fun _ _ _ h => h) (Or.inl ⟨by kernel_rfl, by (intro wz hSz; go_simp; try with_reducible rfl)⟩) hSo13 ?_
              go_simp
              refine wpAnyH_take (i := 22) (v := ?_) rfl (by kernel_rfl) (by kernel_rfl) (by kernel_rfl) (fun _ _ _ h => h) (Or.inl ⟨by kernel_rfl, by (intro wz hSz; go_simp; try with_reducible rfl)⟩) hSo13 ?_
              go_simp
              refine wpAnyH_done (by kernel_rfl) ?_ _
              go_wp2_with fail
              go_roundw
              case rel => exact ⟨k + 1, acc ++ fk, al, ac, an, by omega, by omega, by go_num, HNL.out, HNN.out, rfl, Lib.hid hown13, Lib.hid hP13, Lib.hid hU13⟩
              case measure => simp [intOf]; omega
            · skip
              go_simp
              have hb11 := Ve.below_n1 y10 (.cells #[.slice al hf ac, .slice a2 n2 c2] 67)
              have hN := heap_alloc_last y10 (.cells #[.slice al hf ac, .slice a2 n2 c2] 67)
              obtain ⟨t2, ht2e⟩ : ∃ b, b = y10.heap.size := ⟨_, rfl⟩
              obtain ⟨y11, hy11⟩ : ∃ y, y10.alloc (.cells #[.slice al hf ac, .slice a2 n2 c2] 67) = y := ⟨_, rfl⟩
              have hlt11 : y10.heap.size < y11.heap.size := by rw [← hy11]; simp
              rw [hy11] at hb11 hN ⊢
              rw [← ht2e] at hN hlt11 ⊢
              have hgt2 : g < t2 := by rw [ht2e]; exact lt_heap hP10.row
              have hwt2 : t2 < y11.heap.size := hlt11
              clear hy11 ht2e
              have hP11 := hP10.on hb11
              have hown11 := Ls.own_below hown10 hb11
              have hA11 := hA10.on hb11
              have hU11 := hU10.trans (hb11.mono hU10.size)
              have hz11 := hb11.size
              have hk11_t1 := (hb11.block _ (lt_heap hk10_t1)).trans hk10_t1
              have hk11_t2 := hN
              clear hN
              refine hK.out _ _ (trivial) (fun hSa11 => ?_)
              clear hK K
              refine wpAnyH_ready (rs := [8]) (by kernel_rfl) (by simp) ?_
              refine AllReadyH.cons rfl (fun K hK => ?_) AllReadyH.nil
              go_simp
              go_wp2_with (go_at_call 44; refine (sum_any g (feeds press0 (acc ++ fk)) y11 hP11 (HT.out.on hU11) (by rw [feeds_n]; have := HLN.out; show 0 + _ < _; omega) (by have := HG0.out; have := hU11.size; omega) (by have := HG2.out; have := hU11.size; omega)).mono ?_; rintro e y12 ⟨rfl, hb12⟩)
              have hP12 := hP11.on hb12
              have hown12 := Ls.own_below hown11 hb12
              have hA12 := hA11.on hb12
              have hU12 := hU11.trans (hb12.mono hU11.size)
              have hz12 := hb12.size
              rw [show sumOf (feeds press0 (acc ++ fk)) = sha (acc ++ fk) from rfl, ← HDD.out]
              have hk12_t1 := (hb12.block _ (lt_heap hk11_t1)).trans hk11_t1
              have hk12_t2 := (hb12.block _ (lt_heap hk11_t2)).trans hk11_t2
              refine hK.out _ _ (trivial) (fun hSs12 => ?_)
              clear hK K
              refine wpAnyH_ready (rs := [20]) (by kernel_rfl) (by simp) ?_
              refine AllReadyH.cons rfl (fun K hK => ?_) AllReadyH.nil
              have HPP13 := Lib.hid (show ∀ (w' : World) (g' : Nat), Below y12.heap.size y12 w' → y12.heap.size ≤ g' → Parts w' g' (.slice (some ⟨t2, 0, none⟩) 2 2) [(acc ++ fk).take hf, (acc ++ fk).drop hf] from fun w' g' hb hg => by
                have h2 := (hb.block _ (lt_heap hk12_t2)).trans hk12_t2
                have hlm := lt_heap hk12_t2
                have hA' := hA12.on hb
                have hH := (HHV.out w' hA')
                exact parts_two h2 (by omega) hH.1 (fun ad n c e _ => by cases e; have := (own_caps hown12).2.2 _ rfl; omega) hH.2 (fun ad n c e _ => by cases e; obtain ⟨b, e1, e2⟩ := HB2.out _ rfl; have := (own_caps hown12).2.2 _ e1; omega))
              have hof13 := of_any (.slice (some ⟨t2, 0, none⟩) 2 2) [(acc ++ fk).take hf, (acc ++ fk).drop hf] y12 HPP13.out (by simp) (HT.out.on hU12) (by have := HLN.out; simp only [List.flatten_cons, List.flatten_nil, List.append_nil, List.take_append_drop]; omega)
              rw [show ([(acc ++ fk).take hf, (acc ++ fk).drop hf] : List (List UInt8)).flatten = acc ++ fk from by simp, ← HDD.out] at hof13
              have HOF13 := Lib.hid hof13
              clear hof13
              go_simp
              go_wp2_with (go_at_call 39; refine HOF13.out.mono ?_; rintro e y13 ⟨rfl, hb13⟩)
              have hP13 := hP12.on hb13
              have hown13 := Ls.own_below hown12 hb13
              have hA13 := hA12.on hb13
              have hU13 := hU12.trans (hb13.mono hU12.size)
              have hz13 := hb13.size
              have hk13_t1 := (hb13.block _ (lt_heap hk12_t1)).trans hk12_t1
              have hk13_t2 := (hb13.block _ (lt_heap hk12_t2)).trans hk12_t2
              refine hK.out _ _ (trivial) (fun hSo13 => ?_)
              clear hK K
              refine wpAnyH_take (i := 21) (v := ?_) rfl (by kernel_rfl) (by kernel_rfl) (by kernel_rfl) (fun _ _ _ h => h) (Or.inl ⟨by kernel_rfl, by (intro wz hSz; go_simp; try with_reducible rfl)⟩) hSo13 ?_
              go_simp
              refine wpAnyH_take (i := 22) (v := ?_) rfl (by kernel_rfl) (by kernel_rfl) (by kernel_rfl) (fun _ _ _ h => h) (Or.inl ⟨by kernel_rfl, by (intro wz hSz; go_simp; try with_reducible rfl)⟩) hSo13 ?_
              go_simp
              refine wpAnyH_done (by kernel_rfl) ?_ _
              go_wp2_with fail
              go_roundw
              case rel => exact ⟨k + 1, acc ++ fk, al, ac, an, by omega, by omega, by go_num, HNL.out, HNN.out, rfl, Lib.hid hown13, Lib.hid hP13, Lib.hid hU13⟩
              case measure => simp [intOf]; omega
        · obtain ⟨n, hn⟩ : ∃ n, n = fk.length := ⟨_, rfl⟩
          rw [← hn] at hxs hcn
          subst hxs
          have HNK := Lib.hid hn
          have HXW := Lib.hid (show ∀ j u, (vals fk)[j]? = some u → wr.cell? (ad.add j) = some u from fun j u hu => by
            have := hxc j u hu
            rw [HU1.out.cell (World.block_lt_of_cell? w _ this)]; exact this)
          have HXO := Lib.hid hxc
          clear hn hxc
          by_cases hn2 : n ≤ 2000
          · have hn2' : ¬ (2000 : Int) < (n : Int) := by omega
            have hn2000 := hn2
            have hsz := HU1.out.size
            have HE0 := Lib.hid (World.ownsRow_lit (base := wr.heap.size) (size := 1) wr #[] 0 (e := 5) (Nat.le_refl _) (by unfold maxLen; omega) rfl)
            have HBE := Lib.hid (Ve.below_n1 wr (.cells #[] 5))
            have HXC := Lib.hid (fun j u hu => old1 (.cells #[] 5) (HXW.out j u hu))
            go_upto_region 8 with (first | (at_builtin; refine wpList_append_own _ rfl _ _ 67 rfl wr.heap.size 5 i0 (.int .u8 0) 1 1 Tryd.underlying67 hi hz0 hz1 hz2 rfl (by decide) _ _ _ rfl HE0.out ad n c (vals fk) rfl ?d1 HXC.out (vals_one _) ?d3 ?d4 ?d5 ?_))
            case d1 => simpa [vals_length] using HNK.out.symm
            case d3 => unfold maxLen; omega
            case d4 => omega
            intro v2 y2 hown2 hgrow2 _
            have hb2 : Below wr.heap.size wr y2 := (HBE.out).grown hgrow2 (by simp) (fun q hq => by simp [Value.ownBlock] at hq; omega)
            obtain ⟨a2i, c2i, hv2⟩ := own_form hown2
            subst hv2
            have hin : y2.ownsRow wr.heap.size 5 1 (.slice a2i (0 + n) c2i) (0 + n) (vals fk) := by simpa using hown2
            rw [Nat.zero_add] at hin
            try rw [Nat.zero_add]
            clear hown2 hgrow2 HXC
            go_wp2_with fail
            have hb3 := Ve.below_n1 y2 (.cells #[.slice a2i n c2i] 67)
            have hN3 := heap_alloc_last y2 (.cells #[.slice a2i n c2i] 67)
            obtain ⟨y3, hy3⟩ : ∃ y, y2.alloc (.cells #[.slice a2i n c2i] 67) = y := ⟨_, rfl⟩
            have hs3 : y3.heap.size = y2.heap.size + 1 := by rw [← hy3]; simp
            rw [hy3] at hb3 hN3 ⊢
            have hs12 := hb2.size
            have hb23 := hb2.trans (hb3.mono hb2.size)
            have hgl := lt_heap HP1.out.row
            have HP3 := Lib.hid (HP1.out.on hb23)
            have HO3 := Lib.hid (Ls.own_below HO1.out hb23)
            have HU3 := Lib.hid (HU1.out.trans (hb23.mono hsz))
            have HI3 := Lib.hid (Ls.own_below hin hb3)
            have HPT := Lib.hid (show Parts y3 g (.slice (some ⟨y2.heap.size, 0, none⟩) 1 1) [fk] from parts_one hN3 (by omega) (own_bsc' HNK.out HI3.out) (fun ad n' c' e _ => by cases e; have := (own_caps HI3.out).2.2 _ rfl; omega))
            clear hy3 hb3 hN3 hb2 hin hb23
            refine (write_any g (feeds press0 acc) _ [fk] y3 HPT.out (by simp) HP3.out (HT.out.on HU3.out) HQ0.out HQ2.out (by have := HAL.out; have := HNK.out; rw [feeds_n]; simp only [List.flatten_cons, List.flatten_nil, List.append_nil]; show 0 + _ + _ < _; omega)).mono ?_
            rintro e y4 ⟨rfl, hp4, ha4⟩
            have hs4 := ha4.size
            have HP4 := Lib.hid (show PrAt y4 g (feeds press0 (acc ++ fk)) by rw [feeds_app]; simpa using hp4)
            have HO4 := Lib.hid (show y4.ownsRow B0 5 1 (.slice al an ac) an (vals acc) from own_heap HO3.out (fun q hq => ha4.block q (by have := (HO3.out.lt q hq).1; have := HGB.out; omega) (HO3.out.lt q hq).2))
            have HU4 := Lib.hid (HU3.out.trans (ha4.below (B := w.heap.size) (fun b hb => by have := HGW.out; omega) HU3.out.size))
            have HI4 := Lib.hid (show y4.ownsRow wr.heap.size 5 1 (.slice a2i n c2i) n (vals fk) from own_heap HI3.out (fun q hq => ha4.block q (by have := (HI3.out.lt q hq).1; omega) (HI3.out.lt q hq).2))
            have HS4 := Lib.hid (show wr.heap.size ≤ y4.heap.size by omega)
            have HGL := Lib.hid hgl
            clear hp4 ha4 HP3 HO3 HU3 HI3 HPT hs3 hs12 hs4 hgl
            go_wp2_with fail
            obtain ⟨B1, hB1⟩ : ∃ B, B = wr.heap.size := ⟨_, rfl⟩
            have hi4 := HI4.out
            have hgl := HGL.out
            have hol : ∀ q, (Value.slice al an ac).ownBlock = some q → q < wr.heap.size := fun q hq => (HO1.out.lt q hq).2
            rw [← hB1] at hi4 hgl hol hsz
            have H5 := Lib.hid (turn_of hi4)
            have HGL1 := Lib.hid hgl
            have HOL := Lib.hid hol
            clear hi4 hgl hol hB1 HI4 HO1 HGL HP1 HU1
            go_loopw [34] (fun j wr => ∃ jj : Nat, jj ≤ n ∧ j = .int .i64 jj ∧ Hid (Turn B1 wr a2i n) ∧ Hid (Aw (fun b => b < B1) y4 wr)) (fun j _ => n - (intOf j).toNat)
            case atStart => exact ⟨0, by omega, rfl, H5, Lib.hid (Aw.refl _ _)⟩
            case round =>
              obtain ⟨jj, hj, rfl, H51, HAW⟩ := hrel
              by_cases hjl : jj < n
              · have hjl' : (jj : Int) < n := by omega
                obtain ⟨q, cs, hqa, hqB, hqc, hqz⟩ := (show ∃ q cs, a2i = some ⟨q, 0, none⟩ ∧ B1 ≤ q ∧ wr.heap[q]? = some (.cells cs 5 (0, 0)) ∧ ∀ i, i < n → ∃ z, cs[i]? = some (.int .u8 z) from by
                  rcases H51.out with h | h
                  · omega
                  · exact h)
                subst hqa
                obtain ⟨z, hz⟩ := hqz jj hjl
                have hcz : wr.cell? ⟨q, jj, none⟩ = some (.int .u8 z) := by simp [World.cell?, hqc, hz]
                have hfq := row_free hqc jj
                have HQC := Lib.hid hqc
                have HQZ := Lib.hid hqz
                clear hqc hqz
                go_wp2_with fail
                go_roundw
                case rel =>
                  refine ⟨jj + 1, by omega, by go_num, Lib.hid (.inr ⟨q, _, rfl, hqB, heap_setCell_same _ _ _ _ _ _ HQC.out, fun i hi => ?_⟩), Lib.hid (HAW.out.set (b := q) (by omega) _ _)⟩
                  by_cases e : jj = i
                  · subst e
                    have hlt := (Array.getElem?_eq_some_iff.1 hz).1
                    exact ⟨_, by rw [Array.getElem?_setIfInBounds, if_pos rfl, if_pos hlt]⟩
                  · rw [Array.getElem?_setIfInBounds, if_neg e]
                    exact HQZ.out i hi
                case measure => simp [intOf]; omega
              · have hjg : ¬ (jj : Int) < n := by omega
                have HU5 := Lib.hid (HU4.out.trans (HAW.out.below (B := w.heap.size) (fun b hb => by omega) HU4.out.size))
                have HP5 := Lib.hid (show PrAt wr g (feeds press0 (acc ++ fk)) from ⟨(HAW.out.block g HGL1.out (lt_heap HP4.out.row)).trans HP4.out.row, HP4.out.len⟩)
                have HO5 := Lib.hid (show wr.ownsRow B0 5 1 (.slice al an ac) an (vals acc) from own_heap HO4.out (fun q hq => HAW.out.block q (HOL.out q hq) (HO4.out.lt q hq).2))
                have HXC := Lib.hid (show ∀ j u, (vals fk)[j]? = some u → wr.cell? (ad.add j) = some u from fun j u hu => by
                  have h1 := HXO.out j u hu
                  rw [HU5.out.cell (World.block_lt_of_cell? w _ h1)]; exact h1)
                have HSW := Lib.hid HAW.out.size
                clear HAW H51 H5 HP4 HO4 HU4
                go_upto_region 15 with (first | (at_builtin; go_loud (refine wpList_append_own _ rfl _ _ 67 rfl B0 5 i0 (.int .u8 0) 1 1 Tryd.underlying67 hi hz0 hz1 hz2 rfl (by decide) _ _ _ rfl HO5.out ad n c (vals fk) rfl ?e1 HXC.out (vals_one _) ?e3 ?e4 ?e5 ?_)))
                case e1 => simpa [vals_length] using HNK.out.symm
                case e3 => unfold maxLen; omega
                case e4 => omega
                case e5 => have := HB0.out; have := lt_heap HP5.out.row; omega
                intro v6 y6 hown6 hgrow6 _
                obtain ⟨av, cv, hv6⟩ := own_form hown6
                subst hv6
                obtain ⟨nn, hnn⟩ : ∃ x, x = an + n := ⟨_, rfl⟩
                rw [← hnn, ← vals_append] at hown6
                rw [← hnn]
                have HO6 := Lib.hid hown6
                have HU6 := Lib.hid (HU5.out.grown hgrow6 HU5.out.size (fun q hq => by have := (HO5.out.lt q hq).1; have := HGB.out; have := HGW.out; omega))
                have HP6 := Lib.hid (show PrAt y6 g (feeds press0 (acc ++ fk)) from ⟨(hgrow6.block g (lt_heap HP5.out.row) (fun e => by have := (HO5.out.lt g e.symm).1; have := HGB.out; omega)).trans HP5.out.row, HP5.out.len⟩)
                have HNN := Lib.hid (show nn = (acc ++ fk).length by rw [List.length_append, hnn, HAL.out, HNK.out])
                have HNL := Lib.hid (show nn ≤ 2000 * (k + 1) by omega)
                clear hown6 hgrow6 hnn HP5 HO5 HU5 HXC
                go_upto_region 15 with fail
                have hnnb : nn ≤ 70000 := by have := HNL.out; omega
                have HLN := Lib.hid (show (acc ++ fk).length ≤ 70000 by rw [← HNN.out]; exact hnnb)
                obtain ⟨hf, hhf⟩ : ∃ x : Nat, x = nn / 2 := ⟨_, rfl⟩
                have hfi : (nn : Int) / 2 = (hf : Int) := by omega
                have hfl : hf ≤ nn := by omega
                clear hhf
                obtain ⟨a2, n2, c2, ha2, hn2, hc2, hhv, hb2⟩ := halves av nn cv hf (acc ++ fk) HNN.out hfl (own_caps HO6.out).1 (own_caps HO6.out).2.1
                have HHV := Lib.hid hhv
                have hwf : IntKind.i64.wrap (hf : Int) = hf := by rw [IntKind.wrap_i64]; omega
                have hcv := (own_caps HO6.out).2.1
                have hfc : (hf : Int) ≤ (cv : Int) := by omega
                have hfn : (hf : Int) ≤ (nn : Int) := by omega
                have HB2 := Lib.hid hb2
                obtain ⟨D, hD⟩ : ∃ D, D = (nums .u8 (sha (acc ++ fk))).toArray := ⟨_, rfl⟩
                have HDD := Lib.hid hD
                have hqD : ∀ W, (Op.equalIn 10000 81 (.agg D) (.agg D)).run Tryd.prog W = .ok true W := fun W => by rw [HDD.out]; exact eq_dig _ (sha_len _) W
                clear hhv hb2 hD
                refine wp_region_held_drew (S := fun _ => True) (by kernel_rfl) (trivial) (fun hS0 => ?_)
                obtain ⟨y7, hy7⟩ : ∃ y, y6.drew = y := ⟨_, rfl⟩
                have hP7 : PrAt y7 g (feeds press0 (acc ++ fk)) := by rw [← hy7]; exact HP6.out.on (Below.refl _ _).drew
                have hown7 : y7.ownsRow B0 5 1 (.slice av nn cv) nn (vals (acc ++ fk)) := by rw [← hy7]; exact Ls.own_below HO6.out (Below.refl _ _).drew
                have hA7 : BsC y7 (.slice av nn cv) (acc ++ fk) := own_bsc' HNN.out hown7
                have hU7 : Below w.heap.size w y7 := by rw [← hy7]; exact HU6.out.drew
                rw [hy7]
                clear hy7
                refine wpAnyH_take (i := 0) (v := ?_) rfl (by kernel_rfl) (by kernel_rfl) (by kernel_rfl) (fun _ _ _ h => h) (Or.inl ⟨by kernel_rfl, by (intro wz hSz; go_simp; try with_reducible rfl)⟩) hS0 ?_
                go_simp
                refine wpAnyH_take (i := 2) (v := ?_) rfl (by kernel_rfl) (by kernel_rfl) (by kernel_rfl) (fun _ _ _ h => h) (Or.inl ⟨by kernel_rfl, by (intro wz hSz; go_simp; try with_reducible rfl)⟩) hS0 ?_
                go_simp
                refine wpAnyH_ready (rs := [1, 3]) (by kernel_rfl) (by simp) ?_
                refine AllReadyH.cons rfl (fun K hK => ?_) (AllReadyH.cons rfl (fun K hK => ?_) AllReadyH.nil)
                · skip
                  go_simp
                  go_wp2_with (go_at_call 44; refine (sum_any g (feeds press0 (acc ++ fk)) y7 hP7 (HT.out.on hU7) (by rw [feeds_n]; have := HLN.out; show 0 + _ < _; omega) (by have := HG0.out; have := hU7.size; omega) (by have := HG2.out; have := hU7.size; omega)).mono ?_; rintro e y8 ⟨rfl, hb8⟩)
                  have hP8 := hP7.on hb8
                  have hown8 := Ls.own_below hown7 hb8
                  have hA8 := hA7.on hb8
                  have hU8 := hU7.trans (hb8.mono hU7.size)
                  have hz8 := hb8.size
                  rw [show sumOf (feeds press0 (acc ++ fk)) = sha (acc ++ fk) from rfl, ← HDD.out]
                  refine hK.out _ _ (trivial) (fun hSs8 => ?_)
                  clear hK K
                  refine wpAnyH_ready (rs := [3]) (by kernel_rfl) (by simp) ?_
                  refine AllReadyH.cons rfl (fun K hK => ?_) AllReadyH.nil
                  go_simp
                  have hb9 := Ve.below_n1 y8 (.cells #[.slice av nn cv] 67)
                  have hN := heap_alloc_last y8 (.cells #[.slice av nn cv] 67)
                  obtain ⟨t1, ht1e⟩ : ∃ b, b = y8.heap.size := ⟨_, rfl⟩
                  obtain ⟨y9, hy9⟩ : ∃ y, y8.alloc (.cells #[.slice av nn cv] 67) = y := ⟨_, rfl⟩
                  have hlt9 : y8.heap.size < y9.heap.size := by rw [← hy9]; simp
                  rw [hy9] at hb9 hN ⊢
                  rw [← ht1e] at hN hlt9 ⊢
                  have hgt1 : g < t1 := by rw [ht1e]; exact lt_heap hP8.row
                  have hwt1 : t1 < y9.heap.size := hlt9
                  clear hy9 ht1e
                  have hP9 := hP8.on hb9
                  have hown9 := Ls.own_below hown8 hb9
                  have hA9 := hA8.on hb9
                  have hU9 := hU8.trans (hb9.mono hU8.size)
                  have hz9 := hb9.size
                  have hk9_t1 := hN
                  clear hN
                  refine hK.out _ _ (trivial) (fun hSa9 => ?_)
                  clear hK K
                  refine wpAnyH_ready (rs := [4]) (by kernel_rfl) (by simp) ?_
                  refine AllReadyH.cons rfl (fun K hK => ?_) AllReadyH.nil
                  have HPP10 := Lib.hid (show ∀ (w' : World) (g' : Nat), Below y9.heap.size y9 w' → y9.heap.size ≤ g' → Parts w' g' (.slice (some ⟨t1, 0, none⟩) 1 1) [acc ++ fk] from fun w' g' hb hg => by
                    have h2 := (hb.block _ (lt_heap hk9_t1)).trans hk9_t1
                    have hlm := lt_heap hk9_t1
                    have hA' := hA9.on hb
                    exact parts_one h2 (by omega) hA' (fun ad n c e _ => by cases e; have := (own_caps hown9).2.2 _ rfl; omega))
                  have hof10 := of_any (.slice (some ⟨t1, 0, none⟩) 1 1) [acc ++ fk] y9 HPP10.out (by simp) (HT.out.on hU9) (by have := HLN.out; simp only [List.flatten_cons, List.flatten_nil, List.append_nil]; omega)
                  rw [show ([acc ++ fk] : List (List UInt8)).flatten = acc ++ fk from by simp, ← HDD.out] at hof10
                  have HOF10 := Lib.hid hof10
                  clear hof10
                  go_simp
                  go_wp2_with (go_at_call 39; refine HOF10.out.mono ?_; rintro e y10 ⟨rfl, hb10⟩)
                  have hP10 := hP9.on hb10
                  have hown10 := Ls.own_below hown9 hb10
                  have hA10 := hA9.on hb10
                  have hU10 := hU9.trans (hb10.mono hU9.size)
                  have hz10 := hb10.size
                  have hk10_t1 := (hb10.block _ (lt_heap hk9_t1)).trans hk9_t1
                  refine hK.out _ _ (trivial) (fun hSo10 => ?_)
                  clear hK K
                  refine wpAnyH_take (i := 5) (v := ?_) rfl (by kernel_rfl) (by kernel_rfl) (by kernel_rfl) (fun _ _ _ h => h) (Or.inl ⟨by kernel_rfl, by (intro wz hSz; go_simp; try with_reducible rfl)⟩) hSo10 ?_
                  go_simp
                  refine wpAnyH_take (i := 6) (v := ?_) rfl (by kernel_rfl) (by kernel_rfl) (by kernel_rfl) (fun _ _ _ h => h) (Or.inl ⟨by kernel_rfl, by (intro wz hSz; go_simp; try with_reducible rfl)⟩) hSo10 ?_
                  go_simp
                  refine wpAnyH_take (i := 7) (v := ?_) rfl (by kernel_rfl) (by kernel_rfl) (by kernel_rfl) (fun _ _ _ h => h) (Or.inl ⟨by kernel_rfl, by (intro wz hSz; go_simp; try with_reducible rfl)⟩) hSo10 ?_
                  go_simp
                  refine wpAnyH_take (i := 9) (v := ?_) rfl (by kernel_rfl) (by kernel_rfl) (by kernel_rfl) (fun _ _ _ h => h) (Or.inl ⟨by kernel_rfl, by (intro wz hSz; go_simp; try with_reducible rfl)⟩) hSo10 ?_
                  go_simp
                  refine wpAnyH_take (i := 10) (v := ?_) rfl (by kernel_rfl) (by kernel_rfl) (by kernel_rfl) (fun _ _ _ h => h) (Or.inl ⟨by kernel_rfl, by (intro wz hSz; go_simp; try with_reducible rfl)⟩) hSo10 ?_
                  go_simp
                  refine wpAnyH_take (i := 11) (v := ?_) rfl (by kernel_rfl) (by kernel_rfl) (by kernel_rfl) (fun _ _ _ h => h) (Or.inl ⟨by kernel_rfl, by (intro wz hSz; go_simp; try with_reducible rfl)⟩) hSo10 ?_
                  go_simp
                  refine wpAnyH_take (i := 12) (v := ?_) rfl (by kernel_rfl) (by kernel_rfl) (by kernel_rfl) (fun _ _ _ h => h) (Or.inl ⟨by kernel_rfl, by (intro wz hSz; go_simp; try with_reducible rfl)⟩) hSo10 ?_
                  go_simp
                  refine wpAnyH_take (i := 13) (v := ?_) rfl (by kernel_rfl) (by kernel_rfl) (by kernel_rfl) (fun _ _ _ h => h) (Or.inl ⟨by kernel_rfl, by (intro wz hSz; go_simp; try with_reducible rfl)⟩) hSo10 ?_
                  go_simp
                  refine wpAnyH_take (i := 14) (v := ?_) rfl (by kernel_rfl) (by kernel_rfl) (by kernel_rfl) (fun _ _ _ h => h) (Or.inl ⟨by kernel_rfl, by (intro wz hSz; go_simp; try with_reducible rfl)⟩) hSo10 ?_
                  go_simp
                  refine wpAnyH_take (i := 15) (v := ?_) rfl (by kernel_rfl) (by kernel_rfl) (by kernel_rfl) (fun _ _ _ h => h) (Or.inl ⟨by kernel_rfl, by (intro wz hSz; go_simp; try with_reducible rfl)⟩) hSo10 ?_
                  go_simp
                  refine wpAnyH_take (i := 16) (v := ?_) rfl (by kernel_rfl) (by kernel_rfl) (by kernel_rfl) (fun _ _ _ h => h) (Or.inl ⟨by kernel_rfl, by (intro wz hSz; go_simp; try with_reducible rfl)⟩) hSo10 ?_
                  go_simp
                  refine wpAnyH_take (i := 17) (v := ?_) rfl (by kernel_rfl) (by kernel_rfl) (by kernel_rfl) (fun _ _ _ h => h) (Or.inl ⟨by kernel_rfl, by (intro wz hSz; go_simp; try with_reducible rfl)⟩) hSo10 ?_
                  go_simp
                  refine wpAnyH_take (i := 18) (v := ?_) rfl (by kernel_rfl) (by kernel_rfl) (by kernel_rfl) (fun _ _ _ h => h) (Or.inl ⟨by kernel_rfl, by (intro wz hSz; go_simp; try with_reducible rfl)⟩) hSo10 ?_
                  go_simp
                  refine wpAnyH_ready (rs := [8, 19]) (by kernel_rfl) (by simp) ?_
                  refine AllReadyH.cons rfl (fun K hK => ?_) (AllReadyH.cons rfl (fun K hK => ?_) AllReadyH.nil)
                  · skip
                    go_simp
                    go_wp2_with (go_at_call 44; refine (sum_any g (feeds press0 (acc ++ fk)) y10 hP10 (HT.out.on hU10) (by rw [feeds_n]; have := HLN.out; show 0 + _ < _; omega) (by have := HG0.out; have := hU10.size; omega) (by have := HG2.out; have := hU10.size; omega)).mono ?_; rintro e y11 ⟨rfl, hb11⟩)
                    have hP11 := hP10.on hb11
                    have hown11 := Ls.own_below hown10 hb11
                    have hA11 := hA10.on hb11
                    have hU11 := hU10.trans (hb11.mono hU10.size)
                    have hz11 := hb11.size
                    rw [show sumOf (feeds press0 (acc ++ fk)) = sha (acc ++ fk) from rfl, ← HDD.out]
                    have hk11_t1 := (hb11.block _ (lt_heap hk10_t1)).trans hk10_t1
                    refine hK.out _ _ (trivial) (fun hSs11 => ?_)
                    clear hK K
                    refine wpAnyH_ready (rs := [19]) (by kernel_rfl) (by simp) ?_
                    refine AllReadyH.cons rfl (fun K hK => ?_) AllReadyH.nil
                    go_simp
                    have hb12 := Ve.below_n1 y11 (.cells #[.slice av hf cv, .slice a2 n2 c2] 67)
                    have hN := heap_alloc_last y11 (.cells #[.slice av hf cv, .slice a2 n2 c2] 67)
                    obtain ⟨t2, ht2e⟩ : ∃ b, b = y11.heap.size := ⟨_, rfl⟩
                    obtain ⟨y12, hy12⟩ : ∃ y, y11.alloc (.cells #[.slice av hf cv, .slice a2 n2 c2] 67) = y := ⟨_, rfl⟩
                    have hlt12 : y11.heap.size < y12.heap.size := by rw [← hy12]; simp
                    rw [hy12] at hb12 hN ⊢
                    rw [← ht2e] at hN hlt12 ⊢
                    have hgt2 : g < t2 := by rw [ht2e]; exact lt_heap hP11.row
                    have hwt2 : t2 < y12.heap.size := hlt12
                    clear hy12 ht2e
                    have hP12 := hP11.on hb12
                    have hown12 := Ls.own_below hown11 hb12
                    have hA12 := hA11.on hb12
                    have hU12 := hU11.trans (hb12.mono hU11.size)
                    have hz12 := hb12.size
                    have hk12_t1 := (hb12.block _ (lt_heap hk11_t1)).trans hk11_t1
                    have hk12_t2 := hN
                    clear hN
                    refine hK.out _ _ (trivial) (fun hSa12 => ?_)
                    clear hK K
                    refine wpAnyH_ready (rs := [20]) (by kernel_rfl) (by simp) ?_
                    refine AllReadyH.cons rfl (fun K hK => ?_) AllReadyH.nil
                    have HPP13 := Lib.hid (show ∀ (w' : World) (g' : Nat), Below y12.heap.size y12 w' → y12.heap.size ≤ g' → Parts w' g' (.slice (some ⟨t2, 0, none⟩) 2 2) [(acc ++ fk).take hf, (acc ++ fk).drop hf] from fun w' g' hb hg => by
                      have h2 := (hb.block _ (lt_heap hk12_t2)).trans hk12_t2
                      have hlm := lt_heap hk12_t2
                      have hA' := hA12.on hb
                      have hH := (HHV.out w' hA')
                      exact parts_two h2 (by omega) hH.1 (fun ad n c e _ => by cases e; have := (own_caps hown12).2.2 _ rfl; omega) hH.2 (fun ad n c e _ => by cases e; obtain ⟨b, e1, e2⟩ := HB2.out _ rfl; have := (own_caps hown12).2.2 _ e1; omega))
                    have hof13 := of_any (.slice (some ⟨t2, 0, none⟩) 2 2) [(acc ++ fk).take hf, (acc ++ fk).drop hf] y12 HPP13.out (by simp) (HT.out.on hU12) (by have := HLN.out; simp only [List.flatten_cons, List.flatten_nil, List.append_nil, List.take_append_drop]; omega)
                    rw [show ([(acc ++ fk).take hf, (acc ++ fk).drop hf] : List (List UInt8)).flatten = acc ++ fk from by simp, ← HDD.out] at hof13
                    have HOF13 := Lib.hid hof13
                    clear hof13
                    go_simp
                    go_wp2_with (go_at_call 39; refine HOF13.out.mono ?_; rintro e y13 ⟨rfl, hb13⟩)
                    have hP13 := hP12.on hb13
                    have hown13 := Ls.own_below hown12 hb13
                    have hA13 := hA12.on hb13
                    have hU13 := hU12.trans (hb13.mono hU12.size)
                    have hz13 := hb13.size
                    have hk13_t1 := (hb13.block _ (lt_heap hk12_t1)).trans hk12_t1
                    have hk13_t2 := (hb13.block _ (lt_heap hk12_t2)).trans hk12_t2
                    refine hK.out _ _ (trivial) (fun hSo13 => ?_)
                    clear hK K
                    refine wpAnyH_take (i := 21) (v := ?_) rfl (by kernel_rfl) (by kernel_rfl) (by kernel_rfl) (fun _ _ _ h => h) (Or.inl ⟨by kernel_rfl, by (intro wz hSz; go_simp; try with_reducible rfl)⟩) hSo13 ?_
                    go_simp
                    refine wpAnyH_take (i := 22) (v := ?_) rfl (by kernel_rfl) (by kernel_rfl) (by kernel_rfl) (fun _ _ _ h => h) (Or.inl ⟨by kernel_rfl, by (intro wz hSz; go_simp; try with_reducible rfl)⟩) hSo13 ?_
                    go_simp
                    refine wpAnyH_done (by kernel_rfl) ?_ _
                    go_wp2_with fail
                    go_roundw
                    case rel => exact ⟨k + 1, acc ++ fk, av, cv, nn, by omega, by omega, by go_num, HNL.out, HNN.out, rfl, Lib.hid hown13, Lib.hid hP13, Lib.hid hU13⟩
                    case measure => simp [intOf]; omega
                  · skip
                    go_simp
                    have hb11 := Ve.below_n1 y10 (.cells #[.slice av hf cv, .slice a2 n2 c2] 67)
                    have hN := heap_alloc_last y10 (.cells #[.slice av hf cv, .slice a2 n2 c2] 67)
                    obtain ⟨t2, ht2e⟩ : ∃ b, b = y10.heap.size := ⟨_, rfl⟩
                    obtain ⟨y11, hy11⟩ : ∃ y, y10.alloc (.cells #[.slice av hf cv, .slice a2 n2 c2] 67) = y := ⟨_, rfl⟩
                    have hlt11 : y10.heap.size < y11.heap.size := by rw [← hy11]; simp
                    rw [hy11] at hb11 hN ⊢
                    rw [← ht2e] at hN hlt11 ⊢
                    have hgt2 : g < t2 := by rw [ht2e]; exact lt_heap hP10.row
                    have hwt2 : t2 < y11.heap.size := hlt11
                    clear hy11 ht2e
                    have hP11 := hP10.on hb11
                    have hown11 := Ls.own_below hown10 hb11
                    have hA11 := hA10.on hb11
                    have hU11 := hU10.trans (hb11.mono hU10.size)
                    have hz11 := hb11.size
                    have hk11_t1 := (hb11.block _ (lt_heap hk10_t1)).trans hk10_t1
                    have hk11_t2 := hN
                    clear hN
                    refine hK.out _ _ (trivial) (fun hSa11 => ?_)
                    clear hK K
                    refine wpAnyH_ready (rs := [8]) (by kernel_rfl) (by simp) ?_
                    refine AllReadyH.cons rfl (fun K hK => ?_) AllReadyH.nil
                    go_simp
                    go_wp2_with (go_at_call 44; refine (sum_any g (feeds press0 (acc ++ fk)) y11 hP11 (HT.out.on hU11) (by rw [feeds_n]; have := HLN.out; show 0 + _ < _; omega) (by have := HG0.out; have := hU11.size; omega) (by have := HG2.out; have := hU11.size; omega)).mono ?_; rintro e y12 ⟨rfl, hb12⟩)
                    have hP12 := hP11.on hb12
                    have hown12 := Ls.own_below hown11 hb12
                    have hA12 := hA11.on hb12
                    have hU12 := hU11.trans (hb12.mono hU11.size)
                    have hz12 := hb12.size
                    rw [show sumOf (feeds press0 (acc ++ fk)) = sha (acc ++ fk) from rfl, ← HDD.out]
                    have hk12_t1 := (hb12.block _ (lt_heap hk11_t1)).trans hk11_t1
                    have hk12_t2 := (hb12.block _ (lt_heap hk11_t2)).trans hk11_t2
                    refine hK.out _ _ (trivial) (fun hSs12 => ?_)
                    clear hK K
                    refine wpAnyH_ready (rs := [20]) (by kernel_rfl) (by simp) ?_
                    refine AllReadyH.cons rfl (fun K hK => ?_) AllReadyH.nil
                    have HPP13 := Lib.hid (show ∀ (w' : World) (g' : Nat), Below y12.heap.size y12 w' → y12.heap.size ≤ g' → Parts w' g' (.slice (some ⟨t2, 0, none⟩) 2 2) [(acc ++ fk).take hf, (acc ++ fk).drop hf] from fun w' g' hb hg => by
                      have h2 := (hb.block _ (lt_heap hk12_t2)).trans hk12_t2
                      have hlm := lt_heap hk12_t2
                      have hA' := hA12.on hb
                      have hH := (HHV.out w' hA')
                      exact parts_two h2 (by omega) hH.1 (fun ad n c e _ => by cases e; have := (own_caps hown12).2.2 _ rfl; omega) hH.2 (fun ad n c e _ => by cases e; obtain ⟨b, e1, e2⟩ := HB2.out _ rfl; have := (own_caps hown12).2.2 _ e1; omega))
                    have hof13 := of_any (.slice (some ⟨t2, 0, none⟩) 2 2) [(acc ++ fk).take hf, (acc ++ fk).drop hf] y12 HPP13.out (by simp) (HT.out.on hU12) (by have := HLN.out; simp only [List.flatten_cons, List.flatten_nil, List.append_nil, List.take_append_drop]; omega)
                    rw [show ([(acc ++ fk).take hf, (acc ++ fk).drop hf] : List (List UInt8)).flatten = acc ++ fk from by simp, ← HDD.out] at hof13
                    have HOF13 := Lib.hid hof13
                    clear hof13
                    go_simp
                    go_wp2_with (go_at_call 39; refine HOF13.out.mono ?_; rintro e y13 ⟨rfl, hb13⟩)
                    have hP13 := hP12.on hb13
                    have hown13 := Ls.own_below hown12 hb13
                    have hA13 := hA12.on hb13
                    have hU13 := hU12.trans (hb13.mono hU12.size)
                    have hz13 := hb13.size
                    have hk13_t1 := (hb13.block _ (lt_heap hk12_t1)).trans hk12_t1
                    have hk13_t2 := (hb13.block _ (lt_heap hk12_t2)).trans hk12_t2
                    refine hK.out _ _ (trivial) (fun hSo13 => ?_)
                    clear hK K
                    refine wpAnyH_take (i := 21) (v := ?_) rfl (by kernel_rfl) (by kernel_rfl) (by kernel_rfl) (fun _ _ _ h => h) (Or.inl ⟨by kernel_rfl, by (intro wz hSz; go_simp; try with_reducible rfl)⟩) hSo13 ?_
                    go_simp
                    refine wpAnyH_take (i := 22) (v := ?_) rfl (by kernel_rfl) (by kernel_rfl) (by kernel_rfl) (fun _ _ _ h => h) (Or.inl ⟨by kernel_rfl, by (intro wz hSz; go_simp; try with_reducible rfl)⟩) hSo13 ?_
                    go_simp
                    refine wpAnyH_done (by kernel_rfl) ?_ _
                    go_wp2_with fail
                    go_roundw
                    case rel => exact ⟨k + 1, acc ++ fk, av, cv, nn, by omega, by omega, by go_num, HNL.out, HNN.out, rfl, Lib.hid hown13, Lib.hid hP13, Lib.hid hU13⟩
                    case measure => simp [intOf]; omega
                · skip
                  go_simp
                  have hb8 := Ve.below_n1 y7 (.cells #[.slice av nn cv] 67)
                  have hN := heap_alloc_last y7 (.cells #[.slice av nn cv] 67)
                  obtain ⟨t1, ht1e⟩ : ∃ b, b = y7.heap.size := ⟨_, rfl⟩
                  obtain ⟨y8, hy8⟩ : ∃ y, y7.alloc (.cells #[.slice av nn cv] 67) = y := ⟨_, rfl⟩
                  have hlt8 : y7.heap.size < y8.heap.size := by rw [← hy8]; simp
                  rw [hy8] at hb8 hN ⊢
                  rw [← ht1e] at hN hlt8 ⊢
                  have hgt1 : g < t1 := by rw [ht1e]; exact lt_heap hP7.row
                  have hwt1 : t1 < y8.heap.size := hlt8
                  clear hy8 ht1e
                  have hP8 := hP7.on hb8
                  have hown8 := Ls.own_below hown7 hb8
                  have hA8 := hA7.on hb8
                  have hU8 := hU7.trans (hb8.mono hU7.size)
                  have hz8 := hb8.size
                  have hk8_t1 := hN
                  clear hN
                  refine hK.out _ _ (trivial) (fun hSa8 => ?_)
                  clear hK K
                  refine wpAnyH_ready (rs := [1]) (by kernel_rfl) (by simp) ?_
                  refine AllReadyH.cons rfl (fun K hK => ?_) AllReadyH.nil
                  go_simp
                  go_wp2_with (go_at_call 44; refine (sum_any g (feeds press0 (acc ++ fk)) y8 hP8 (HT.out.on hU8) (by rw [feeds_n]; have := HLN.out; show 0 + _ < _; omega) (by have := HG0.out; have := hU8.size; omega) (by have := HG2.out; have := hU8.size; omega)).mono ?_; rintro e y9 ⟨rfl, hb9⟩)
                  have hP9 := hP8.on hb9
                  have hown9 := Ls.own_below hown8 hb9
                  have hA9 := hA8.on hb9
                  have hU9 := hU8.trans (hb9.mono hU8.size)
                  have hz9 := hb9.size
                  rw [show sumOf (feeds press0 (acc ++ fk)) = sha (acc ++ fk) from rfl, ← HDD.out]
                  have hk9_t1 := (hb9.block _ (lt_heap hk8_t1)).trans hk8_t1
                  refine hK.out _ _ (trivial) (fun hSs9 => ?_)
                  clear hK K
                  refine wpAnyH_ready (rs := [4]) (by kernel_rfl) (by simp) ?_
                  refine AllReadyH.cons rfl (fun K hK => ?_) AllReadyH.nil
                  have HPP10 := Lib.hid (show ∀ (w' : World) (g' : Nat), Below y9.heap.size y9 w' → y9.heap.size ≤ g' → Parts w' g' (.slice (some ⟨t1, 0, none⟩) 1 1) [acc ++ fk] from fun w' g' hb hg => by
                    have h2 := (hb.block _ (lt_heap hk9_t1)).trans hk9_t1
                    have hlm := lt_heap hk9_t1
                    have hA' := hA9.on hb
                    exact parts_one h2 (by omega) hA' (fun ad n c e _ => by cases e; have := (own_caps hown9).2.2 _ rfl; omega))
                  have hof10 := of_any (.slice (some ⟨t1, 0, none⟩) 1 1) [acc ++ fk] y9 HPP10.out (by simp) (HT.out.on hU9) (by have := HLN.out; simp only [List.flatten_cons, List.flatten_nil, List.append_nil]; omega)
                  rw [show ([acc ++ fk] : List (List UInt8)).flatten = acc ++ fk from by simp, ← HDD.out] at hof10
                  have HOF10 := Lib.hid hof10
                  clear hof10
                  go_simp
                  go_wp2_with (go_at_call 39; refine HOF10.out.mono ?_; rintro e y10 ⟨rfl, hb10⟩)
                  have hP10 := hP9.on hb10
                  have hown10 := Ls.own_below hown9 hb10
                  have hA10 := hA9.on hb10
                  have hU10 := hU9.trans (hb10.mono hU9.size)
                  have hz10 := hb10.size
                  have hk10_t1 := (hb10.block _ (lt_heap hk9_t1)).trans hk9_t1
                  refine hK.out _ _ (trivial) (fun hSo10 => ?_)
                  clear hK K
                  refine wpAnyH_take (i := 5) (v := ?_) rfl (by kernel_rfl) (by kernel_rfl) (by kernel_rfl) (fun _ _ _ h => h) (Or.inl ⟨by kernel_rfl, by (intro wz hSz; go_simp; try with_reducible rfl)⟩) hSo10 ?_
                  go_simp
                  refine wpAnyH_take (i := 6) (v := ?_) rfl (by kernel_rfl) (by kernel_rfl) (by kernel_rfl) (fun _ _ _ h => h) (Or.inl ⟨by kernel_rfl, by (intro wz hSz; go_simp; try with_reducible rfl)⟩) hSo10 ?_
                  go_simp
                  refine wpAnyH_take (i := 7) (v := ?_) rfl (by kernel_rfl) (by kernel_rfl) (by kernel_rfl) (fun _ _ _ h => h) (Or.inl ⟨by kernel_rfl, by (intro wz hSz; go_simp; try with_reducible rfl)⟩) hSo10 ?_
                  go_simp
                  refine wpAnyH_take (i := 9) (v := ?_) rfl (by kernel_rfl) (by kernel_rfl) (by kernel_rfl) (fun _ _ _ h => h) (Or.inl ⟨by kernel_rfl, by (intro wz hSz; go_simp; try with_reducible rfl)⟩) hSo10 ?_
                  go_simp
                  refine wpAnyH_take (i := 10) (v := ?_) rfl (by kernel_rfl) (by kernel_rfl) (by kernel_rfl) (fun _ _ _ h => h) (Or.inl ⟨by kernel_rfl, by (intro wz hSz; go_simp; try with_reducible rfl)⟩) hSo10 ?_
                  go_simp
                  refine wpAnyH_take (i := 11) (v := ?_) rfl (by kernel_rfl) (by kernel_rfl) (by kernel_rfl) (fun _ _ _ h => h) (Or.inl ⟨by kernel_rfl, by (intro wz hSz; go_simp; try with_reducible rfl)⟩) hSo10 ?_
                  go_simp
                  refine wpAnyH_take (i := 12) (v := ?_) rfl (by kernel_rfl) (by kernel_rfl) (by kernel_rfl) (fun _ _ _ h => h) (Or.inl ⟨by kernel_rfl, by (intro wz hSz; go_simp; try with_reducible rfl)⟩) hSo10 ?_
                  go_simp
                  refine wpAnyH_take (i := 13) (v := ?_) rfl (by kernel_rfl) (by kernel_rfl) (by kernel_rfl) (fun _ _ _ h => h) (Or.inl ⟨by kernel_rfl, by (intro wz hSz; go_simp; try with_reducible rfl)⟩) hSo10 ?_
                  go_simp
                  refine wpAnyH_take (i := 14) (v := ?_) rfl (by kernel_rfl) (by kernel_rfl) (by kernel_rfl) (fun _ _ _ h => h) (Or.inl ⟨by kernel_rfl, by (intro wz hSz; go_simp; try with_reducible rfl)⟩) hSo10 ?_
                  go_simp
                  refine wpAnyH_take (i := 15) (v := ?_) rfl (by kernel_rfl) (by kernel_rfl) (by kernel_rfl) (fun _ _ _ h => h) (Or.inl ⟨by kernel_rfl, by (intro wz hSz; go_simp; try with_reducible rfl)⟩) hSo10 ?_
                  go_simp
                  refine wpAnyH_take (i := 16) (v := ?_) rfl (by kernel_rfl) (by kernel_rfl) (by kernel_rfl) (fun _ _ _ h => h) (Or.inl ⟨by kernel_rfl, by (intro wz hSz; go_simp; try with_reducible rfl)⟩) hSo10 ?_
                  go_simp
                  refine wpAnyH_take (i := 17) (v := ?_) rfl (by kernel_rfl) (by kernel_rfl) (by kernel_rfl) (fun _ _ _ h => h) (Or.inl ⟨by kernel_rfl, by (intro wz hSz; go_simp; try with_reducible rfl)⟩) hSo10 ?_
                  go_simp
                  refine wpAnyH_take (i := 18) (v := ?_) rfl (by kernel_rfl) (by kernel_rfl) (by kernel_rfl) (fun _ _ _ h => h) (Or.inl ⟨by kernel_rfl, by (intro wz hSz; go_simp; try with_reducible rfl)⟩) hSo10 ?_
                  go_simp
                  refine wpAnyH_ready (rs := [8, 19]) (by kernel_rfl) (by simp) ?_
                  refine AllReadyH.cons rfl (fun K hK => ?_) (AllReadyH.cons rfl (fun K hK => ?_) AllReadyH.nil)
                  · skip
                    go_simp
                    go_wp2_with (go_at_call 44; refine (sum_any g (feeds press0 (acc ++ fk)) y10 hP10 (HT.out.on hU10) (by rw [feeds_n]; have := HLN.out; show 0 + _ < _; omega) (by have := HG0.out; have := hU10.size; omega) (by have := HG2.out; have := hU10.size; omega)).mono ?_; rintro e y11 ⟨rfl, hb11⟩)
                    have hP11 := hP10.on hb11
                    have hown11 := Ls.own_below hown10 hb11
                    have hA11 := hA10.on hb11
                    have hU11 := hU10.trans (hb11.mono hU10.size)
                    have hz11 := hb11.size
                    rw [show sumOf (feeds press0 (acc ++ fk)) = sha (acc ++ fk) from rfl, ← HDD.out]
                    have hk11_t1 := (hb11.block _ (lt_heap hk10_t1)).trans hk10_t1
                    refine hK.out _ _ (trivial) (fun hSs11 => ?_)
                    clear hK K
                    refine wpAnyH_ready (rs := [19]) (by kernel_rfl) (by simp) ?_
                    refine AllReadyH.cons rfl (fun K hK => ?_) AllReadyH.nil
                    go_simp
                    have hb12 := Ve.below_n1 y11 (.cells #[.slice av hf cv, .slice a2 n2 c2] 67)
                    have hN := heap_alloc_last y11 (.cells #[.slice av hf cv, .slice a2 n2 c2] 67)
                    obtain ⟨t2, ht2e⟩ : ∃ b, b = y11.heap.size := ⟨_, rfl⟩
                    obtain ⟨y12, hy12⟩ : ∃ y, y11.alloc (.cells #[.slice av hf cv, .slice a2 n2 c2] 67) = y := ⟨_, rfl⟩
                    have hlt12 : y11.heap.size < y12.heap.size := by rw [← hy12]; simp
                    rw [hy12] at hb12 hN ⊢
                    rw [← ht2e] at hN hlt12 ⊢
                    have hgt2 : g < t2 := by rw [ht2e]; exact lt_heap hP11.row
                    have hwt2 : t2 < y12.heap.size := hlt12
                    clear hy12 ht2e
                    have hP12 := hP11.on hb12
                    have hown12 := Ls.own_below hown11 hb12
                    have hA12 := hA11.on hb12
                    have hU12 := hU11.trans (hb12.mono hU11.size)
                    have hz12 := hb12.size
                    have hk12_t1 := (hb12.block _ (lt_heap hk11_t1)).trans hk11_t1
                    have hk12_t2 := hN
                    clear hN
                    refine hK.out _ _ (trivial) (fun hSa12 => ?_)
                    clear hK K
                    refine wpAnyH_ready (rs := [20]) (by kernel_rfl) (by simp) ?_
                    refine AllReadyH.cons rfl (fun K hK => ?_) AllReadyH.nil
                    have HPP13 := Lib.hid (show ∀ (w' : World) (g' : Nat), Below y12.heap.size y12 w' → y12.heap.size ≤ g' → Parts w' g' (.slice (some ⟨t2, 0, none⟩) 2 2) [(acc ++ fk).take hf, (acc ++ fk).drop hf] from fun w' g' hb hg => by
                      have h2 := (hb.block _ (lt_heap hk12_t2)).trans hk12_t2
                      have hlm := lt_heap hk12_t2
                      have hA' := hA12.on hb
                      have hH := (HHV.out w' hA')
                      exact parts_two h2 (by omega) hH.1 (fun ad n c e _ => by cases e; have := (own_caps hown12).2.2 _ rfl; omega) hH.2 (fun ad n c e _ => by cases e; obtain ⟨b, e1, e2⟩ := HB2.out _ rfl; have := (own_caps hown12).2.2 _ e1; omega))
                    have hof13 := of_any (.slice (some ⟨t2, 0, none⟩) 2 2) [(acc ++ fk).take hf, (acc ++ fk).drop hf] y12 HPP13.out (by simp) (HT.out.on hU12) (by have := HLN.out; simp only [List.flatten_cons, List.flatten_nil, List.append_nil, List.take_append_drop]; omega)
                    rw [show ([(acc ++ fk).take hf, (acc ++ fk).drop hf] : List (List UInt8)).flatten = acc ++ fk from by simp, ← HDD.out] at hof13
                    have HOF13 := Lib.hid hof13
                    clear hof13
                    go_simp
                    go_wp2_with (go_at_call 39; refine HOF13.out.mono ?_; rintro e y13 ⟨rfl, hb13⟩)
                    have hP13 := hP12.on hb13
                    have hown13 := Ls.own_below hown12 hb13
                    have hA13 := hA12.on hb13
                    have hU13 := hU12.trans (hb13.mono hU12.size)
                    have hz13 := hb13.size
                    have hk13_t1 := (hb13.block _ (lt_heap hk12_t1)).trans hk12_t1
                    have hk13_t2 := (hb13.block _ (lt_heap hk12_t2)).trans hk12_t2
                    refine hK.out _ _ (trivial) (fun hSo13 => ?_)
                    clear hK K
                    refine wpAnyH_take (i := 21) (v := ?_) rfl (by kernel_rfl) (by kernel_rfl) (by kernel_rfl) (fun _ _ _ h => h) (Or.inl ⟨by kernel_rfl, by (intro wz hSz; go_simp; try with_reducible rfl)⟩) hSo13 ?_
                    go_simp
                    refine wpAnyH_take (i := 22) (v := ?_) rfl (by kernel_rfl) (by kernel_rfl) (by kernel_rfl) (fun _ _ _ h => h) (Or.inl ⟨by kernel_rfl, by (intro wz hSz; go_simp; try with_reducible rfl)⟩) hSo13 ?_
                    go_simp
                    refine wpAnyH_done (by kernel_rfl) ?_ _
                    go_wp2_with fail
                    go_roundw
                    case rel => exact ⟨k + 1, acc ++ fk, av, cv, nn, by omega, by omega, by go_num, HNL.out, HNN.out, rfl, Lib.hid hown13, Lib.hid hP13, Lib.hid hU13⟩
                    case measure => simp [intOf]; omega
                  · skip
                    go_simp
                    have hb11 := Ve.below_n1 y10 (.cells #[.slice av hf cv, .slice a2 n2 c2] 67)
                    have hN := heap_alloc_last y10 (.cells #[.slice av hf cv, .slice a2 n2 c2] 67)
                    obtain ⟨t2, ht2e⟩ : ∃ b, b = y10.heap.size := ⟨_, rfl⟩
                    obtain ⟨y11, hy11⟩ : ∃ y, y10.alloc (.cells #[.slice av hf cv, .slice a2 n2 c2] 67) = y := ⟨_, rfl⟩
                    have hlt11 : y10.heap.size < y11.heap.size := by rw [← hy11]; simp
                    rw [hy11] at hb11 hN ⊢
                    rw [← ht2e] at hN hlt11 ⊢
                    have hgt2 : g < t2 := by rw [ht2e]; exact lt_heap hP10.row
                    have hwt2 : t2 < y11.heap.size := hlt11
                    clear hy11 ht2e
                    have hP11 := hP10.on hb11
                    have hown11 := Ls.own_below hown10 hb11
                    have hA11 := hA10.on hb11
                    have hU11 := hU10.trans (hb11.mono hU10.size)
                    have hz11 := hb11.size
                    have hk11_t1 := (hb11.block _ (lt_heap hk10_t1)).trans hk10_t1
                    have hk11_t2 := hN
                    clear hN
                    refine hK.out _ _ (trivial) (fun hSa11 => ?_)
                    clear hK K
                    refine wpAnyH_ready (rs := [8]) (by kernel_rfl) (by simp) ?_
                    refine AllReadyH.cons rfl (fun K hK => ?_) AllReadyH.nil
                    go_simp
                    go_wp2_with (go_at_call 44; refine (sum_any g (feeds press0 (acc ++ fk)) y11 hP11 (HT.out.on hU11) (by rw [feeds_n]; have := HLN.out; show 0 + _ < _; omega) (by have := HG0.out; have := hU11.size; omega) (by have := HG2.out; have := hU11.size; omega)).mono ?_; rintro e y12 ⟨rfl, hb12⟩)
                    have hP12 := hP11.on hb12
                    have hown12 := Ls.own_below hown11 hb12
                    have hA12 := hA11.on hb12
                    have hU12 := hU11.trans (hb12.mono hU11.size)
                    have hz12 := hb12.size
                    rw [show sumOf (feeds press0 (acc ++ fk)) = sha (acc ++ fk) from rfl, ← HDD.out]
                    have hk12_t1 := (hb12.block _ (lt_heap hk11_t1)).trans hk11_t1
                    have hk12_t2 := (hb12.block _ (lt_heap hk11_t2)).trans hk11_t2
                    refine hK.out _ _ (trivial) (fun hSs12 => ?_)
                    clear hK K
                    refine wpAnyH_ready (rs := [20]) (by kernel_rfl) (by simp) ?_
                    refine AllReadyH.cons rfl (fun K hK => ?_) AllReadyH.nil
                    have HPP13 := Lib.hid (show ∀ (w' : World) (g' : Nat), Below y12.heap.size y12 w' → y12.heap.size ≤ g' → Parts w' g' (.slice (some ⟨t2, 0, none⟩) 2 2) [(acc ++ fk).take hf, (acc ++ fk).drop hf] from fun w' g' hb hg => by
                      have h2 := (hb.block _ (lt_heap hk12_t2)).trans hk12_t2
                      have hlm := lt_heap hk12_t2
                      have hA' := hA12.on hb
                      have hH := (HHV.out w' hA')
                      exact parts_two h2 (by omega) hH.1 (fun ad n c e _ => by cases e; have := (own_caps hown12).2.2 _ rfl; omega) hH.2 (fun ad n c e _ => by cases e; obtain ⟨b, e1, e2⟩ := HB2.out _ rfl; have := (own_caps hown12).2.2 _ e1; omega))
                    have hof13 := of_any (.slice (some ⟨t2, 0, none⟩) 2 2) [(acc ++ fk).take hf, (acc ++ fk).drop hf] y12 HPP13.out (by simp) (HT.out.on hU12) (by have := HLN.out; simp only [List.flatten_cons, List.flatten_nil, List.append_nil, List.take_append_drop]; omega)
                    rw [show ([(acc ++ fk).take hf, (acc ++ fk).drop hf] : List (List UInt8)).flatten = acc ++ fk from by simp, ← HDD.out] at hof13
                    have HOF13 := Lib.hid hof13
                    clear hof13
                    go_simp
                    go_wp2_with (go_at_call 39; refine HOF13.out.mono ?_; rintro e y13 ⟨rfl, hb13⟩)
                    have hP13 := hP12.on hb13
                    have hown13 := Ls.own_below hown12 hb13
                    have hA13 := hA12.on hb13
                    have hU13 := hU12.trans (hb13.mono hU12.size)
                    have hz13 := hb13.size
                    have hk13_t1 := (hb13.block _ (lt_heap hk12_t1)).trans hk12_t1
                    have hk13_t2 := (hb13.block _ (lt_heap hk12_t2)).trans hk12_t2
                    refine hK.out _ _ (trivial) (fun hSo13 => ?_)
                    clear hK K
                    refine wpAnyH_take (i := 21) (v := ?_) rfl (by kernel_rfl) (by kernel_rfl) (by kernel_rfl) (fun _ _ _ h => h) (Or.inl ⟨by kernel_rfl, by (intro wz hSz; go_simp; try with_reducible rfl)⟩) hSo13 ?_
                    go_simp
                    refine wpAnyH_take (i := 22) (v := ?_) rfl (by kernel_rfl) (by kernel_rfl) (by kernel_rfl) (fun _ _ _ h => h) (Or.inl ⟨by kernel_rfl, by (intro wz hSz; go_simp; try with_reducible rfl)⟩) hSo13 ?_
                    go_simp
                    refine wpAnyH_done (by kernel_rfl) ?_ _
                    go_wp2_with fail
                    go_roundw
                    case rel => exact ⟨k + 1, acc ++ fk, av, cv, nn, by omega, by omega, by go_num, HNL.out, HNN.out, rfl, Lib.hid hown13, Lib.hid hP13, Lib.hid hU13⟩
                    case measure => simp [intOf]; omega
          · have hn2' : (2000 : Int) < (n : Int) := by omega
            have HEW := HU1
            go_upto_region 20 with (go_at_call 43; refine (write_nil _ _).mono ?_; rintro e ww ⟨rfl, rfl⟩)
            have hz0 := Ve.below_n2 wr (.cells #[.int .u8 1] 5) (.cells #[.slice (some ⟨wr.heap.size, 0, none⟩) 1 1] 67)
            obtain ⟨z0, hz0e⟩ : ∃ y, (wr.alloc (.cells #[.int .u8 1] 5)).alloc (.cells #[.slice (some ⟨wr.heap.size, 0, none⟩) 1 1] 67) = y := ⟨_, rfl⟩
            rw [hz0e] at hz0 ⊢
            have HZ0 := Lib.hid (HEW.out.trans (hz0.mono HEW.out.size))
            clear hz0e hz0
            go_wp2_with fail
            refine (awake_any z0 (HT.out.on HZ0.out)).mono ?_
            rintro e z1 ⟨rfl, hz1⟩
            have HZ1 := Lib.hid (HZ0.out.trans (hz1.mono HZ0.out.size))
            clear hz1 HZ0
            go_wp2_with fail
            refine (sum_nil z1).mono ?_
            rintro e z2 ⟨rfl, hz2⟩
            have HZ2 := Lib.hid (HZ1.out.trans (hz2.mono HZ1.out.size))
            clear hz2 HZ1
            have hq0 : ∀ W, (Op.equalIn 10000 81 (.agg Y32) (.agg Y32)).run Tryd.prog W = .ok true W := fun W => eq_dig (List.replicate 32 0) rfl W
            go_wp2_with fail
            refine (of_any (.slice none 0 0) [] z2 (fun _ _ _ _ => .inl ⟨rfl, rfl⟩) (by decide) (HT.out.on HZ2.out) (by decide)).mono ?_
            rintro e z3 ⟨rfl, hz3⟩
            obtain ⟨D, hD⟩ : ∃ D, D = (nums .u8 (sha ([] : List (List UInt8)).flatten)).toArray := ⟨_, rfl⟩
            rw [← hD]
            have HD := Lib.hid hD
            have HZ3 := Lib.hid (HZ2.out.trans (hz3.mono HZ2.out.size))
            clear hz3 HZ2 hD
            go_wp2_with fail
            have h4 := Ve.below_n2 z3 (.cells #[] 5) (.cells #[.slice none 0 0, .slice (some ⟨z3.heap.size, 0, none⟩) 0 0] 67)
            have r4 := Au.rows2 z3 (.cells #[] 5) (.cells #[.slice none 0 0, .slice (some ⟨z3.heap.size, 0, none⟩) 0 0] 67)
            obtain ⟨z4, hz4e⟩ : ∃ y, (z3.alloc (.cells #[] 5)).alloc (.cells #[.slice none 0 0, .slice (some ⟨z3.heap.size, 0, none⟩) 0 0] 67) = y := ⟨_, rfl⟩
            have hs4 : z4.heap.size = z3.heap.size + 2 := by rw [← hz4e]; simp
            rw [hz4e] at h4 r4 ⊢
            have HZ4 := Lib.hid (HZ3.out.trans (h4.mono HZ3.out.size))
            have HR4 := Lib.hid r4
            have HS4 := Lib.hid hs4
            clear hz4e h4 r4 hs4 HZ3
            refine (of_any (.slice (some ⟨z3.heap.size + 1, 0, none⟩) 2 2) [[], []] z4 (fun w' g' hb hg => ?_) (by decide) (HT.out.on HZ4.out) (by decide)).mono ?_
            · have h2 := (hb.block _ (lt_heap HR4.out.2)).trans HR4.out.2
              have := HS4.out
              exact parts_two h2 (by omega) (.inl ⟨rfl, rfl⟩) (fun ad n c e => by cases e) (.inr ⟨_, _, rfl, Nat.le_refl _, fun j u hu => by simp [vals] at hu⟩) (fun ad n c e hne => absurd rfl hne)
            rintro e z5 ⟨rfl, hz5⟩
            rw [show ([[], []] : List (List UInt8)).flatten = ([] : List (List UInt8)).flatten from rfl, ← HD.out]
            have hqD : ∀ W, (Op.equalIn 10000 81 (.agg D) (.agg D)).run Tryd.prog W = .ok true W := fun W => by rw [HD.out]; exact eq_dig _ (sha_len _) W
            go_wp2
            go_ret
            exact ⟨rfl, HZ4.out.trans (hz5.mono HZ4.out.size)⟩
      · have h30' : (30 : Int) ≤ (k : Int) := by omega
        have HEW := HU1
        go_upto_region 20 with (go_at_call 43; refine (write_nil _ _).mono ?_; rintro e ww ⟨rfl, rfl⟩)
        have hz0 := Ve.below_n2 wr (.cells #[.int .u8 1] 5) (.cells #[.slice (some ⟨wr.heap.size, 0, none⟩) 1 1] 67)
        obtain ⟨z0, hz0e⟩ : ∃ y, (wr.alloc (.cells #[.int .u8 1] 5)).alloc (.cells #[.slice (some ⟨wr.heap.size, 0, none⟩) 1 1] 67) = y := ⟨_, rfl⟩
        rw [hz0e] at hz0 ⊢
        have HZ0 := Lib.hid (HEW.out.trans (hz0.mono HEW.out.size))
        clear hz0e hz0
        go_wp2_with fail
        refine (awake_any z0 (HT.out.on HZ0.out)).mono ?_
        rintro e z1 ⟨rfl, hz1⟩
        have HZ1 := Lib.hid (HZ0.out.trans (hz1.mono HZ0.out.size))
        clear hz1 HZ0
        go_wp2_with fail
        refine (sum_nil z1).mono ?_
        rintro e z2 ⟨rfl, hz2⟩
        have HZ2 := Lib.hid (HZ1.out.trans (hz2.mono HZ1.out.size))
        clear hz2 HZ1
        have hq0 : ∀ W, (Op.equalIn 10000 81 (.agg Y32) (.agg Y32)).run Tryd.prog W = .ok true W := fun W => eq_dig (List.replicate 32 0) rfl W
        go_wp2_with fail
        refine (of_any (.slice none 0 0) [] z2 (fun _ _ _ _ => .inl ⟨rfl, rfl⟩) (by decide) (HT.out.on HZ2.out) (by decide)).mono ?_
        rintro e z3 ⟨rfl, hz3⟩
        obtain ⟨D, hD⟩ : ∃ D, D = (nums .u8 (sha ([] : List (List UInt8)).flatten)).toArray := ⟨_, rfl⟩
        rw [← hD]
        have HD := Lib.hid hD
        have HZ3 := Lib.hid (HZ2.out.trans (hz3.mono HZ2.out.size))
        clear hz3 HZ2 hD
        go_wp2_with fail
        have h4 := Ve.below_n2 z3 (.cells #[] 5) (.cells #[.slice none 0 0, .slice (some ⟨z3.heap.size, 0, none⟩) 0 0] 67)
        have r4 := Au.rows2 z3 (.cells #[] 5) (.cells #[.slice none 0 0, .slice (some ⟨z3.heap.size, 0, none⟩) 0 0] 67)
        obtain ⟨z4, hz4e⟩ : ∃ y, (z3.alloc (.cells #[] 5)).alloc (.cells #[.slice none 0 0, .slice (some ⟨z3.heap.size, 0, none⟩) 0 0] 67) = y := ⟨_, rfl⟩
        have hs4 : z4.heap.size = z3.heap.size + 2 := by rw [← hz4e]; simp
        rw [hz4e] at h4 r4 ⊢
        have HZ4 := Lib.hid (HZ3.out.trans (h4.mono HZ3.out.size))
        have HR4 := Lib.hid r4
        have HS4 := Lib.hid hs4
        clear hz4e h4 r4 hs4 HZ3
        refine (of_any (.slice (some ⟨z3.heap.size + 1, 0, none⟩) 2 2) [[], []] z4 (fun w' g' hb hg => ?_) (by decide) (HT.out.on HZ4.out) (by decide)).mono ?_
        · have h2 := (hb.block _ (lt_heap HR4.out.2)).trans HR4.out.2
          have := HS4.out
          exact parts_two h2 (by omega) (.inl ⟨rfl, rfl⟩) (fun ad n c e => by cases e) (.inr ⟨_, _, rfl, Nat.le_refl _, fun j u hu => by simp [vals] at hu⟩) (fun ad n c e hne => absurd rfl hne)
        rintro e z5 ⟨rfl, hz5⟩
        rw [show ([[], []] : List (List UInt8)).flatten = ([] : List (List UInt8)).flatten from rfl, ← HD.out]
        have hqD : ∀ W, (Op.equalIn 10000 81 (.agg D) (.agg D)).run Tryd.prog W = .ok true W := fun W => by rw [HD.out]; exact eq_dig _ (sha_len _) W
        go_wp2
        go_ret
        exact ⟨rfl, HZ4.out.trans (hz5.mono HZ4.out.size)⟩
    · have hge : ¬ (k : Int) < ln := by omega
      have HEW := HU1
      go_upto_region 20 with (go_at_call 43; refine (write_nil _ _).mono ?_; rintro e ww ⟨rfl, rfl⟩)
      have hz0 := Ve.below_n2 wr (.cells #[.int .u8 1] 5) (.cells #[.slice (some ⟨wr.heap.size, 0, none⟩) 1 1] 67)
      obtain ⟨z0, hz0e⟩ : ∃ y, (wr.alloc (.cells #[.int .u8 1] 5)).alloc (.cells #[.slice (some ⟨wr.heap.size, 0, none⟩) 1 1] 67) = y := ⟨_, rfl⟩
      rw [hz0e] at hz0 ⊢
      have HZ0 := Lib.hid (HEW.out.trans (hz0.mono HEW.out.size))
      clear hz0e hz0
      go_wp2_with fail
      refine (awake_any z0 (HT.out.on HZ0.out)).mono ?_
      rintro e z1 ⟨rfl, hz1⟩
      have HZ1 := Lib.hid (HZ0.out.trans (hz1.mono HZ0.out.size))
      clear hz1 HZ0
      go_wp2_with fail
      refine (sum_nil z1).mono ?_
      rintro e z2 ⟨rfl, hz2⟩
      have HZ2 := Lib.hid (HZ1.out.trans (hz2.mono HZ1.out.size))
      clear hz2 HZ1
      have hq0 : ∀ W, (Op.equalIn 10000 81 (.agg Y32) (.agg Y32)).run Tryd.prog W = .ok true W := fun W => eq_dig (List.replicate 32 0) rfl W
      go_wp2_with fail
      refine (of_any (.slice none 0 0) [] z2 (fun _ _ _ _ => .inl ⟨rfl, rfl⟩) (by decide) (HT.out.on HZ2.out) (by decide)).mono ?_
      rintro e z3 ⟨rfl, hz3⟩
      obtain ⟨D, hD⟩ : ∃ D, D = (nums .u8 (sha ([] : List (List UInt8)).flatten)).toArray := ⟨_, rfl⟩
      rw [← hD]
      have HD := Lib.hid hD
      have HZ3 := Lib.hid (HZ2.out.trans (hz3.mono HZ2.out.size))
      clear hz3 HZ2 hD
      go_wp2_with fail
      have h4 := Ve.below_n2 z3 (.cells #[] 5) (.cells #[.slice none 0 0, .slice (some ⟨z3.heap.size, 0, none⟩) 0 0] 67)
      have r4 := Au.rows2 z3 (.cells #[] 5) (.cells #[.slice none 0 0, .slice (some ⟨z3.heap.size, 0, none⟩) 0 0] 67)
      obtain ⟨z4, hz4e⟩ : ∃ y, (z3.alloc (.cells #[] 5)).alloc (.cells #[.slice none 0 0, .slice (some ⟨z3.heap.size, 0, none⟩) 0 0] 67) = y := ⟨_, rfl⟩
      have hs4 : z4.heap.size = z3.heap.size + 2 := by rw [← hz4e]; simp
      rw [hz4e] at h4 r4 ⊢
      have HZ4 := Lib.hid (HZ3.out.trans (h4.mono HZ3.out.size))
      have HR4 := Lib.hid r4
      have HS4 := Lib.hid hs4
      clear hz4e h4 r4 hs4 HZ3
      refine (of_any (.slice (some ⟨z3.heap.size + 1, 0, none⟩) 2 2) [[], []] z4 (fun w' g' hb hg => ?_) (by decide) (HT.out.on HZ4.out) (by decide)).mono ?_
      · have h2 := (hb.block _ (lt_heap HR4.out.2)).trans HR4.out.2
        have := HS4.out
        exact parts_two h2 (by omega) (.inl ⟨rfl, rfl⟩) (fun ad n c e => by cases e) (.inr ⟨_, _, rfl, Nat.le_refl _, fun j u hu => by simp [vals] at hu⟩) (fun ad n c e hne => absurd rfl hne)
      rintro e z5 ⟨rfl, hz5⟩
      rw [show ([[], []] : List (List UInt8)).flatten = ([] : List (List UInt8)).flatten from rfl, ← HD.out]
      have hqD : ∀ W, (Op.equalIn 10000 81 (.agg D) (.agg D)).run Tryd.prog W = .ok true W := fun W => by rw [HD.out]; exact eq_dig _ (sha_len _) W
      go_wp2
      go_ret
      exact ⟨rfl, HZ4.out.trans (hz5.mono HZ4.out.size)⟩

end Go.Proofs.YtpinpkhalccjhaaDoor.sealPartsW
