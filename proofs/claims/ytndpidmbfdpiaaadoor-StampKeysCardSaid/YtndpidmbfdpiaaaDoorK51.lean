/- StampKeys (zoetropelaw26), the walk. -/
import Derived.Test.YtndpidmbfdpiaaaDoorK33
import Derived.Test.YtndpidmbfdpiaaaDoorK45
import Derived.Test.YtndpidmbfdpiaaaDoorK47
import Derived.Test.YtndpidmbfdpiaaaDoorK50
import Derived.Test.YtndpidmbfdpiaaaDoorK35
namespace Go.Proofs.YtndpidmbfdpiaaaDoor.stampKeysW
open Go Go.RowKit Go.Proofs.YtndpidmbfdpiaaaDoor Go.Proofs.YtndpidmbfdpiaaaDoor.Au Go.Proofs.YtndpidmbfdpiaaaDoor.Re Go.Proofs.YtndpidmbfdpiaaaDoor.Se Go.Proofs.YtndpidmbfdpiaaaDoor.St
set_option linter.unusedVariables false
set_option linter.unusedSimpArgs false

theorem eq_vals (l : List UInt8) (x : List UInt8) (h : x = shaB l) (W : World) : (Op.equalIn 10000 33 (.agg (vals x).toArray) (.agg (vals x).toArray)).run Tryd.prog W = .ok true W := by
  subst h
  rw [← sha_vals]
  exact eq_dig _ (Se.sha_len _) W

theorem eq_str (S : ByteArray) (W : World) : (Op.equalIn 10000 9 (.string S) (.string S)).run Tryd.prog W = .ok true W := by
  have h : (S.toList == S.toList) = true := beq_self_eq_true _
  rw [run_equalIn_string (w := W) 9999 9 S S Tryd.underlying9, h]

set_option maxHeartbeats 8000000 in
set_option maxRecDepth 100000 in
theorem walk (v : Value) (l : List UInt8) (kind frame : Int) (da : Option Addr) (n dc : Nat) (ds : List (List UInt8)) (w : World) (hv : BsC w v l) (hD : n ≤ 30 → Dgs w (.slice da n dc) ds) (hT : Tabs w) (hN : NamesAt w) :
    Calls Tryd.prog 3 #[v, .int .i64 kind, .int .i64 frame, .slice da n dc] w fun e w' => e = .returned (.bool true) ∧ Below w.heap.size w w' := by
  obtain ⟨va, vc, rfl⟩ := bsc_form hv
  obtain ⟨m, hm⟩ : ∃ m, m = l.length := ⟨_, rfl⟩
  have haw := awake_any w hT
  rw [← hm] at hv ⊢
  by_cases h3 : 3000 < m
  · have h3' : (3000 : Int) < (m : Int) := by omega
    have d3 : decide ((3000 : Int) < (m : Int)) = true := by simp; omega
    go_enter Tryd.func3, Tryd.ntmps3
    go_wp2_with (go_at_call 6; refine haw.mono ?_; rintro e y1 ⟨rfl, hb1⟩)
    go_ret
    exact ⟨rfl, hb1⟩
  have h3' : ¬ (3000 : Int) < (m : Int) := by omega
  have d3 : decide ((3000 : Int) < (m : Int)) = false := by simp; omega
  by_cases h30 : 30 < n
  · have h30' : (30 : Int) < (n : Int) := by omega
    have d30 : decide ((30 : Int) < (n : Int)) = true := by simp; omega
    go_enter Tryd.func3, Tryd.ntmps3
    go_wp2_with (go_at_call 6; refine haw.mono ?_; rintro e y1 ⟨rfl, hb1⟩)
    go_ret
    exact ⟨rfl, hb1⟩
  have h30' : ¬ (30 : Int) < (n : Int) := by omega
  have d30 : decide ((30 : Int) < (n : Int)) = false := by simp; omega
  have hn30 : n ≤ 30 := by omega
  have hDD := hD hn30
  obtain ⟨h32, a', n', c', heq, hn, hmx, hd⟩ := id hDD
  cases heq
  have HV := Lib.hid hv
  have HDG := Lib.hid hDD
  have HT0 := Lib.hid hT
  have HN0 := Lib.hid hN
  have HLN := Lib.hid hn
  have HML := Lib.hid hm
  have HD := Lib.hid hd
  have H32 := Lib.hid h32
  have hm3 : m ≤ 3000 := by omega
  clear hv hDD hT hN hn hm hd hD h32 haw hmx
  obtain ⟨i0, hi, hz0, hz1, hz2⟩ := info_parts infoD
  go_enter Tryd.func3, Tryd.ntmps3
  go_upto_region 5 with fail
  go_loopw [9, 24] (fun ov v wr => ∃ (i : Nat) (oa : Option Addr) (oc : Nat), i ≤ n ∧ ov = .slice oa i oc ∧ v = .int .i64 i ∧ Hid (wr.ownsRow w.heap.size 33 32 (.slice oa i oc) i (vals (ds.take i).flatten)) ∧ Hid (Below w.heap.size w wr)) (fun _ v _ => n - (intOf v).toNat)
  case atStart => exact ⟨0, none, 0, by omega, rfl, rfl, Lib.hid (World.ownsRow_nil _ _ _ _), Lib.hid (Below.refl _ _)⟩
  case round =>
    obtain ⟨i, oa, oc, hir, rfl, rfl, HI, HB⟩ := hrel
    have hsz := HB.out.size
    by_cases hlt : i < n
    · have hlt' : (i : Int) < n := by omega
      have hds : i < ds.length := by rw [← HLN.out]; exact hlt
      obtain ⟨b, off, ha, hbw, hcs⟩ : ∃ b off, da = some ⟨b, off, none⟩ ∧ b < w.heap.size ∧ ∀ j, j < n → w.rangeAt b (off + j * 32) (vals (ds.getD j [])) := by
        rcases HD.out with h | h
        · omega
        · exact h
      subst ha
      have HRG := Lib.hid (range_on (hcs i hlt) HB.out hbw)
      have HF := Lib.hid (flat_take hds)
      have hl32 : (ds.getD i []).length = 32 := H32.out _ (by simp only [List.getD, List.getElem?_eq_getElem hds, Option.getD_some]; exact List.getElem_mem hds)
      obtain ⟨K, hK⟩ : ∃ K, K = ds.getD i [] := ⟨_, rfl⟩
      rw [← hK] at HRG HF hl32
      obtain ⟨X, hXX⟩ : ∃ X, X = vals (ds.take i).flatten := ⟨_, rfl⟩
      rw [← hXX] at HI
      have HXX := Lib.hid hXX
      obtain ⟨K', hK'⟩ : ∃ K', K' = (vals K).toArray := ⟨_, rfl⟩
      have hKs : K'.size = 32 := by rw [hK']; simp [vals_length, hl32]
      have HKK := Lib.hid hK'
      have HKS := Lib.hid hKs
      have HSZm := Lib.hid (show (Tryd.prog.info? 26).map (·.size) = some (vals K).length by rw [vals_length, hl32]; kernel_rfl)
      have HSZ := Lib.hid (show (Tryd.prog.info? 26).map (·.size) = some K'.size from info32r hKs)
      have HZZ := Lib.hid (show Y32.size = K'.size by rw [hKs]; rfl)
      have HOO := Lib.hid (show K'.all (·.oneCell') = true by rw [hK']; exact all_oneCell_toArray (vals_one _))
      have HK3 := Lib.hid (show (vals K).length = 1 * 32 by rw [vals_length, hl32])
      obtain ⟨g, hg⟩ : ∃ g, g = wr.heap.size := ⟨_, rfl⟩
      have hr1 := heap_alloc_last wr (.cells Y32 26)
      have hb1 := Ve.below_n1 wr (.cells Y32 26)
      obtain ⟨y1, hy1⟩ : ∃ y, wr.alloc (.cells Y32 26) = y := ⟨_, rfl⟩
      rw [hy1] at hr1 hb1
      rw [← hg] at hr1
      have hr2 := setRow_heap y1 g _ K' _ _ hr1
      have hb2 := below_setRow (g := g) hb1 (by omega) K'
      obtain ⟨y2, hy2⟩ : ∃ y, y1.setRow g K' = y := ⟨_, rfl⟩
      rw [hy2] at hr2 hb2
      have HG := Lib.hid hg
      have HY1 := Lib.hid hy1
      have HY2 := Lib.hid hy2
      have HR1 := Lib.hid hr1
      have HR2 := Lib.hid hr2
      have HI3 := Lib.hid ((Ls.own_below HI.out hb2).alloc (.cells K' 33))
      have HB2 := Lib.hid (HB.out.trans (hb2.mono hsz))
      have hs2 := HB2.out.size
      have HVV := Lib.hid (show ∀ j u, (vals K)[j]? = some u → (y2.alloc (.cells K' 33)).cell? ((⟨y2.heap.size, 0, none⟩ : Addr).add j) = some u from fun j u hu => by
        rw [Se.add_at, Nat.zero_add]
        have h := heap_alloc_last y2 (.cells K' 33)
        simp only [World.cell?, h]
        rw [hK']
        simpa using hu)
      clear hr1 hb1 hr2 hb2 hy1 hy2 hcs hg hK' hKs hl32 hds hXX hK HI HB
      go_wp2_with (first
        | (with_reducible refine wpList_load_mid rfl 26 (.tmp 26) rfl b (off + i * 32) rfl (vals K) _ HRG.out Tryd.underlying26 rfl HSZm.out ?_; rw [← HKK.out])
        | (rw [HY1.out, ← HG.out]; refine Au.wpList_store_row rfl 26 (.tmp 11) (.tmp 27) rfl y1 Y32 K' g 26 HR1.out rfl rfl HSZ.out HZZ.out HOO.out ?_; rw [HY2.out])
        | (with_reducible refine wpList_load_row rfl 26 (.tmp 11) rfl g rfl 26 K' (0, 0) _ HR2.out Tryd.underlying26 rfl HSZ.out ?_)
        | (refine lit_dig rfl (.tmp 29) rfl K' HKS.out rfl ?_)
        | (at_builtin; refine wpList_append_own _ rfl _ _ 25 rfl w.heap.size 33 i0 (.agg Y32) 32 32 Tryd.underlying25 hi hz0 hz1 hz2 rfl (by decide) _ _ _ rfl HI3.out ⟨y2.heap.size, 0, none⟩ 1 1 (vals K) rfl HK3.out HVV.out (vals_one _) ?d3 ?d4 ?d5 ?_))
      case d3 => unfold maxLen; omega
      case d4 => omega
      case d5 => first | omega | (simp; omega)
      intro v2 w2_ hown2 hgrow2 _
      have hb2 : Below w.heap.size w w2_ := (HB2.out.alloc hs2 _).grown hgrow2 (by simp; omega) (fun q hq => (HI3.out.lt q hq).1)
      have HO2 := Lib.hid (show w2_.ownsRow w.heap.size 33 32 v2 (i + 1) (vals (ds.take (i + 1)).flatten) by rw [HF.out, vals_append, ← HXX.out]; exact hown2)
      have hform : ∃ a9 c9, v2 = .slice a9 (i + 1) c9 := by
        rcases HO2.out.2 with ⟨rfl, h0⟩ | ⟨q, cap, cur, rfl, -⟩
        · omega
        · exact ⟨_, cap, rfl⟩
      obtain ⟨a9, c9, hv9⟩ := hform
      subst hv9
      clear hown2 hgrow2 HI3 HVV
      go_wp2_with fail
      go_roundw
      case rel => exact ⟨i + 1, a9, c9, by omega, rfl, by go_num, HO2, Lib.hid hb2⟩
      case measure => simp [intOf]; omega
    · have hge : ¬ (i : Int) < n := by omega
      have hi' : i = n := by omega
      subst hi'
      have HLD := Lib.hid (show Dgs wr (.slice oa i oc) ds from own_dgs (n := i) (B := w.heap.size) (by
        have h := HI.out
        rw [show ds.take i = ds from List.take_of_length_le (by rw [← HLN.out]; omega)] at h
        exact h) H32.out HLN.out (by omega))
      have HX := Lib.hid HB.out
      have HT := Lib.hid (HT0.out.on HB.out)
      have HN := Lib.hid (HN0.out.on HB.out)
      have HVW := Lib.hid (HV.out.on HB.out)
      have HDW := Lib.hid (HDG.out.on HB.out)
      obtain ⟨D, hDe⟩ : ∃ D, D = (vals (jobB l)).toArray := ⟨_, rfl⟩
      obtain ⟨E, hEe⟩ : ∃ E, E = (vals (keyB kind frame ds)).toArray := ⟨_, rfl⟩
      obtain ⟨T, hTb⟩ : ∃ T, T = (nums .u32 tbl).toArray := ⟨_, rfl⟩
      have hTs : T.size = 72 := by rw [hTb]; simp [nums_length, tbl_len]
      have HJ1 := Lib.hid (show ∀ W, Below wr.heap.size wr W → Calls Tryd.prog 8 #[.slice va m vc] W fun e w' => e = .returned (.agg D) ∧ Below W.heap.size W w' from fun W hW => by rw [hDe]; exact job_any _ l W (HVW.out.on hW) (HT.out.on hW) (by rw [← HML.out]; omega))
      have HJ2 := Lib.hid (show ∀ W, Below wr.heap.size wr W → Calls Tryd.prog 9 #[.agg T, .slice va m vc] W fun e w' => e = .returned (.agg D) ∧ Below W.heap.size W w' from fun W hW => by rw [hDe, hTb]; exact rjob_any _ l W (HVW.out.on hW) (by rw [← HML.out]; omega))
      have HK1 := Lib.hid (show ∀ W, Below wr.heap.size wr W → Calls Tryd.prog 10 #[.int .i64 kind, .int .i64 frame, .slice oa i oc] W fun e w' => e = .returned (.agg E) ∧ Below W.heap.size W w' from fun W hW => by rw [hEe]; exact key_any _ _ _ ds W (HT.out.on hW) (HLD.out.on hW))
      have HK2 := Lib.hid (show ∀ W, Below wr.heap.size wr W → Calls Tryd.prog 11 #[.agg T, .int .i64 kind, .int .i64 frame, .slice da i dc] W fun e w' => e = .returned (.agg E) ∧ Below W.heap.size W w' from fun W hW => by rw [hEe, hTb]; exact rkey_any _ _ _ ds W (HDW.out.on hW) (by rw [← HLN.out]; omega))
      have hqD : ∀ W, (Op.equalIn 10000 33 (.agg D) (.agg D)).run Tryd.prog W = .ok true W := fun W => by rw [hDe]; exact eq_vals (74 :: l) _ rfl W
      have hqE : ∀ W, (Op.equalIn 10000 33 (.agg E) (.agg E)).run Tryd.prog W = .ok true W := fun W => by rw [hEe]; exact eq_vals (pre kind frame ++ ds.flatten) _ rfl W
      have HST := Lib.hid (show (Tryd.prog.info? 31).map (·.size) = some T.size by rw [hTs]; kernel_rfl)
      have HMK := Lib.hid (show ∀ W, Calls Tryd.prog 7 #[] W fun e' w' => e' = .returned (.agg T) ∧ Below W.heap.size W w' from fun W => by rw [hTb]; exact make_any W)
      have HZT := Lib.hid (show zT.size = T.size by rw [hTs]; exact zT_size)
      have HOT := Lib.hid (show T.all (·.oneCell') = true by rw [hTb]; exact all_oneCell_toArray (nums_one _ _))
      obtain ⟨S, hS⟩ : ∃ S, S = nameS kind := ⟨_, rfl⟩
      have hqN : ∀ W, (Op.equalIn 10000 9 (.string S) (.string S)).run Tryd.prog W = .ok true W := fun W => eq_str S W
      have HN1 := Lib.hid (show ∀ W, Below wr.heap.size wr W → Calls Tryd.prog 12 #[.int .i64 kind] W fun e w' => e = .returned (.string S) ∧ W = w' from fun W hW => by rw [hS]; exact name_any kind W (HN.out.on hW))
      have HN2 := Lib.hid (show ∀ W, Calls Tryd.prog 13 #[.int .i64 kind] W fun e w' => e = .returned (.string S) ∧ Below W.heap.size W w' from fun W => by rw [hS]; exact rname_any kind W)
      have hzT := zeroT
      have hzTs := zT_size
      clear hDe hEe hTs hTb hS HI HB
      go_upto_region 9 with fail
      go_upto_region 10 with (first
        | (go_at_call 7; with_reducible refine (HMK.out wr).mono ?_; rintro e y7 ⟨rfl, hb7⟩; have hr8 := heap_alloc_last y7 (.cells zT 31); have hb8 := hb7.trans ((Ve.below_n1 y7 (.cells zT 31)).mono hb7.size); obtain ⟨q, hq⟩ : ∃ q, q = y7.heap.size := ⟨_, rfl⟩; have hq7 : wr.heap.size ≤ q := (by have := hb7.size; omega); obtain ⟨y8, hy8⟩ : ∃ y, y7.alloc (.cells zT 31) = y := ⟨_, rfl⟩; rw [hy8] at hr8 hb8; rw [← hq] at hr8; have HR8 := Lib.hid hr8; have HB8 := Lib.hid hb8; have HY8 := Lib.hid hy8; have HQ8 := Lib.hid hq; clear hr8 hb8 hy8 hq hb7)
        | (rw [HY8.out, ← HQ8.out]; refine Au.wpList_store_row rfl 31 (.tmp 12) (.tmp 33) rfl y8 zT T q 31 HR8.out rfl rfl HST.out HZT.out HOT.out ?_))
      have hr9 := setRow_heap y8 q _ T _ _ HR8.out
      have hb9 := below_setRow (g := q) HB8.out hq7 T
      obtain ⟨y9, hy9⟩ : ∃ y, y8.setRow q T = y := ⟨_, rfl⟩
      rw [hy9] at hr9 hb9 ⊢
      have HR9 := Lib.hid hr9
      have HU9 := Lib.hid hb9
      clear hr9 hb9 hy9
      refine wp_region_held_drew (S := fun y => y.heap[q]? = some (.cells T 31 (0, 0))) (by kernel_rfl) (HR9.out) (fun hS0 => ?_)
      obtain ⟨y10, hy10⟩ : ∃ y, y9.drew = y := ⟨_, rfl⟩
      have HU10 := Lib.hid (show Below wr.heap.size wr y10 by rw [← hy10]; exact HU9.out.drew)
      rw [hy10] at hS0 ⊢
      clear hy10
      refine wpAnyH_ready (rs := [0]) (by kernel_rfl) (by simp) ?_
      refine AllReadyH.cons rfl (fun K hK => ?_) AllReadyH.nil
      go_simp
      go_wp2_with (go_at_call 6; with_reducible refine (awake_any y10 (HT.out.on HU10.out)).mono ?_; rintro e y11 ⟨rfl, hb11⟩)
      have hS11 := (hb11.block q (lt_heap hS0)).trans hS0
      have HU11 := Lib.hid (HU10.out.trans (hb11.mono HU10.out.size))
      clear hb11
      refine hK.out _ _ (hS11) (fun hS11S => ?_)
      clear hK K
      refine wpAnyH_take (i := 1) (v := ?_) rfl (by kernel_rfl) (by kernel_rfl) (by kernel_rfl) (fun _ _ _ h => h) (Or.inl ⟨by kernel_rfl, by (intro wz hSz; go_simp; try with_reducible rfl)⟩) hS11S ?_
      go_simp
      refine wpAnyH_take (i := 2) (v := ?_) rfl (by kernel_rfl) (by kernel_rfl) (by kernel_rfl) (fun _ _ _ h => h) (Or.inl ⟨by kernel_rfl, by (intro wz hSz; go_simp; try with_reducible rfl)⟩) hS11S ?_
      go_simp
      refine wpAnyH_take (i := 4) (v := .agg T) rfl (by kernel_rfl) (by kernel_rfl) (by kernel_rfl) (fun _ _ _ h => h) (Lr.yieldsIf_load_row (by kernel_rfl) 31 (.tmp 12) rfl q rfl 31 T _ (fun yy hh => hh) Tryd.underlying31 rfl HST.out) hS11S ?_
      go_simp
      refine wpAnyH_take (i := 5) (v := ?_) rfl (by kernel_rfl) (by kernel_rfl) (by kernel_rfl) (fun _ _ _ h => h) (Or.inl ⟨by kernel_rfl, by (intro wz hSz; go_simp; try with_reducible rfl)⟩) hS11S ?_
      go_simp
      refine wpAnyH_ready (rs := [3]) (by kernel_rfl) (by simp) ?_
      refine AllReadyH.cons rfl (fun K hK => ?_) AllReadyH.nil
      go_simp
      go_wp2_with (go_at_call 8; with_reducible refine (HJ1.out y11 HU11.out).mono ?_; rintro e y12 ⟨rfl, hb12⟩)
      have hS12 := (hb12.block q (lt_heap hS11S)).trans hS11S
      have HU12 := Lib.hid (HU11.out.trans (hb12.mono HU11.out.size))
      clear hb12
      refine hK.out _ _ (hS12) (fun hS12S => ?_)
      clear hK K
      refine wpAnyH_ready (rs := [6]) (by kernel_rfl) (by simp) ?_
      refine AllReadyH.cons rfl (fun K hK => ?_) AllReadyH.nil
      go_simp
      go_wp2_with (go_at_call 9; with_reducible refine (HJ2.out y12 HU12.out).mono ?_; rintro e y13 ⟨rfl, hb13⟩)
      have hS13 := (hb13.block q (lt_heap hS12S)).trans hS12S
      have HU13 := Lib.hid (HU12.out.trans (hb13.mono HU12.out.size))
      clear hb13
      refine hK.out _ _ (hS13) (fun hS13S => ?_)
      clear hK K
      refine wpAnyH_take (i := 7) (v := ?_) rfl (by kernel_rfl) (by kernel_rfl) (by kernel_rfl) (fun _ _ _ h => h) (Or.inl ⟨by kernel_rfl, by (intro wz hSz; have e1 := hqD; go_simp; try with_reducible rfl)⟩) hS13S ?_
      go_simp
      refine wpAnyH_take (i := 8) (v := ?_) rfl (by kernel_rfl) (by kernel_rfl) (by kernel_rfl) (fun _ _ _ h => h) (Or.inl ⟨by kernel_rfl, by (intro wz hSz; go_simp; try with_reducible rfl)⟩) hS13S ?_
      go_simp
      refine wpAnyH_take (i := 9) (v := ?_) rfl (by kernel_rfl) (by kernel_rfl) (by kernel_rfl) (fun _ _ _ h => h) (Or.inl ⟨by kernel_rfl, by (intro wz hSz; go_simp; try with_reducible rfl)⟩) hS13S ?_
      go_simp
      refine wpAnyH_take (i := 10) (v := ?_) rfl (by kernel_rfl) (by kernel_rfl) (by kernel_rfl) (fun _ _ _ h => h) (Or.inl ⟨by kernel_rfl, by (intro wz hSz; go_simp; try with_reducible rfl)⟩) hS13S ?_
      go_simp
      refine wpAnyH_take (i := 11) (v := ?_) rfl (by kernel_rfl) (by kernel_rfl) (by kernel_rfl) (fun _ _ _ h => h) (Or.inl ⟨by kernel_rfl, by (intro wz hSz; go_simp; try with_reducible rfl)⟩) hS13S ?_
      go_simp
      refine wpAnyH_take (i := 12) (v := ?_) rfl (by kernel_rfl) (by kernel_rfl) (by kernel_rfl) (fun _ _ _ h => h) (Or.inl ⟨by kernel_rfl, by (intro wz hSz; go_simp; try with_reducible rfl)⟩) hS13S ?_
      go_simp
      refine wpAnyH_take (i := 14) (v := .agg T) rfl (by kernel_rfl) (by kernel_rfl) (by kernel_rfl) (fun _ _ _ h => h) (Lr.yieldsIf_load_row (by kernel_rfl) 31 (.tmp 12) rfl q rfl 31 T _ (fun yy hh => hh) Tryd.underlying31 rfl HST.out) hS13S ?_
      go_simp
      refine wpAnyH_take (i := 15) (v := ?_) rfl (by kernel_rfl) (by kernel_rfl) (by kernel_rfl) (fun _ _ _ h => h) (Or.inl ⟨by kernel_rfl, by (intro wz hSz; go_simp; try with_reducible rfl)⟩) hS13S ?_
      go_simp
      refine wpAnyH_take (i := 16) (v := ?_) rfl (by kernel_rfl) (by kernel_rfl) (by kernel_rfl) (fun _ _ _ h => h) (Or.inl ⟨by kernel_rfl, by (intro wz hSz; go_simp; try with_reducible rfl)⟩) hS13S ?_
      go_simp
      refine wpAnyH_take (i := 17) (v := ?_) rfl (by kernel_rfl) (by kernel_rfl) (by kernel_rfl) (fun _ _ _ h => h) (Or.inl ⟨by kernel_rfl, by (intro wz hSz; go_simp; try with_reducible rfl)⟩) hS13S ?_
      go_simp
      refine wpAnyH_ready (rs := [13]) (by kernel_rfl) (by simp) ?_
      refine AllReadyH.cons rfl (fun K hK => ?_) AllReadyH.nil
      go_simp
      go_wp2_with (go_at_call 10; with_reducible refine (HK1.out y13 HU13.out).mono ?_; rintro e y14 ⟨rfl, hb14⟩)
      have hS14 := (hb14.block q (lt_heap hS13S)).trans hS13S
      have HU14 := Lib.hid (HU13.out.trans (hb14.mono HU13.out.size))
      clear hb14
      refine hK.out _ _ (hS14) (fun hS14S => ?_)
      clear hK K
      refine wpAnyH_ready (rs := [18]) (by kernel_rfl) (by simp) ?_
      refine AllReadyH.cons rfl (fun K hK => ?_) AllReadyH.nil
      go_simp
      go_wp2_with (go_at_call 11; with_reducible refine (HK2.out y14 HU14.out).mono ?_; rintro e y15 ⟨rfl, hb15⟩)
      have hS15 := (hb15.block q (lt_heap hS14S)).trans hS14S
      have HU15 := Lib.hid (HU14.out.trans (hb15.mono HU14.out.size))
      clear hb15
      refine hK.out _ _ (hS15) (fun hS15S => ?_)
      clear hK K
      refine wpAnyH_take (i := 19) (v := ?_) rfl (by kernel_rfl) (by kernel_rfl) (by kernel_rfl) (fun _ _ _ h => h) (Or.inl ⟨by kernel_rfl, by (intro wz hSz; have e2 := hqE; go_simp; try with_reducible rfl)⟩) hS15S ?_
      go_simp
      refine wpAnyH_take (i := 20) (v := ?_) rfl (by kernel_rfl) (by kernel_rfl) (by kernel_rfl) (fun _ _ _ h => h) (Or.inl ⟨by kernel_rfl, by (intro wz hSz; go_simp; try with_reducible rfl)⟩) hS15S ?_
      go_simp
      refine wpAnyH_take (i := 21) (v := ?_) rfl (by kernel_rfl) (by kernel_rfl) (by kernel_rfl) (fun _ _ _ h => h) (Or.inl ⟨by kernel_rfl, by (intro wz hSz; go_simp; try with_reducible rfl)⟩) hS15S ?_
      go_simp
      refine wpAnyH_take (i := 22) (v := ?_) rfl (by kernel_rfl) (by kernel_rfl) (by kernel_rfl) (fun _ _ _ h => h) (Or.inl ⟨by kernel_rfl, by (intro wz hSz; go_simp; try with_reducible rfl)⟩) hS15S ?_
      go_simp
      refine wpAnyH_take (i := 24) (v := ?_) rfl (by kernel_rfl) (by kernel_rfl) (by kernel_rfl) (fun _ _ _ h => h) (Or.inl ⟨by kernel_rfl, by (intro wz hSz; go_simp; try with_reducible rfl)⟩) hS15S ?_
      go_simp
      refine wpAnyH_ready (rs := [23]) (by kernel_rfl) (by simp) ?_
      refine AllReadyH.cons rfl (fun K hK => ?_) AllReadyH.nil
      go_simp
      go_wp2_with (go_at_call 12; with_reducible refine (HN1.out y15 HU15.out).mono ?_; rintro e ww ⟨rfl, rfl⟩)
      refine hK.out _ _ (hS15S) (fun hS15Sq => ?_)
      clear hK K
      refine wpAnyH_ready (rs := [25]) (by kernel_rfl) (by simp) ?_
      refine AllReadyH.cons rfl (fun K hK => ?_) AllReadyH.nil
      go_simp
      go_wp2_with (go_at_call 13; with_reducible refine (HN2.out y15).mono ?_; rintro e y16 ⟨rfl, hb16⟩)
      have hS16 := (hb16.block q (lt_heap hS15Sq)).trans hS15Sq
      have HU16 := Lib.hid (HU15.out.trans (hb16.mono HU15.out.size))
      clear hb16
      refine hK.out _ _ (hS16) (fun hS16S => ?_)
      clear hK K
      refine wpAnyH_take (i := 26) (v := ?_) rfl (by kernel_rfl) (by kernel_rfl) (by kernel_rfl) (fun _ _ _ h => h) (Or.inl ⟨by kernel_rfl, by (intro wz hSz; have e3 := hqN; go_simp; try with_reducible rfl)⟩) hS16S ?_
      go_simp
      refine wpAnyH_take (i := 27) (v := ?_) rfl (by kernel_rfl) (by kernel_rfl) (by kernel_rfl) (fun _ _ _ h => h) (Or.inl ⟨by kernel_rfl, by (intro wz hSz; go_simp; try with_reducible rfl)⟩) hS16S ?_
      go_simp
      refine wpAnyH_take (i := 28) (v := ?_) rfl (by kernel_rfl) (by kernel_rfl) (by kernel_rfl) (fun _ _ _ h => h) (Or.inl ⟨by kernel_rfl, by (intro wz hSz; go_simp; try with_reducible rfl)⟩) hS16S ?_
      go_simp
      refine wpAnyH_done (by kernel_rfl) ?_ _
      go_wp2_with fail
      go_ret
      exact ⟨rfl, HX.out.trans (HU16.out.mono HX.out.size)⟩
end Go.Proofs.YtndpidmbfdpiaaaDoor.stampKeysW
