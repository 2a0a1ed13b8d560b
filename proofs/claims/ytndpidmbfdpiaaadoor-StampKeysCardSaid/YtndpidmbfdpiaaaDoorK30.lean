/- Layer 26 (stamp): the program's keys: of all that a work is made of. -/
import Derived.Test.YtndpidmbfdpiaaaDoorK29
namespace Go.Proofs.YtndpidmbfdpiaaaDoor.St
open Go Go.RowKit Go.Proofs.YtndpidmbfdpiaaaDoor Go.Proofs.YtndpidmbfdpiaaaDoor.Au Go.Proofs.YtndpidmbfdpiaaaDoor.Re Go.Proofs.YtndpidmbfdpiaaaDoor.Se Go.Proofs.YtndpidmbfdpiaaaDoor.Pn
set_option linter.unusedVariables false
set_option linter.unusedSimpArgs false

set_option maxHeartbeats 8000000 in
set_option maxRecDepth 100000 in
theorem keys_any (job : List UInt8) (hj : job.length = 32) (B N c : Nat) (a : Option Addr) (ks : List (List UInt8)) (vs : List Value) (nv : Value) (need : List Int) (w : World) (hO : w.ownsRow B 49 35 (.slice a N c) N (W ks vs N)) (h32 : ∀ m, m < N → (ks.getD m []).length = 32)
    (hR : Ro w nv need) (hlt : ∀ x ∈ need, 0 ≤ x ∧ x < (N : Int)) (hl3 : need.length ≤ 3) (hN : N ≤ 1000) :
    Calls Tryd.prog 31 #[.agg (vals job).toArray, .slice a N c, nv] w fun e w' => (∃ v, e = .returned v ∧ Dgs w' v (ofsL job ks need)) ∧ Below w.heap.size w w' := by
  obtain ⟨na, nc, rfl⟩ := hR.form
  obtain ⟨r, hr⟩ : ∃ r, r = need.length := ⟨_, rfl⟩
  rw [← hr] at hR hl3 ⊢
  have HRO := Lib.hid hR
  have HRL := Lib.hid hr
  have HO := Lib.hid hO
  have H32 := Lib.hid h32
  have HLT := Lib.hid hlt
  have HJ := Lib.hid hj
  obtain ⟨J, hJ⟩ : ∃ J, J = (vals job).toArray := ⟨_, rfl⟩
  have hJs : J.size = 32 := by rw [hJ]; simp [vals_length, hj]
  rw [← hJ]
  have HJJ := Lib.hid hJ
  have hr0 := heap_alloc_last w (.cells J 33)
  have hb0 := Ve.below_n1 w (.cells J 33)
  obtain ⟨y0, hy0⟩ : ∃ y, w.alloc (.cells J 33) = y := ⟨_, rfl⟩
  obtain ⟨P, hP⟩ : ∃ P, P = w.heap.size := ⟨_, rfl⟩
  rw [hy0] at hr0 hb0
  rw [← hP] at hr0
  have HPW := Lib.hid hP
  have HR0 := Lib.hid hr0
  have HB0 := Lib.hid hb0
  have HY0 := Lib.hid hy0
  have HSJ := Lib.hid (show (Tryd.prog.info? 33).map (·.size) = some J.size from info32 hJs)
  have HJS := Lib.hid hJs
  clear hr0 hb0 hy0 hP hJ hR hr hO h32 hlt hj hJs
  by_cases h0 : r = 0
  · have hnil : need = [] := List.eq_nil_of_length_eq_zero (by rw [← HRL.out]; exact h0)
    have HNL := Lib.hid (show ofsL job ks need = [job] by unfold ofsL; rw [if_pos hnil])
    subst h0
    clear hnil
    go_enter Tryd.func31, Tryd.ntmps31
    go_upto_region 1 with fail
    rw [HY0.out, ← HPW.out]
    go_wp2_with (first | (with_reducible refine wpList_load_row rfl 33 (.tmp 3) rfl P rfl 33 J (0, 0) _ HR0.out Tryd.underlying33 rfl HSJ.out ?_) | (refine lit_dig rfl (.tmp 13) rfl J HJS.out rfl ?_))
    go_ret
    rw [HNL.out]
    refine ⟨⟨_, rfl, ⟨by simp [HJ.out], _, 1, 1, rfl, rfl, by omega, .inr ⟨y0.heap.size, 0, rfl, by simp, fun j hj i u hu => ?_⟩⟩⟩, HB0.out.trans ((Ve.below_n1 y0 _).mono HB0.out.size)⟩
    have hj0 : j = 0 := by omega
    subst hj0
    have h := heap_alloc_last y0 (.cells J 33)
    simp only [World.cell?, h]
    rw [HJJ.out]
    simpa using hu
  · have hne : ¬ (r : Int) = 0 := by omega
    have hnn : need ≠ [] := fun e => h0 (by rw [HRL.out, e]; rfl)
    have HNL := Lib.hid (show ofsL job ks need = need.map (fun x => ks.getD x.toNat []) by unfold ofsL; rw [if_neg hnn])
    clear hnn
    have d0 : ((r : Int) == 0) = false := by simp; omega
    obtain ⟨i0, hi, hz0, hz1, hz2⟩ := info_parts infoD
    go_enter Tryd.func31, Tryd.ntmps31
    go_upto_region 1 with fail
    rw [HY0.out, ← HPW.out]
    go_upto_region 5 with fail
    go_loopw [7, 17] (fun ov v wr => ∃ (i : Nat) (oa : Option Addr) (oc : Nat), i ≤ r ∧ ov = .slice oa i oc ∧ v = .int .i64 i ∧ Hid (wr.ownsRow y0.heap.size 33 32 (.slice oa i oc) i (vals ((need.take i).map (fun x => ks.getD x.toNat [])).flatten)) ∧ Hid (Below y0.heap.size y0 wr)) (fun _ v _ => r - (intOf v).toNat)
    case atStart => exact ⟨0, none, 0, by omega, rfl, rfl, Lib.hid (World.ownsRow_nil _ _ _ _), Lib.hid (Below.refl _ _)⟩
    case round =>
      obtain ⟨i, oa, oc, hir, rfl, rfl, HI, HB⟩ := hrel
      have hsz := HB.out.size
      obtain ⟨X, hXX⟩ : ∃ X, X = vals ((need.take i).map (fun x => ks.getD x.toNat [])).flatten := ⟨_, rfl⟩
      rw [← hXX] at HI
      have HXX := Lib.hid hXX
      clear hXX
      by_cases hlt : i < r
      · have hlt' : (i : Int) < r := by omega
        have hBw := HB0.out.trans (HB.out.mono HB0.out.size)
        obtain ⟨b2, o2, e2, hci⟩ := (HRO.out.on hBw).at hlt
        subst e2
        have hxl := HLT.out (need.getD i 0) (by
          have : i < need.length := by rw [← HRL.out]; exact hlt
          simp only [List.getD, List.getElem?_eq_getElem this, Option.getD_some]
          exact List.getElem_mem _)
        have HX := Lib.hid (map_take (f := fun x => ks.getD x.toNat []) (show i < need.length by rw [← HRL.out]; exact hlt))
        obtain ⟨x, hx⟩ : ∃ x : Nat, need.getD i 0 = (x : Int) := ⟨(need.getD i 0).toNat, by omega⟩
        rw [hx] at hci hxl HX
        simp only [Int.toNat_natCast] at HX
        have hxN : x < N := by omega
        have hxN' : (x : Int) < N := by omega
        obtain ⟨q, hqa, hBq, hqw, hrg⟩ := own_w (Ls.own_below HO.out hBw) H32.out hxN
        subst hqa
        have HRG := Lib.hid (own_key hrg (H32.out x hxN))
        have hK32 := H32.out x hxN
        obtain ⟨K, hK⟩ : ∃ K, K = ks.getD x [] := ⟨_, rfl⟩
        rw [← hK] at HRG HX hK32
        have HSZ := Lib.hid (show (Tryd.prog.info? 33).map (·.size) = some (vals K).length by rw [vals_length, hK32]; kernel_rfl)
        have HK2 := Lib.hid (show (vals K).toArray.size = 32 by simp [vals_length, hK32])
        have HK3 := Lib.hid (show (vals K).length = 1 * 32 by rw [vals_length, hK32])
        have HI1 := Lib.hid (HI.out.alloc (.cells (vals K).toArray 33))
        have HV := Lib.hid (show ∀ j u, (vals K)[j]? = some u → (wr.alloc (.cells (vals K).toArray 33)).cell? ((⟨wr.heap.size, 0, none⟩ : Addr).add j) = some u from fun j u hu => by
          rw [Se.add_at, Nat.zero_add]
          have h := heap_alloc_last wr (.cells (vals K).toArray 33)
          simp only [World.cell?, h]
          simpa using hu)
        clear hx hxl hrg hK hK32 hBw hBq hqw
        go_wp2_with (first
          | (with_reducible refine wpList_load_mid rfl 33 (.tmp 25) rfl q (x * 35 + 2) rfl (vals K) _ HRG.out Tryd.underlying33 rfl HSZ.out ?_)
          | (refine lit_dig rfl (.tmp 26) rfl (vals K).toArray HK2.out rfl ?_)
          | (at_builtin; refine wpList_append_own _ rfl _ _ 25 rfl y0.heap.size 33 i0 (.agg Y32) 32 32 Tryd.underlying25 hi hz0 hz1 hz2 rfl (by decide) _ _ _ rfl HI1.out ⟨wr.heap.size, 0, none⟩ 1 1 (vals K) rfl HK3.out HV.out (vals_one _) ?d3 ?d4 ?d5 ?_))
        case d3 => unfold maxLen; omega
        case d4 => omega
        case d5 => first | omega | (simp; omega)
        intro v2 w2_ hown2 hgrow2 _
        have hb2 : Below y0.heap.size y0 w2_ := (HB.out.alloc hsz _).grown hgrow2 (by simp; omega) (fun q hq => (HI.out.lt q hq).1)
        have HO2 := Lib.hid (show w2_.ownsRow y0.heap.size 33 32 v2 (i + 1) (vals ((need.take (i + 1)).map (fun x => ks.getD x.toNat [])).flatten) by rw [HX.out, vals_append, ← HXX.out]; exact hown2)
        have hform : ∃ a9 c9, v2 = .slice a9 (i + 1) c9 := by
          rcases HO2.out.2 with ⟨rfl, h0⟩ | ⟨q, cap, cur, rfl, -⟩
          · omega
          · exact ⟨_, cap, rfl⟩
        obtain ⟨a9, c9, hv9⟩ := hform
        subst hv9
        clear hown2 hgrow2 HI HI1 HV
        go_wp2_with fail
        go_roundw
        case rel => exact ⟨i + 1, a9, c9, by omega, rfl, by go_num, HO2, Lib.hid hb2⟩
        case measure => simp [intOf]; omega
      · have hge : ¬ (i : Int) < r := by omega
        have hi' : i = r := by omega
        go_wp2_with fail
        go_ret
        rw [HNL.out]
        refine ⟨⟨.slice oa r oc, rfl, own_dgs (n := r) (B := y0.heap.size) ?_ ?_ (by rw [List.length_map, ← HRL.out]) (by omega)⟩, HB0.out.trans (HB.out.mono HB0.out.size)⟩
        · have h := HI.out
          rw [HXX.out, show need.take i = need from List.take_of_length_le (by rw [← HRL.out]; omega), hi'] at h
          exact h
        · intro d hd
          obtain ⟨x, hx, rfl⟩ := List.mem_map.1 hd
          have := HLT.out x hx
          exact H32.out x.toNat (by omega)
end Go.Proofs.YtndpidmbfdpiaaaDoor.St
