/- Layer 25: how many steps need one another in a row, by the program. -/
import Derived.Test.YtndpidmbfdpiaaaPng
import Derived.Test.YtndpidmbfdpiaaaPnc
import Derived.Test.YtndpidmbfdpiaaaOl
namespace Go.Proofs.Ytndpidmbfdpiaaa.Pn
open Go Go.RowKit Go.Shelf Go.Proofs Go.Proofs.Ytndpidmbfdpiaaa Go.Proofs.Ytndpidmbfdpiaaa.Au Go.Proofs.Ytndpidmbfdpiaaa.Re
set_option linter.unusedVariables false
set_option linter.unusedSimpArgs false

theorem infoN' : (Try.prog.info? 3).map (fun i => (i.zero, i.size, i.bytes)) = some (some (.int .i64 0), 1, 8) := by kernel_rfl
def deepP (L : List (List Int)) : Int := if chk L = 0 then mxk (dp L) (ord L L.length) L.length else 0
theorem mxk_succ (f : Int → Int) (l : List Int) (k : Nat) : mxk f l (k + 1) = max (mxk f l k) (f (l.getD k 0)) := rfl
theorem getD_mem' {l : List Int} {i : Nat} (h : i < l.length) : l.getD i 0 ∈ l := by rw [getD_lt h]; exact List.getElem_mem h

set_option maxHeartbeats 8000000 in
set_option maxRecDepth 100000 in
theorem deep_any (a : Option Addr) (c n : Nat) (L : List (List Int)) (w : World) (hn : n = L.length) (hP : PAt w a n L) :
    Calls Try.prog 14 #[.slice a n c] w fun e w' => e = .returned (.int .i64 (deepP L)) ∧ Below w.heap.size w w' := by
  have HP := Lib.hid hP
  have HN := Lib.hid hn
  have hnb := hP.2.1
  have hord := order_any a c n L w hn hP
  clear hP hn
  by_cases h0 : chk L = 0
  · have hO : ordL L = ord L n := by unfold ordL; rw [if_pos h0, ← HN.out]
    have HW := Lib.hid (whole_ord (chk_full h0))
    rw [← HN.out] at HW
    have hDp : deepP L = mxk (dp L) (ord L n) n := by unfold deepP; rw [if_pos h0, ← HN.out]
    rw [h0, hO] at hord
    have hlen : (ord L n).length = n := by rw [HW.out.len, HN.out]
    rw [hlen] at hord
    rw [hDp]
    have hn256 : n ≤ 256 := by
      have h := chk_named h0
      unfold named at h
      rw [← HN.out] at h
      split at h
      · cases h
      · omega
    obtain ⟨o, ho⟩ : ∃ o, o = ord L n := ⟨_, rfl⟩
    rw [← ho] at hord HW hlen ⊢
    have HLo := Lib.hid hlen
    obtain ⟨D, hD⟩ : ∃ D, D = mxk (dp L) o n := ⟨_, rfl⟩
    have HDD := Lib.hid hD
    rw [← hD]
    clear hO ho h0 hDp hlen hD
    have hmk := fun w => run_make_row' (P := Try.prog) 28 3 (.int .i64 0) 8 Try.underlying28 infoN' rfl .i64 .i64 n (by omega) (by omega) w
    go_enter Try.func14, Try.ntmps14
    go_upto_region 2 with (go_at_call 9; refine hord.mono ?_; rintro e y1 ⟨⟨v, rfl, hown⟩, hb1⟩)
    obtain ⟨va, vc, hv⟩ := own_form hown
    subst hv
    go_upto_region 4 with fail
    have HB1 := Lib.hid hb1
    have HOW := Lib.hid hown
    clear hb1 hown
    refine wp_region_held_drew (S := fun _ => True) (by kernel_rfl) (trivial) (fun hS0 => ?_)
    obtain ⟨y2, hy2⟩ : ∃ y, y1.drew = y := ⟨_, rfl⟩
    have HY2 := Lib.hid hy2.symm
    rw [hy2]
    clear hy2
    refine wpAnyH_take (i := 0) (v := ?_) rfl (by kernel_rfl) (by kernel_rfl) (by kernel_rfl) (fun _ _ _ h => h) (Or.inl ⟨by kernel_rfl, by (intro wz hSz; go_simp; try with_reducible rfl)⟩) hS0 ?_
    go_simp
    refine wpAnyH_take (i := 1) (v := ?_) rfl (by kernel_rfl) (by kernel_rfl) (by kernel_rfl) (fun _ _ _ h => h) (Or.inl ⟨by kernel_rfl, by (intro wz hSz; go_simp; try with_reducible rfl)⟩) hS0 ?_
    go_simp
    refine wpAnyH_take (i := 3) (v := ?_) rfl (by kernel_rfl) (by kernel_rfl) (by kernel_rfl) (fun _ _ _ h => h) (Or.inl ⟨by kernel_rfl, by (intro wz hSz; go_simp; try with_reducible rfl)⟩) hS0 ?_
    go_simp
    refine wpAnyH_ready (rs := [2]) (by kernel_rfl) (by simp) ?_
    refine AllReadyH.cons rfl (fun K hK => ?_) AllReadyH.nil
    go_simp
    have hb3 := Ve.below_n1 y2 (.cells (madeCells #[.int .i64 0] n) 3)
    have hri := World.rowIs_made y2 (.int .i64 0) n 3
    obtain ⟨y3, hy3⟩ : ∃ y, y2.alloc (.cells (madeCells #[.int .i64 0] n) 3) = y := ⟨_, rfl⟩
    obtain ⟨g, hg⟩ : ∃ q, q = y2.heap.size := ⟨_, rfl⟩
    rw [hy3] at hb3 hri ⊢
    rw [← hg] at hri ⊢
    have HGW := Lib.hid hg
    clear hy3 hg
    refine hK.out _ _ (trivial) (fun hS1 => ?_)
    clear hK K
    refine wpAnyH_take (i := 4) (v := ?_) rfl (by kernel_rfl) (by kernel_rfl) (by kernel_rfl) (fun _ _ _ h => h) (Or.inl ⟨by kernel_rfl, by (intro wz hSz; go_simp; try with_reducible rfl)⟩) hS1 ?_
    go_simp
    refine wpAnyH_done (by kernel_rfl) ?_ _
    have HB2 : Below y1.heap.size y1 y2 := by rw [HY2.out]; exact (Below.refl _ y1).drew
    have HBY := Lib.hid (HB2.trans (hb3.mono HB2.size))
    have HG1 := Lib.hid (show y1.heap.size ≤ g by rw [HGW.out]; exact HB2.size)
    have HRI := Lib.hid (show y3.rowIs g 3 n (fun j => .int .i64 ((rws L o 0).getD j 0)) from hri.congr fun j hj => by rw [rws_zero]; simp [List.getD, List.getElem?_replicate, show j < L.length by rw [← HN.out]; exact hj])
    clear hb3 hri HB2 hmk
    go_upto_region 6 with fail
    go_loopw [5, 23] (fun dv v wr => ∃ k : Nat, k ≤ n ∧ dv = .int .i64 (mxk (dp L) o k) ∧ v = .int .i64 k ∧ Hid (Below y1.heap.size y1 wr) ∧ Hid (wr.rowIs g 3 n (fun j => .int .i64 ((rws L o k).getD j 0)))) (fun _ v _ => n - (intOf v).toNat)
    case atStart => exact ⟨0, by omega, rfl, rfl, HBY, HRI⟩
    case round =>
      obtain ⟨k, hk, rfl, rfl, HB, HR⟩ := hrel
      by_cases hlt : k < n
      · have hlt' : (k : Int) < n := by omega
        have hko : k < o.length := by rw [HLo.out]; exact hlt
        obtain ⟨ob, hob, _, hobl, hocell, _⟩ := own_cell (Ls.own_below HOW.out HB.out) hlt
        subst hob
        have hr0 := HW.out.ok.2 (o.getD k 0) (getD_mem' hko)
        obtain ⟨q, hq0⟩ : ∃ q : Nat, o.getD k 0 = (q : Int) := ⟨(o.getD k 0).toNat, by omega⟩
        rw [hq0] at hocell hr0
        have HQ := Lib.hid hq0
        have hq : q < n := by have := HN.out; omega
        have hq' : (q : Int) < n := by omega
        obtain ⟨pb, poff, hpa, b', c', hcw, hro⟩ := HP.out.row hq
        subst hpa
        have hpb : pb < w.heap.size := by
          have := World.block_lt_of_cell? w _ hcw
          simpa using this
        have hcell := ((HB1.out.trans (HB.out.mono HB1.out.size)).cell (p := ⟨pb, poff + q, none⟩) hpb).trans hcw
        clear hcw
        have HDQ := Lib.hid (show dp L (q : Int) = mxk (dp L) L[q]! (L[q]!).length + 1 by have := dp_eq HW.out hko; rw [HQ.out] at this; simpa using this)
        have HND := Lib.hid (show ∀ i, i < (L[q]!).length → ∃ j, j < k ∧ (L[q]!).getD i 0 = o.getD j 0 from fun i hi => by
          have := HW.out.need hko (q := i) (by rw [HQ.out]; simpa using hi)
          rw [HQ.out] at this
          simpa using this)
        generalize L[q]! = R at hcell hro HDQ HND
        obtain ⟨r, hr⟩ : ∃ r, r = R.length := ⟨_, rfl⟩
        rw [← hr] at hcell hro
        have HRL := Lib.hid hr
        have HRO := Lib.hid hro
        have hrb : r ≤ 9223372036854775807 := by
          obtain ⟨_, _, _, hv, _, hm, _⟩ := hro
          cases hv
          exact hm.1
        obtain ⟨y0, hy0⟩ : ∃ y, y = wr := ⟨_, rfl⟩
        subst hy0
        clear hr hro hq0
        go_upto_region 9 with fail
        go_loopw [32] (fun v wq => ∃ i : Nat, i ≤ r ∧ v = .int .i64 i ∧ Hid (Below y1.heap.size y1 wq) ∧ Hid (wq.rowIs g 3 n (fun j => .int .i64 (if j = q then mxk (dp L) R i else (rws L o k).getD j 0)))) (fun v _ => r - (intOf v).toNat)
        case atStart => exact ⟨0, by omega, rfl, HB, Lib.hid (HR.out.congr fun j hj => by
          by_cases e : j = q
          · subst e
            rw [if_pos rfl, rws_get (by rw [← HN.out]; exact hj)]
            have hno : has (o.take k) (j : Int) = false := by
              cases hh : has (o.take k) (j : Int) with
              | false => rfl
              | true =>
                obtain ⟨i, hi, e⟩ := List.mem_iff_getElem.1 (has_iff.1 hh)
                rw [List.length_take] at hi
                rw [List.getElem_take, ← HQ.out, getD_lt hko] at e
                exact absurd e (List.pairwise_iff_getElem.1 HW.out.ok.1 i k (by omega) hko (by omega))
            rw [hno]; rfl
          · rw [if_neg e])⟩
        case round =>
          obtain ⟨i, hi, rfl, HBq, HSz⟩ := hrel
          by_cases hir : i < r
          · have hir' : (i : Int) < r := by omega
            have hci : ∃ b2 off2, b' = some ⟨b2, off2, none⟩ ∧ wr.cell? ⟨b2, off2 + i, none⟩ = some (.int .i64 (R.getD i 0)) := by
              obtain ⟨_, _, _, hv, hnn, _, h⟩ := HRO.out.on (HB1.out.trans (HBq.out.mono HB1.out.size))
              cases hv
              rcases h with h | ⟨b2, off2, ha2, _, hc2⟩
              · omega
              · exact ⟨b2, off2, ha2, hc2 i hir⟩
            obtain ⟨b2, off2, hb2, hci⟩ := hci
            subst hb2
            obtain ⟨j, hj, ej⟩ := HND.out i (by rw [← HRL.out]; exact hir)
            have hjo : j < o.length := by omega
            have hr1 := HW.out.ok.2 (o.getD j 0) (getD_mem' hjo)
            obtain ⟨s, hs0⟩ : ∃ s : Nat, o.getD j 0 = (s : Int) := ⟨(o.getD j 0).toNat, by omega⟩
            rw [hs0] at hr1
            have hsn : s < n := by have := HN.out; omega
            have hsn' : (s : Int) < n := by omega
            have hsq : s ≠ q := by
              intro e
              rw [e, ← HQ.out, getD_lt hjo, getD_lt hko] at hs0
              exact List.pairwise_iff_getElem.1 HW.out.ok.1 j k hjo hko hj hs0
            have hc1 := HSz.out.cell hq
            have hc2 := HSz.out.cell hsn
            have hf1 := HSz.out.frozen q
            rw [if_pos rfl] at hc1
            rw [if_neg hsq, rws_get (by rw [← HN.out]; exact hsn), if_pos (has_iff.2 (by rw [← hs0, getD_lt hjo]; exact List.mem_take_iff_getElem.2 ⟨j, by omega, rfl⟩))] at hc2
            rw [ej, hs0] at hci
            have HM := Lib.hid (show mxk (dp L) R (i + 1) = max (mxk (dp L) R i) (dp L (s : Int)) by rw [mxk_succ, ej, hs0])
            obtain ⟨X, hX⟩ : ∃ X, X = mxk (dp L) R i := ⟨_, rfl⟩
            obtain ⟨Y, hY⟩ : ∃ Y, Y = dp L (s : Int) := ⟨_, rfl⟩
            rw [← hX, ← hY] at HM
            rw [← hX] at hc1
            rw [← hY] at hc2
            clear hX hY ej hs0
            go_upto_region 11 with fail
            refine Ol.way_drew (S := fun y : World => y.cell? ⟨g, q, none⟩ = some (.int .i64 X) ∧ y.cell? ⟨g, s, none⟩ = some (.int .i64 Y) ∧ y.frozen? ⟨g, q, none⟩ = false) (stop := 12) (by kernel_rfl) (⟨hc1, hc2, hf1⟩) (fun hS0 => ?_)
            obtain ⟨z0, hz0⟩ : ∃ y, wr.drew = y := ⟨_, rfl⟩
            rw [hz0] at hS0 ⊢
            have HZ0 := Lib.hid hz0
            clear hz0 hc1 hc2 hf1
            refine Ol.way_plain (i := 0) (v := ?_) rfl (by kernel_rfl) (by kernel_rfl) (by kernel_rfl) (fun _ _ _ h => h) (by decide) (Or.inl ⟨by kernel_rfl, by (intro wz _; go_simp; try with_reducible rfl)⟩) (Ol.on hS0) ?_
            go_simp
            refine Ol.way_plain (i := 1) (v := ?_) rfl (by kernel_rfl) (by kernel_rfl) (by kernel_rfl) (fun _ _ _ h => h) (by decide) (Or.inl ⟨by kernel_rfl, by (intro wz _; go_simp; try with_reducible rfl)⟩) (Ol.on hS0) ?_
            go_simp
            refine Ol.way_plain (i := 2) (v := ?_) rfl (by kernel_rfl) (by kernel_rfl) (by kernel_rfl) (fun _ _ _ h => h) (by decide) (Or.inl ⟨by kernel_rfl, by (intro wz _; go_simp; try with_reducible rfl)⟩) (Ol.on hS0) ?_
            go_simp
            refine Ol.way_plain (i := 3) (v := ?_) rfl (by kernel_rfl) (by kernel_rfl) (by kernel_rfl) (fun _ _ _ h => h) (by decide) (Or.inl ⟨by kernel_rfl, by (intro wz _; go_simp; try with_reducible rfl)⟩) (Ol.on hS0) ?_
            go_simp
            refine Ol.way_plain (i := 4) (v := ?_) rfl (by kernel_rfl) (by kernel_rfl) (by kernel_rfl) (fun _ _ _ h => h) (by decide) (Or.inl ⟨by kernel_rfl, by (intro wz _; go_simp; try with_reducible rfl)⟩) (Ol.on hS0) ?_
            go_simp
            refine Ol.way_take (i := 5) (v := ?_) rfl (by kernel_rfl) (by kernel_rfl) (by kernel_rfl) (fun _ _ _ h => h) (by decide) (by kernel_rfl) (by kernel_rfl) (Or.inl ⟨by kernel_rfl, by (intro wz hSz; have cq_ := hSz.1; go_simp; try with_reducible rfl)⟩) hS0 ?_
            go_simp
            refine Ol.way_plain (i := 6) (v := ?_) rfl (by kernel_rfl) (by kernel_rfl) (by kernel_rfl) (fun _ _ _ h => h) (by decide) (Or.inl ⟨by kernel_rfl, by (intro wz _; go_simp; try with_reducible rfl)⟩) (Ol.on hS0) ?_
            go_simp
            refine Ol.way_plain (i := 7) (v := ?_) rfl (by kernel_rfl) (by kernel_rfl) (by kernel_rfl) (fun _ _ _ h => h) (by decide) (Or.inl ⟨by kernel_rfl, by (intro wz _; go_simp; try with_reducible rfl)⟩) (Ol.on hS0) ?_
            go_simp
            refine Ol.way_plain (i := 8) (v := ?_) rfl (by kernel_rfl) (by kernel_rfl) (by kernel_rfl) (fun _ _ _ h => h) (by decide) (Or.inl ⟨by kernel_rfl, by (intro wz _; go_simp; try with_reducible rfl)⟩) (Ol.on hS0) ?_
            go_simp
            refine Ol.way_take (i := 9) (v := ?_) rfl (by kernel_rfl) (by kernel_rfl) (by kernel_rfl) (fun _ _ _ h => h) (by decide) (by kernel_rfl) (by kernel_rfl) (Or.inl ⟨by kernel_rfl, by (intro wz hSz; have cs_ := hSz.2.1; go_simp; try with_reducible rfl)⟩) hS0 ?_
            go_simp
            refine Ol.way_plain (i := 10) (v := ?_) rfl (by kernel_rfl) (by kernel_rfl) (by kernel_rfl) (fun _ _ _ h => h) (by decide) (Or.inl ⟨by kernel_rfl, by (intro wz _; go_simp; try with_reducible rfl)⟩) (Ol.on hS0) ?_
            go_simp
            refine Ol.way_plain (i := 11) (v := ?_) rfl (by kernel_rfl) (by kernel_rfl) (by kernel_rfl) (fun _ _ _ h => h) (by decide) (Or.inl ⟨by kernel_rfl, by (intro wz _; go_simp; try with_reducible rfl)⟩) (Ol.on hS0) ?_
            go_simp
            refine Ol.way_ready (rs := [12]) (by kernel_rfl) (by simp) ?_
            refine Ol.Each.cons rfl (fun K hK => ?_) Ol.Each.nil
            have hcq_ := hS0.1
            have hfq_ := hS0.2.2
            go_simp
            clear hcq_ hfq_
            refine Ol.past hK (by kernel_rfl) _ _ ?_
            clear hK K
            refine Ol.way_done (by kernel_rfl) ?_ _
            go_wp2_with fail
            go_roundw
            case rel =>
              rw [← HZ0.out]
              refine ⟨i + 1, by omega, by go_num, Lib.hid ((HBq.out.drew).setCell HG1.out _), Lib.hid ((World.rowIs.set (w := wr.drew) HSz.out q _).congr fun j hj => ?_)⟩
              by_cases e : j = q
              · rw [if_pos e, if_pos e, HM.out]
              · rw [if_neg e, if_neg e, if_neg e]
            case measure => simp [intOf]; omega
          · have hge : ¬ (i : Int) < r := by omega
            have hi' : i = r := by omega
            subst hi'
            have hc1 := HSz.out.cell hq
            have hf1 := HSz.out.frozen q
            rw [if_pos rfl] at hc1
            have HX := Lib.hid (show dp L (q : Int) = mxk (dp L) R i + 1 by rw [HDQ.out, HRL.out])
            have hbd := dp_bd L (q : Int)
            have hnn := mxk_nn (dp L) R i
            rw [HX.out, ← HN.out] at hbd
            have HM := Lib.hid (show mxk (dp L) o (k + 1) = max (mxk (dp L) o k) (dp L (q : Int)) by rw [mxk_succ, HQ.out])
            obtain ⟨X, hX⟩ : ∃ X, X = mxk (dp L) R i := ⟨_, rfl⟩
            rw [← hX] at hc1 HX hbd hnn
            rw [HX.out] at HM
            have HXX := Lib.hid hX
            clear hX
            go_upto_region 14 with fail
            have hcw : wr.setCell ⟨g, q, none⟩ (.int .i64 (X + 1)) = wr.setCell ⟨g, q, none⟩ (.int .i64 (X + 1)) := rfl
            have hR3 := HSz.out.set q (.int .i64 (X + 1))
            have hB3 := Lib.hid (HBq.out.setCell (p := ⟨g, q, none⟩) HG1.out (.int .i64 (X + 1)))
            obtain ⟨y4, hy4⟩ : ∃ y, wr.setCell ⟨g, q, none⟩ (.int .i64 (X + 1)) = y := ⟨_, rfl⟩
            try rw [hy4]
            rw [hy4] at hR3 hB3
            have HR3 := Lib.hid hR3
            have hc3 := hR3.cell hq
            rw [if_pos rfl] at hc3
            clear hR3 hcw hy4 hc1 hf1
            go_wp2_with fail
            go_roundw
            case rel =>
              refine ⟨k + 1, by omega, by rw [HM.out], by go_num, hB3, Lib.hid (HR3.out.congr fun j hj => ?_)⟩
              have hs := rws_set (L := L) hko (by rw [← HN.out]; exact hq) HQ.out
              rw [← hs]
              by_cases e : j = q
              · subst e
                rw [if_pos rfl, HX.out]
                simp [List.getD, rws_len, show j < L.length by rw [← HN.out]; exact hj]
              · rw [if_neg e, if_neg e]
                simp [List.getD, List.getElem?_set_ne (Ne.symm e)]
            case measure => simp [intOf]; omega
      · have hge : ¬ (k : Int) < n := by omega
        have hk' : k = n := by omega
        subst hk'
        go_wp2_with fail
        go_ret
        rw [HDD.out]
        exact ⟨rfl, HB1.out.trans (HB.out.mono HB1.out.size)⟩
  · have d0 : decide (chk L = 0) = false := by simp [h0]
    have hDp : deepP L = 0 := by unfold deepP; rw [if_neg h0]
    rw [hDp]
    obtain ⟨E, hE⟩ : ∃ E, E = chk L := ⟨_, rfl⟩
    rw [← hE] at hord h0 d0
    clear hE hDp
    go_enter Try.func14, Try.ntmps14
    go_wp2_with (go_at_call 9; refine hord.mono ?_; rintro e y1 ⟨⟨v, rfl, hown⟩, hb1⟩)
    go_ret
    exact ⟨rfl, hb1⟩
end Go.Proofs.Ytndpidmbfdpiaaa.Pn
