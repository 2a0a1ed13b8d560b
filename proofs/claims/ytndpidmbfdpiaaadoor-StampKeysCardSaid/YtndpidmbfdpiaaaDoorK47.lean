/- Layer 26 (stamp), the document's Job. -/
import Derived.Test.YtndpidmbfdpiaaaDoorK45
import Derived.Test.YtndpidmbfdpiaaaDoorK21
import Derived.Test.YtndpidmbfdpiaaaDoorK46
namespace Go.Proofs.YtndpidmbfdpiaaaDoor.St
open Go Go.RowKit Go.Proofs.YtndpidmbfdpiaaaDoor Go.Proofs.YtndpidmbfdpiaaaDoor.Au Go.Proofs.YtndpidmbfdpiaaaDoor.Re Go.Proofs.YtndpidmbfdpiaaaDoor.Se
set_option linter.unusedVariables false
set_option linter.unusedSimpArgs false

theorem step_append_bsc {w : World} {ops : Array Oper} {o : Oper} {a : Act} {K : Act → World → Prop} {Q : Exit → Act → World → Prop} {E : Prop} (hgd : o.guard = none) (s x : Operand)
    (ho : o.op = .call { callee := .builtin .append, args := #[s, x], argTypes := #[22, 22] }) (base : Nat) (v : Value) (n m : Nat) (xs l : List UInt8) (hm : m = n + l.length) (hs : a.eval s = v) (hown : w.ownsRow base 5 1 v n (vals xs))
    (u : Value) (hx : a.eval x = u) (hb : BsC w u l) (h63 : m ≤ 140737488355328) (hbase : base ≤ w.heap.size)
    (h : ∀ a' c' w', w'.ownsRow base 5 1 (.slice a' m c') m (vals (xs ++ l)) → Below base w w' → K (a.put o.dst (.slice a' m c')) w') :
    if Region.wanted o (yielded ops a.tmps) = true then Oper.wp Tryd.prog o a w K Q else E := by
  have hw : Region.wanted o (yielded ops a.tmps) = true := by simp [Region.wanted, hgd]
  rw [if_pos hw]
  subst hm
  obtain ⟨i0, hi, hz0, hz1, hz2⟩ := info_parts infoByte
  rcases hb with ⟨rfl, rfl⟩ | ⟨ad, cap, rfl, hc, hcell⟩
  · have hrun := run_append_owned_none (P := Tryd.prog) (w := w) base 22 o.type 5 i0 1 Tryd.underlying22 hi v n (vals xs) hown
    obtain ⟨a', c', rfl⟩ := own_form hown
    unfold Oper.wp
    simp [execOp, ho, resolve, invoke, builtin, hs, hx, hrun, Result.andThen]
    exact h a' c' w (by simpa using hown) (Below.refl _ _)
  · obtain ⟨v', w', hr, h2, h3, -, -⟩ := run_append_own_at (P := Tryd.prog) w base 22 o.type 5 i0 (.int .u8 0) 1 1 Tryd.underlying22 hi hz0 hz1 hz2 rfl (by decide) v n (vals xs) hown ad l.length cap (vals l) (by rw [vals_length, Nat.mul_one]) hcell (vals_one _) (by unfold maxLen; omega) (by omega) hbase
    obtain ⟨a', c', rfl⟩ := own_form h2
    rw [← vals_append] at h2
    unfold Oper.wp execOp
    simp only [ho, resolve, invoke, builtin, Sem.run_bind, Sem.run_pure, Result.andThen_ok, List.map_toArray, List.map_cons, List.map_nil, hs, hx, hr]
    exact h a' c' w' h2 ((Below.refl _ _).grown h3 hbase (fun q hq => (hown.lt q hq).1))

set_option maxHeartbeats 8000000 in
set_option maxRecDepth 100000 in
theorem rjob_any (v : Value) (l : List UInt8) (w : World) (hv : BsC w v l) (hl : l.length ≤ 4999) :
    Calls Tryd.prog 9 #[.agg (nums .u32 tbl).toArray, v] w fun e w' => e = .returned (.agg (vals (jobB l)).toArray) ∧ Below w.heap.size w w' := by
  obtain ⟨va, vc, hform⟩ := bsc_form hv
  obtain ⟨m, hm⟩ : ∃ m, m = 1 + l.length := ⟨_, rfl⟩
  have HM := Lib.hid hm
  have HL := Lib.hid (show m = (74 :: l).length by rw [hm, List.length_cons]; omega)
  have HLL := Lib.hid (show (74 :: l).length ≤ 5000 by rw [List.length_cons]; omega)
  have hmb : m ≤ 5000 := by omega
  obtain ⟨T, hTb⟩ : ∃ T, T = (nums .u32 tbl).toArray := ⟨_, rfl⟩
  have hTs : T.size = 72 := by rw [hTb]; simp [nums_length, tbl_len]
  rw [← hTb]
  have HTB := Lib.hid hTb
  have hr0 := rows2 w (.cells T 31) (.cells Y32 26)
  have hb0 := Ve.below_n2 w (.cells T 31) (.cells Y32 26)
  have hv0 := hv.on hb0
  obtain ⟨y0, hy0⟩ : ∃ y, (w.alloc (.cells T 31)).alloc (.cells Y32 26) = y := ⟨_, rfl⟩
  obtain ⟨P, hP⟩ : ∃ P, P = w.heap.size := ⟨_, rfl⟩
  rw [hy0] at hr0 hb0 hv0
  rw [← hP] at hr0
  have HPW := Lib.hid hP
  have HR0 := Lib.hid hr0
  have HB0 := Lib.hid hb0
  have HY0 := Lib.hid hy0
  have HV0 := Lib.hid hv0
  have HST := Lib.hid (show (Tryd.prog.info? 31).map (·.size) = some T.size by rw [hTs]; kernel_rfl)
  obtain ⟨D, hD⟩ : ∃ D, D = (vals (jobB l)).toArray := ⟨_, rfl⟩
  have hDs : D.size = 32 := by rw [hD]; simp [vals_length, jobB, shaB_len]
  have HDD := Lib.hid hD
  have HSZ := Lib.hid (show (Tryd.prog.info? 26).map (·.size) = some D.size from info32r hDs)
  have HZZ := Lib.hid (show Y32.size = D.size by rw [hDs]; rfl)
  have HOO := Lib.hid (show D.all (·.oneCell') = true by rw [hD]; exact all_oneCell_toArray (vals_one _))
  subst hform
  clear hr0 hb0 hv0 hy0 hP hTb hTs hv hm hD hDs
  go_enter Tryd.func9, Tryd.ntmps9
  go_upto_region 1 with fail
  rw [HY0.out, ← HPW.out]
  refine wp_region_held_drew (S := fun y => y.heap[P]? = some (.cells T 31 (0, 0))) (by kernel_rfl) (HR0.out.1) (fun hS0 => ?_)
  obtain ⟨y1, hy1⟩ : ∃ y, y0.drew = y := ⟨_, rfl⟩
  have HB1 := Lib.hid (show Below w.heap.size w y1 by rw [← hy1]; exact HB0.out.drew)
  have HR1 := Lib.hid (show y1.heap[P + 1]? = some (.cells Y32 26 (0, 0)) by rw [← hy1]; exact HR0.out.2)
  have HV1 := Lib.hid (show BsC y1 (.slice va l.length vc) l by rw [← hy1]; exact HV0.out)
  rw [hy1] at hS0 ⊢
  clear hy1 HV0
  refine wpAnyH_take (i := 0) (v := .agg T) rfl (by kernel_rfl) (by kernel_rfl) (by kernel_rfl) (fun _ _ _ h => h) (Lr.yieldsIf_load_row (by kernel_rfl) 31 (.tmp 2) rfl P rfl 31 T _ (fun yy hh => hh) Tryd.underlying31 rfl HST.out) hS0 ?_
  go_simp
  refine wpAnyH_take (i := 2) (v := ?_) rfl (by kernel_rfl) (by kernel_rfl) (by kernel_rfl) (fun _ _ _ h => h) (Or.inl ⟨by kernel_rfl, by (intro wz hSz; go_simp; try with_reducible rfl)⟩) hS0 ?_
  go_simp
  refine wpAnyH_ready (rs := [1]) (by kernel_rfl) (by simp) ?_
  refine AllReadyH.cons rfl (fun K hK => ?_) AllReadyH.nil
  go_simp
  have hx2 := Ve.below_n1 y1 (.cells #[.int .u8 74] 5)
  have HO2 := Lib.hid (show (y1.alloc (.cells #[.int .u8 74] 5)).ownsRow y1.heap.size 5 1 (.slice (some ⟨y1.heap.size, 0, none⟩) 1 1) 1 (vals [74]) from ⟨rfl, .inr ⟨y1.heap.size, 1, #[.int .u8 74], rfl, Nat.le_refl _, heap_alloc_last y1 _, Nat.le_refl _, by unfold maxLen; omega, rfl, rfl⟩⟩)
  have HV2 := Lib.hid (HV1.out.on hx2)
  have HR2 := Lib.hid ((hx2.block (P + 1) (lt_heap HR1.out)).trans HR1.out)
  have hS2 := (hx2.block P (lt_heap hS0)).trans hS0
  obtain ⟨q, hq⟩ : ∃ q, q = y1.heap.size := ⟨_, rfl⟩
  obtain ⟨y2, hy2⟩ : ∃ y, y1.alloc (.cells #[.int .u8 74] 5) = y := ⟨_, rfl⟩
  rw [hy2] at hx2 HO2 HV2 HR2 hS2 ⊢
  have HX2 := Lib.hid hx2
  clear hy2 hx2 hq q
  refine hK.out _ _ (hS2) (fun hSB => ?_)
  clear hK K
  refine wpAnyH_ready (rs := [3]) (by kernel_rfl) (by simp) ?_
  refine AllReadyH.cons rfl (fun K hK => ?_) AllReadyH.nil
  refine step_append_bsc rfl _ _ rfl y1.heap.size _ 1 m [74] l HM.out rfl HO2.out _ rfl HV2.out ?c1 HX2.out.size ?_
  case c1 => omega
  intro a3 c3 y3 hown3 hb3
  have HO3 := Lib.hid (show BsC y3 (.slice a3 m c3) (74 :: l) from by
    have h := hown3
    rw [HL.out] at h ⊢
    exact own_bsc h)
  have hS3 := (hb3.block P (by have := lt_heap HR1.out; omega)).trans hSB
  have HR3 := Lib.hid ((hb3.block (P + 1) (lt_heap HR1.out)).trans HR2.out)
  have HX3 := Lib.hid (HX2.out.trans hb3)
  clear hb3 hown3 HO2 HV2 HX2 HR2
  refine hK.out _ _ (hS3) (fun hSA => ?_)
  clear hK K
  refine wpAnyH_ready (rs := [4]) (by kernel_rfl) (by simp) ?_
  refine AllReadyH.cons rfl (fun K hK => ?_) AllReadyH.nil
  have hof := rof_any _ _ y3 HO3.out HLL.out
  rw [show nums .u8 (sha (74 :: l)) = vals (jobB l) from sha_vals _, ← HTB.out, ← HDD.out] at hof
  go_simp
  go_wp2_with (go_at_call 24; with_reducible refine hof.mono ?_; rintro e y4 ⟨rfl, hb4⟩)
  have hS4 := (hb4.block P (lt_heap hSA)).trans hSA
  have HR4 := Lib.hid ((hb4.block (P + 1) (lt_heap HR3.out)).trans HR3.out)
  have HX4 := Lib.hid (HX3.out.trans (hb4.mono HX3.out.size))
  clear hb4 hof HR3 HX3 HO3
  refine hK.out _ _ (hS4) (fun hSC => ?_)
  clear hK K
  refine wpAnyH_ready (rs := [5]) (by kernel_rfl) (by simp) ?_
  refine AllReadyH.cons rfl (fun K hK => ?_) AllReadyH.nil
  refine Au.step_store_row rfl 26 (.tmp 4) (.tmp 9) rfl Y32 D (P + 1) 26 HR4.out rfl rfl HSZ.out HZZ.out HOO.out ?_
  have hS5 := (setRow_other y4 (P + 1) P D (by omega)).trans hSC
  refine hK.out _ _ (hS5) (fun hSS => ?_)
  clear hK K
  refine wpAnyH_done (by kernel_rfl) ?_ _
  go_wp2_with fail
  have hN2 := setRow_heap y4 (P + 1) _ D _ _ HR4.out
  exact bodyPost_ret (v := .agg D) (results_cell_row Tryd.results9 _ _ (P + 1) 26 D (0, 0) _ rfl hN2 Tryd.underlying26 rfl HSZ.out) rfl ⟨by rw [HDD.out], below_setRow (g := P + 1) (HB1.out.trans (HX4.out.mono HB1.out.size)) (by have := HPW.out; omega) D⟩
end Go.Proofs.YtndpidmbfdpiaaaDoor.St
