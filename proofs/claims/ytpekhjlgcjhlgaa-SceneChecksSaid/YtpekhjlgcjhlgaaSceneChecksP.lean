/- SceneChecks (zoetropelaw08): for every input the law returns true, and what came in reads as it did. -/
import Derived.Test.YtpekhjlgcjhlgaaRows
import Derived.Test.YtpekhjlgcjhlgaaSl
import Derived.Test.YtpekhjlgcjhlgaaSo
import Derived.SizedLaws
import Derived.ProofKit
import Derived.OpenShut
import Derived.ShutString
import Derived.ChangeOld
import Derived.Below
import Derived.Test.YtpekhjlgcjhlgaaSm
import Derived.Test.YtpekhjlgcjhlgaaSx
import Derived.Test.YtpekhjlgcjhlgaaSz
import Derived.Test.YtpekhjlgcjhlgaaSj
import Derived.Test.YtpekhjlgcjhlgaaSv
import Derived.Deep.MidRow
import Derived.StillTailTactics
namespace Go.Proofs.Ytpekhjlgcjhlgaa.Sc
open Go.RowKit Go.Proofs.Ytpekhjlgcjhlgaa Go.Proofs.Ytpekhjlgcjhlgaa.Wa Go.Proofs.Ytpekhjlgcjhlgaa.Ve Go.Proofs.Ytpekhjlgcjhlgaa.Tk Go.Proofs.Ytpekhjlgcjhlgaa.Ls
set_option linter.unusedVariables false

set_option maxHeartbeats 8000000 in
set_option maxRecDepth 100000 in
theorem checksW_walk (s : Scn) (a : Pla) (w : World) (hs : ScAt w s a) :
    Calls Try.prog 3 #[SV s a] w fun e w' => e = .returned (.bool true) ∧ Below w.heap.size w w' := by
  obtain ⟨c0, hc0⟩ : ∃ c0 : List Value, c0 = (SC s a).toList := ⟨_, rfl⟩
  have e0 : SV s a = .agg c0.toArray := by rw [hc0]
  have HE0 := Lib.hid e0
  have HB0 := Lib.hid (heap_alloc_last w (.cells c0.toArray 32))
  have HS0 := Lib.hid (hs.on (below_n1 w (.cells c0.toArray 32)))
  have HW0 := Lib.hid (below_n1 w (.cells c0.toArray 32))
  have HZL := Lib.hid (show (Try.prog.info? 32).map (·.size) = some c0.length by rw [hc0]; kernel_rfl)
  have HZA := Lib.hid (show (Try.prog.info? 32).map (·.size) = some c0.toArray.size by rw [hc0]; kernel_rfl)
  have HRG := Lib.hid (show ∀ y : World, y.heap[w.heap.size]? = some (.cells c0.toArray 32 (0, 0)) → y.rangeAt w.heap.size 0 c0 from fun y h j v hj => by rw [Nat.zero_add, cell_of_row _ _ j _ _ _ h]; simpa using hj)
  rw [e0]
  clear hs hc0 e0
  go_enter Try.func3, Try.ntmps3
  go_wp2_with (first | (with_reducible refine wpList_load_row rfl 32 (.tmp 1) rfl w.heap.size rfl 32 c0.toArray (0, 0) _ HB0.out Try.underlying32 rfl HZA.out ?_))
  rw [← HE0.out]
  refine (small_any s a _ HS0.out).mono ?_
  rintro e w1 ⟨rfl, hb1⟩
  rw [HE0.out]
  have HB1 := Lib.hid ((hb1.block _ (lt_heap HB0.out)).trans HB0.out)
  have HS1 := Lib.hid (HS0.out.on hb1)
  have HW1 := Lib.hid (HW0.out.trans (hb1.mono HW0.out.size))
  obtain ⟨sm, hsm⟩ : ∃ sm, sm = smallB s := ⟨_, rfl⟩
  rw [← hsm]
  clear hsm hb1 HB0 HS0 HW0
  cases sm
  · go_wp2_with fail
    refine (awake_any _).mono ?_
    rintro e w4 ⟨rfl, hb4⟩
    go_wp2
    go_ret
    exact ⟨rfl, HW1.out.trans (hb4.mono HW1.out.size)⟩
  · go_wp2_with (first | (with_reducible refine wpList_load_row rfl 32 (.tmp 1) rfl w.heap.size rfl 32 c0.toArray (0, 0) _ HB1.out Try.underlying32 rfl HZA.out ?_))
    rw [← HE0.out]
    refine (sto_any s a _ HS1.out).mono ?_
    rintro e w2 ⟨⟨a1, rfl, -, hs1⟩, hb2⟩
    rw [HE0.out]
    obtain ⟨v1, hv1⟩ : ∃ v, v = SV s a1 := ⟨_, rfl⟩
    have HV1 := Lib.hid hv1
    rw [← hv1]
    clear hv1
    have HB2 := Lib.hid ((hb2.block _ (lt_heap HB1.out)).trans HB1.out)
    have HS2 := Lib.hid (HS1.out.on hb2)
    have HW2 := Lib.hid (HW1.out.trans (hb2.mono HW1.out.size))
    clear HB1 HS1 HW1
    go_wp2_with (first | (with_reducible refine wpList_load_row rfl 32 (.tmp 1) rfl w.heap.size rfl 32 c0.toArray (0, 0) _ HB2.out Try.underlying32 rfl HZA.out ?_))
    rw [HV1.out]
    refine (check_any s a1 _ hs1).mono ?_
    rintro e w3 ⟨rfl, hb3⟩
    rw [← HV1.out]
    have HB3 := Lib.hid ((hb3.block _ (lt_heap HB2.out)).trans HB2.out)
    have HS3 := Lib.hid (HS2.out.on hb3)
    have HW3 := Lib.hid (HW2.out.trans (hb3.mono HW2.out.size))
    clear HB2 HS2 HW2 hb2
    obtain ⟨er, her⟩ : ∃ er, er = (chk s).1 := ⟨_, rfl⟩
    obtain ⟨ep, hep⟩ : ∃ ep, ep = (chk s).2 := ⟨_, rfl⟩
    have HER := Lib.hid her
    have HEP := Lib.hid hep
    rw [← her, ← hep]
    clear her hep hb3
    go_wp2_with (first | (with_reducible refine wpList_load_row rfl 32 (.tmp 1) rfl w.heap.size rfl 32 c0.toArray (0, 0) _ HB3.out Try.underlying32 rfl HZA.out ?_))
    rw [← HE0.out]
    refine (rcheck_any s a _ HS3.out).mono ?_
    rintro e w5 ⟨rfl, hb5⟩
    rw [HE0.out, ← HER.out, ← HEP.out]
    have HB5 := Lib.hid ((hb5.block _ (lt_heap HB3.out)).trans HB3.out)
    have HS5 := Lib.hid (HS3.out.on hb5)
    have HW5 := Lib.hid (HW3.out.trans (hb5.mono HW3.out.size))
    clear HB3 HS3 HW3 hb5
    go_wp2_with fail
    refine wp_region_held_drew (S := fun y => y.heap[w.heap.size]? = some (.cells c0.toArray 32 (0, 0))) (by kernel_rfl) (HB5.out) (fun hS0 => ?_)
    obtain ⟨y0, hy0⟩ : ∃ y0, w5.drew = y0 := ⟨_, rfl⟩
    have HU0 := Lib.hid (show Below w5.heap.size w5 y0 by rw [← hy0]; exact (Below.refl w5.heap.size w5).drew)
    have HT0 := Lib.hid (HS5.out.on HU0.out)
    rw [hy0] at hS0 ⊢
    clear hy0
    refine wpAnyH_ready (rs := [0]) (by kernel_rfl) (by simp) ?_
    refine AllReadyH.cons rfl (fun K hK => ?_) AllReadyH.nil
    go_simp
    go_wp2_with (go_at_call 8; refine (awake_any _).mono ?_; rintro e y1 ⟨rfl, hb11⟩)
    have HU1 := Lib.hid (HU0.out.trans (hb11.mono HU0.out.size))
    have HT1 := Lib.hid (HT0.out.on hb11)
    refine hK.out _ _ ((hb11.block _ (lt_heap hS0)).trans hS0) (fun hS1 => ?_)
    clear hK K
    refine wpAnyH_take (i := 1) (v := ?_) rfl (by kernel_rfl) (by kernel_rfl) (by kernel_rfl) (fun _ _ _ h => h) (Or.inl ⟨by kernel_rfl, by (intro wz hSz; go_simp; try with_reducible rfl)⟩) hS1 ?_
    go_simp
    refine wpAnyH_take (i := 2) (v := ?_) rfl (by kernel_rfl) (by kernel_rfl) (by kernel_rfl) (fun _ _ _ h => h) (Or.inl ⟨by kernel_rfl, by (intro wz hSz; go_simp; try with_reducible rfl)⟩) hS1 ?_
    go_simp
    refine wpAnyH_take (i := 3) (v := ?_) rfl (by kernel_rfl) (by kernel_rfl) (by kernel_rfl) (fun _ _ _ h => h) (Or.inl ⟨by kernel_rfl, by (intro wz hSz; go_simp; try with_reducible rfl)⟩) hS1 ?_
    go_simp
    refine wpAnyH_take (i := 4) (v := ?_) rfl (by kernel_rfl) (by kernel_rfl) (by kernel_rfl) (fun _ _ _ h => h) (Or.inl ⟨by kernel_rfl, by (intro wz hSz; go_simp; try with_reducible rfl)⟩) hS1 ?_
    go_simp
    refine wpAnyH_take (i := 5) (v := ?_) rfl (by kernel_rfl) (by kernel_rfl) (by kernel_rfl) (fun _ _ _ h => h) (Or.inl ⟨by kernel_rfl, by (intro wz hSz; go_simp; try with_reducible rfl)⟩) hS1 ?_
    go_simp
    refine wpAnyH_take (i := 6) (v := ?_) rfl (by kernel_rfl) (by kernel_rfl) (by kernel_rfl) (fun _ _ _ h => h) (Or.inl ⟨by kernel_rfl, by (intro wz hSz; go_simp; try with_reducible rfl)⟩) hS1 ?_
    go_simp
    refine wpAnyH_take (i := 7) (v := ?_) rfl (by kernel_rfl) (by kernel_rfl) (by kernel_rfl) (fun _ _ _ h => h) (Or.inl ⟨by kernel_rfl, by (intro wz hSz; go_simp; try with_reducible rfl)⟩) hS1 ?_
    go_simp
    refine wpAnyH_take (i := 8) (v := ?_) rfl (by kernel_rfl) (by kernel_rfl) (by kernel_rfl) (fun _ _ _ h => h) (Or.inl ⟨by kernel_rfl, by (intro wz hSz; go_simp; try with_reducible rfl)⟩) hS1 ?_
    go_simp
    refine wpAnyH_take (i := 9) (v := ?_) rfl (by kernel_rfl) (by kernel_rfl) (by kernel_rfl) (fun _ _ _ h => h) (Or.inl ⟨by kernel_rfl, by (intro wz hSz; go_simp; try with_reducible rfl)⟩) hS1 ?_
    go_simp
    refine wpAnyH_take (i := 10) (v := ?_) rfl (by kernel_rfl) (by kernel_rfl) (by kernel_rfl) (fun _ _ _ h => h) (Or.inl ⟨by kernel_rfl, by (intro wz hSz; go_simp; try with_reducible rfl)⟩) hS1 ?_
    go_simp
    refine wpAnyH_take (i := 11) (v := ?_) rfl (by kernel_rfl) (by kernel_rfl) (by kernel_rfl) (fun _ _ _ h => h) (Or.inl ⟨by kernel_rfl, by (intro wz hSz; go_simp; try with_reducible rfl)⟩) hS1 ?_
    go_simp
    refine wpAnyH_take (i := 12) (v := .agg c0.toArray) rfl (by kernel_rfl) (by kernel_rfl) (by kernel_rfl) (fun _ _ _ h => h) (yieldsIf_load_mid (by kernel_rfl) 32 (.tmp 1) rfl w.heap.size 0 rfl c0 _ HRG.out Try.underlying32 rfl HZL.out) hS1 ?_
    go_simp
    refine wpAnyH_take (i := 15) (v := .agg c0.toArray) rfl (by kernel_rfl) (by kernel_rfl) (by kernel_rfl) (fun _ _ _ h => h) (yieldsIf_load_mid (by kernel_rfl) 32 (.tmp 1) rfl w.heap.size 0 rfl c0 _ HRG.out Try.underlying32 rfl HZL.out) hS1 ?_
    go_simp
    refine wpAnyH_ready (rs := [13]) (by kernel_rfl) (by simp) ?_
    refine AllReadyH.cons rfl (fun K hK => ?_) AllReadyH.nil
    go_simp
    go_wp2_with (go_at_call 10; rw [← HE0.out]; refine (sto_any s a _ HT1.out).mono ?_; rintro e y2 ⟨⟨a2, rfl, -, hs2⟩, hb12⟩)
    rw [HE0.out]
    obtain ⟨v2, hv2⟩ : ∃ v, v = SV s a2 := ⟨_, rfl⟩
    have HV2 := Lib.hid hv2
    rw [← hv2]
    clear hv2
    have HU2 := Lib.hid (HU1.out.trans (hb12.mono HU1.out.size))
    have HT2 := Lib.hid (HT1.out.on hb12)
    refine hK.out _ _ ((hb12.block _ (lt_heap hS1)).trans hS1) (fun hS2 => ?_)
    clear hK K
    refine wpAnyH_ready (rs := [14]) (by kernel_rfl) (by simp) ?_
    refine AllReadyH.cons rfl (fun K hK => ?_) AllReadyH.nil
    go_simp
    go_wp2_with (go_at_call 13; rw [HV2.out]; refine (sfrom_any s a2 _ hs2).mono ?_; rintro e y3 ⟨⟨a3, rfl, -, hs3⟩, hb13⟩)
    rw [← HV2.out]
    obtain ⟨v3, hv3⟩ : ∃ v, v = SV s a3 := ⟨_, rfl⟩
    have HV3 := Lib.hid hv3
    rw [← hv3]
    clear hv3
    have HU3 := Lib.hid (HU2.out.trans (hb13.mono HU2.out.size))
    have HT3 := Lib.hid (HT2.out.on hb13)
    refine hK.out _ _ ((hb13.block _ (lt_heap hS2)).trans hS2) (fun hS3 => ?_)
    clear hK K
    refine wpAnyH_ready (rs := [16]) (by kernel_rfl) (by simp) ?_
    refine AllReadyH.cons rfl (fun K hK => ?_) AllReadyH.nil
    go_simp
    go_wp2_with (go_at_call 12; rw [HV3.out, ← HE0.out]; refine (rsame_any s a3 a _ hs3 HT3.out).mono ?_; rintro e y4 ⟨rfl, hb14⟩)
    rw [← HV3.out, HE0.out]
    have HU4 := Lib.hid (HU3.out.trans (hb14.mono HU3.out.size))
    have HT4 := Lib.hid (HT3.out.on hb14)
    refine hK.out _ _ ((hb14.block _ (lt_heap hS3)).trans hS3) (fun hS4 => ?_)
    clear hK K
    refine wpAnyH_take (i := 17) (v := ?_) rfl (by kernel_rfl) (by kernel_rfl) (by kernel_rfl) (fun _ _ _ h => h) (Or.inl ⟨by kernel_rfl, by (intro wz hSz; go_simp; try with_reducible rfl)⟩) hS4 ?_
    go_simp
    refine wpAnyH_take (i := 18) (v := ?_) rfl (by kernel_rfl) (by kernel_rfl) (by kernel_rfl) (fun _ _ _ h => h) (Or.inl ⟨by kernel_rfl, by (intro wz hSz; go_simp; try with_reducible rfl)⟩) hS4 ?_
    go_simp
    refine wpAnyH_done (by kernel_rfl) ?_ _
    go_wp2
    exact bodyPost_ret (v := .bool true) (by simp [results, Try.results3, go_sem]) rfl ⟨rfl, HW5.out.trans (HU4.out.mono HW5.out.size)⟩

end Go.Proofs.Ytpekhjlgcjhlgaa.Sc

namespace Go.Proofs.Ytpekhjlgcjhlgaa.sceneChecks
open Go.ChangeShapes Go.WideShapes Go.ChangeAt Go.RowKit Go.Proofs.Ytpekhjlgcjhlgaa
open Go.ChangeMaps (open_string shut_string)
set_option linter.unusedVariables false

theorem own : ownKnob Try.prog.godebug = none := by kernel_rfl
theorem laidOut : laidOutB Try.prog = true := by kernel_rfl

set_option maxRecDepth 100000 in
theorem lifted (os : Os) (started : os.Started) (H : Type) (enc : TypeId × Value → H) :
    ReturnsInHanded {} Try.checked os 3 .any (Rows.sceneChecksSpec.pre6 enc Try.prog Try.f3 Rows.sceneChecksRow.domain false) (Rows.sceneChecksSpec.post enc Try.prog Try.f3 false true false false) := by
  refine returnsInHanded_of_change_sized (C := Try.checked) own started (by kernel_rfl) Try.func3
    (ChangeSpec.witness6 (enc := enc) (C := Try.checked) false ⟨#[], #[.agg #[.int .i64 0, .int .i64 0, .int .i64 0, .int .i64 0, .int .i64 0, .int .i64 0, .int .u64 0, .int .i64 0, .int .i64 0, .int .i64 0, .int .i64 0, .int .i64 0, .int .i64 0, .slice none 0 0, .slice none 0 0, .slice none 0 0, .slice none 0 0]], []⟩ 12 (by kernel_rfl) (by kernel_rfl) (by kernel_rfl) (by kernel_rfl)) ?_
  intro W base args ds gs before hval0 hW hcnd hsz _
  have hval : ∀ (j : Nat) t v, Try.f3.params[j]? = some t → args[j]? = some v → Value.okWide Try.prog W .any base t v := hval0
  have hW' := hW
  obtain ⟨p, q, hA0, hV, rfl, hfz, hnd⟩ := hW
  have hA : DataW.TrodAll enc Try.prog W 0 (fun _ => true) true Try.f3.params.toList args.toList ds p := hA0
  rw [Try.params3] at hA hval hsz
  obtain ⟨v0, vs0, d0, ds0, p0, q0, hargs, rfl, rfl, h0, r0⟩ := trodAll_cons hA
  obtain ⟨rfl, rfl, rfl⟩ := trodAll_nil r0
  obtain rfl : args = #[v0] := by cases args; simp_all
  obtain ⟨rfl, rfl⟩ := trodVars_none hV
  have k0 := h0
  have lt0 : ∀ x ∈ p0, x.block < W.heap.size := by obtain ⟨m, hm⟩ := k0; exact DataW.trod_lt m _ _ _ hm
  obtain ⟨s, a, rfl, hs⟩ := Sc.open_scene (hval 0 32 v0 rfl rfl) h0 lt0 (fun n hn => by have := List.all_eq_true.1 hsz n (DataW.weights_mem_each (j := 0) rfl rfl n hn); simpa using this)
  clear hA0 hval0
  refine (Sc.checksW_walk s a W hs).mono fun e W' ⟨he, bel⟩ => ?_
  subst he
  exact ⟨_, rfl, _, _, _, [], _, [], hW', trodAll_mk1 (shut_bool Try.underlying4 _), (trodAll_cons_mk (Below.trod laidOut (by kernel_rfl) (of_decide_eq_true (by kernel_rfl)) k0 bel lt0) trodAll_mk0), rfl, bel.frame _, fun h => by cases h⟩

theorem over : Rows.SceneChecksSaid :=
  OpenClaim.holds_of_wide 3 Try.f3 rfl rfl rfl rfl rfl rfl rfl ⟨rfl, rfl, rfl, rfl, rfl⟩ rfl rfl rfl rfl rfl (by kernel_rfl) Try.func3 (by kernel_rfl)
    (of_decide_eq_true (by kernel_rfl)) (by unfold Func.isWrapper; first | (rw [if_pos (by decide +kernel)]; kernel_rfl) | (rw [if_neg (by decide +kernel)]; exact ⟨rfl, rfl⟩))
    (fun os started H enc _ => lifted os started H enc)

theorem proved : Rows.SceneChecksSaid := over
#print axioms proved
end Go.Proofs.Ytpekhjlgcjhlgaa.sceneChecks
