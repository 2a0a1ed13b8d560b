/- Layer 23: the document's put and find. -/
import Derived.Test.YtjejghfeeonghaaDrm
import Derived.BigQuiet
namespace Go.Proofs.Ytjejghfeeonghaa.Dr
open Go Go.RowKit Go.Maps Go.Proofs.Ytjejghfeeonghaa Go.Proofs.Ytjejghfeeonghaa.Au Go.Proofs.Ytjejghfeeonghaa.Re
set_option linter.unusedVariables false
set_option linter.unusedSimpArgs false

theorem putS_1 {x y : E1} {st : List E1 × Bool} (h1 : x.1 ≤ y.1) (h2 : st.2 = false) (h3 : y.1 = x.1) : putS x st y = (st.1 ++ [x], true) := by simp [putS, h1, h2, h3]
theorem putS_2 {x y : E1} {st : List E1 × Bool} (h1 : x.1 ≤ y.1) (h2 : st.2 = false) (h3 : y.1 ≠ x.1) : putS x st y = (st.1 ++ [x, y], true) := by simp [putS, h1, h2, h3]
theorem putS_3 {x y : E1} {st : List E1 × Bool} (h1 : ¬ (x.1 ≤ y.1 ∧ st.2 = false)) (h3 : y.1 = x.1) : putS x st y = (st.1, st.2) := by
  unfold putS
  simp only
  rw [if_neg h1, if_pos h3]
  cases hs : st.2
  · simp [hs] at h1; simp [h1]
  · simp
theorem putS_4 {x y : E1} {st : List E1 × Bool} (h1 : ¬ (x.1 ≤ y.1 ∧ st.2 = false)) (h3 : y.1 ≠ x.1) : putS x st y = (st.1 ++ [y], st.2) := by
  unfold putS
  simp only
  rw [if_neg h1, if_neg h3]
  cases hs : st.2
  · simp [hs] at h1; simp [h1]
  · simp

theorem drawnB {B : Nat} {a w : World} (h : Below B a w) (n : Nat) : Below B a (w.drewN n) := ⟨h.os, h.tape, h.output, h.size, h.block⟩

theorem infoER {R : Array Value} (h : R.size = 129) : (Try.prog.info? 64).map (·.size) = some R.size := by rw [h]; kernel_rfl
theorem infoEL {R : List Value} (h : R.length = 129) : (Try.prog.info? 64).map (·.size) = some R.length := by rw [h]; kernel_rfl

set_option maxHeartbeats 8000000 in
set_option maxRecDepth 100000 in
theorem put_any (a : Option Addr) (c : Nat) (L : List E1) (x : E1) (w : World) (hv : RL w a L) (hL : ∀ p ∈ L, p.2.length = 128) (hlen : L.length ≤ 10000) (hx : x.2.length = 128) (hup : L.Pairwise fun p q => p.1 < q.1) : Calls Try.prog 32 #[.slice a L.length c, .agg (ent x).toArray] w fun e w' => ∃ v', e = .returned v' ∧ EB w' w.heap.size v' (putM x.1 x.2 L) ∧ Below w.heap.size w w' := by
  obtain ⟨R, hRe⟩ : ∃ R, R = (ent x).toArray := ⟨_, rfl⟩
  have hRs : R.size = 129 := by rw [hRe]; simp [ent_len hx]
  rw [← hRe]
  obtain ⟨n, hn⟩ : ∃ n, n = L.length := ⟨_, rfl⟩
  rw [← hn]
  have HV := Lib.hid hv
  have HL := Lib.hid hL
  have HX := Lib.hid hx
  have HUP := Lib.hid hup
  have HRE := Lib.hid hRe
  have HRS := Lib.hid hRs
  have HI := Lib.hid (infoER hRs)
  have HN := Lib.hid hn
  have hnb : n ≤ 10000 := by omega
  have hr1 := heap_alloc_last w (.cells R 64)
  have hb1 := Ve.below_n1 w (.cells R 64)
  clear hv hL hx hup hRe hRs hlen hn
  go_enter Try.func32, Try.ntmps32
  go_upto_region 1 with fail
  obtain ⟨y1, hy1⟩ : ∃ y, w.alloc (.cells R 64) = y := ⟨_, rfl⟩
  obtain ⟨r, hr⟩ : ∃ r, r = w.heap.size := ⟨_, rfl⟩
  have hrl : r < y1.heap.size := by rw [← hy1]; simp; omega
  have hrw : w.heap.size ≤ r := by omega
  rw [hy1] at hb1 hr1 ⊢
  rw [← hr] at hr1 ⊢
  have HR1 := Lib.hid hr1
  have HB1 := Lib.hid hb1
  clear hy1 hr1 hb1 hr
  go_wp2_with fail
  go_loopw [5, 6, 7] (fun s5 s6 s7 wr => ∃ k : Nat, k ≤ n ∧ s7 = .int .i64 k ∧ s6 = .bool (putK x L k).2 ∧ Hid (EB wr (r + 1) s5 (putK x L k).1) ∧ Hid (wr.heap[r]? = some (.cells R 64 (0, 0))) ∧ Hid (Below w.heap.size w wr) ∧ r < wr.heap.size) (fun _ _ s7 _ => n - (intOf s7).toNat)
  case atStart => exact ⟨0, by omega, rfl, rfl, Lib.hid (World.ownsRow_nil _ _ _ _), HR1, HB1, hrl⟩
  case round =>
    obtain ⟨k, hk, rfl, rfl, HO0, HR0, HB0, hl0⟩ := hrel
    clear HR1 HB1 hrl
    obtain ⟨b, hb⟩ : ∃ b, b = (putK x L k).2 := ⟨_, rfl⟩
    rw [← hb]
    have HKB := Lib.hid hb
    clear hb
    have HX0 := Lib.hid (show wr.cell? ⟨r, 0, none⟩ = some (.int .i64 x.1) by simp [World.cell?, HR0.out, HRE.out, ent])
    by_cases hlt : k < n
    · have hlt' : (k : Int) < (n : Int) := by omega
      have hkL : k < L.length := by rw [← HN.out]; exact hlt
      obtain ⟨y, hyk⟩ : ∃ y, L[k]? = some y := ⟨_, List.getElem?_eq_getElem hkL⟩
      have hy128 := HL.out y (List.mem_of_getElem? hyk)
      obtain ⟨g, ha, hg, hrg⟩ := (show ∃ g, a = some ⟨g, 0, none⟩ ∧ g < w.heap.size ∧ w.rangeAt g (k * 129) (ent y) from by
        rcases HV.out with e | ⟨g, h1, h2, h3⟩
        · rw [e] at hkL; simp at hkL
        · exact ⟨g, h1, h2, h3 k y hyk⟩)
      subst ha
      obtain ⟨yl, HYL⟩ : ∃ l, Hid (l = ent y) := ⟨_, Lib.hid rfl⟩
      have hyl : yl.length = 129 := by rw [HYL.out]; exact ent_len hy128
      have HIY := Lib.hid (infoEL hyl)
      have HST := Lib.hid (putK_succ x L k y hyk)
      have HPL := Lib.hid (putK_len x L k (Nat.le_of_lt hkL))
      have hrange : ∀ W : World, Below w.heap.size w W → W.rangeAt g (k * 129) yl := fun W hW j u hu => (hW.cell (p := ⟨g, k * 129 + j, none⟩) hg).trans (hrg j u (by rw [← HYL.out]; exact hu))
      have HRG := Lib.hid hrange
      have ky : wr.cell? ⟨g, k * 129, none⟩ = some (.int .i64 y.1) := by
        have e := hrange wr HB0.out 0 (.int .i64 y.1) (by rw [HYL.out]; rfl)
        simpa using e
      have kx := HX0.out
      have HY1 := Lib.hid hy128
      have HYK := Lib.hid hyk
      clear hrg hyk hrange hy128 hyl hkL HX0
      obtain ⟨yi, hyi⟩ : ∃ i, i = y.1 := ⟨_, rfl⟩
      obtain ⟨xi, hxi⟩ : ∃ i, i = x.1 := ⟨_, rfl⟩
      rw [← hyi] at ky
      rw [← hxi] at kx
      have HYI := Lib.hid hyi
      have HXI := Lib.hid hxi
      clear hyi hxi
      have HYS := Lib.hid (show yl.toArray.size = 129 by simp only [List.size_toArray]; rw [HYL.out]; exact ent_len HY1.out)
      by_cases h1 : xi ≤ yi ∧ b = false
      · obtain ⟨h1a, rfl⟩ := h1
        have d1 : decide (xi ≤ yi) = true := by simp [h1a]
        go_wp2_with fail
        go_quiet (fail)
        obtain ⟨w1_, hw1⟩ : ∃ y, wr.drewN nq = y := ⟨_, rfl⟩
        have HO1 := Lib.hid (show EB w1_ (r + 1) u5 (putK x L k).1 by rw [← hw1]; exact HO0.out)
        have HR1 := Lib.hid (show w1_.heap[r]? = some (.cells R 64 (0, 0)) by rw [← hw1]; exact HR0.out)
        have HB1 := Lib.hid (show Below w.heap.size w w1_ by rw [← hw1]; exact drawnB HB0.out _)
        have hl1 : r < w1_.heap.size := by rw [← hw1]; exact hl0
        rw [hw1]
        clear hw1 kx ky HO0 HR0 HB0 hl0
        have hz := HB1.out.size
        have HAL := Lib.hid (heap_alloc_last w1_ (.cells R 64))
        have hbn := Ve.below_n1 w1_ (.cells R 64)
        have HOA := Lib.hid (EB.on HO1.out (w' := w1_.alloc (.cells R 64)) (fun q hq _ => hbn.block q hq))
        have HHR := Lib.hid ((hbn.block r hl1).trans HR1.out)
        have HHB := Lib.hid (HB1.out.trans (hbn.mono hz))
        have hsz := hbn.size
        clear hbn
        go_wp2_with (first | (with_reducible refine wpList_load_row rfl 64 (.tmp 3) rfl r rfl 64 R (0, 0) _ HR1.out Try.underlying64 rfl HI.out ?_) | (refine lit_ent rfl (.tmp 27) rfl R HRS.out rfl ?_) | (at_builtin; refine app_ent rfl (.tmp 26) (.tmp 28) rfl (r + 1) u5 (putK x L k).1 rfl HOA.out w1_.heap.size x HX.out rfl (by rw [← HRE.out]; exact HAL.out) (by have := HPL.out; simp; omega) (by omega) ?_))
        intro v2 w2_ hO hb hs
        have HO2 := Lib.hid hO
        have hl2 : r < w2_.heap.size := by omega
        have HR2 := Lib.hid ((hb.block r (by omega)).trans HHR.out)
        have HB2 := Lib.hid (HHB.out.trans (hb.mono (by omega)))
        clear hO hb hs hsz hz HAL HOA HHR HHB HO1 HR1 HB1 hl1
        have ky : w2_.cell? ⟨g, k * 129, none⟩ = some (.int .i64 yi) := by
          have e := HRG.out w2_ HB2.out 0 (.int .i64 y.1) (by rw [HYL.out]; rfl)
          rw [HYI.out]; simpa using e
        have kx : w2_.cell? ⟨r, 0, none⟩ = some (.int .i64 xi) := by rw [HXI.out]; simp [World.cell?, HR2.out, HRE.out, ent]
        by_cases h3 : yi = xi
        · have d3 : (yi != xi) = false := by simp [h3]
          have HPS := Lib.hid (HST.out.trans (putS_1 (by rw [← HYI.out, ← HXI.out]; exact h1a) HKB.out.symm (by rw [← HYI.out, ← HXI.out]; exact h3)))
          clear h3
          go_wp2_with fail
          go_quiet (fail)
          obtain ⟨w3_, hw3⟩ : ∃ y, w2_.drewN nq = y := ⟨_, rfl⟩
          have HO3 := Lib.hid (show EB w3_ (r + 1) v2 ((putK x L k).1 ++ [x]) by rw [← hw3]; exact HO2.out)
          have HR3 := Lib.hid (show w3_.heap[r]? = some (.cells R 64 (0, 0)) by rw [← hw3]; exact HR2.out)
          have HB3 := Lib.hid (show Below w.heap.size w w3_ by rw [← hw3]; exact drawnB HB2.out _)
          have hl3 : r < w3_.heap.size := by rw [← hw3]; exact hl2
          rw [hw3]
          clear hw3 kx ky HO2 HR2 HB2 hl2
          go_wp2_with fail
          go_roundw
          case rel => exact ⟨k + 1, by omega, by go_num, by rw [HPS.out], Lib.hid (by rw [HPS.out]; exact HO3.out), HR3, HB3, hl3⟩
          case measure => simp [intOf]; omega
        · have d3 : (yi != xi) = true := by simp [h3]
          have HPS := Lib.hid (HST.out.trans (putS_2 (by rw [← HYI.out, ← HXI.out]; exact h1a) HKB.out.symm (by rw [← HYI.out, ← HXI.out]; exact h3)))
          clear h3
          go_wp2_with fail
          go_quiet (fail)
          obtain ⟨w3_, hw3⟩ : ∃ y, w2_.drewN nq = y := ⟨_, rfl⟩
          have HO3 := Lib.hid (show EB w3_ (r + 1) v2 ((putK x L k).1 ++ [x]) by rw [← hw3]; exact HO2.out)
          have HR3 := Lib.hid (show w3_.heap[r]? = some (.cells R 64 (0, 0)) by rw [← hw3]; exact HR2.out)
          have HB3 := Lib.hid (show Below w.heap.size w w3_ by rw [← hw3]; exact drawnB HB2.out _)
          have hl3 : r < w3_.heap.size := by rw [← hw3]; exact hl2
          rw [hw3]
          clear hw3 kx ky HO2 HR2 HB2 hl2
          have hz := HB3.out.size
          have HAL := Lib.hid (heap_alloc_last w3_ (.cells yl.toArray 64))
          have hbn := Ve.below_n1 w3_ (.cells yl.toArray 64)
          have HOA := Lib.hid (EB.on HO3.out (w' := w3_.alloc (.cells yl.toArray 64)) (fun q hq _ => hbn.block q hq))
          have HHR := Lib.hid ((hbn.block r hl3).trans HR3.out)
          have HHB := Lib.hid (HB3.out.trans (hbn.mono hz))
          have hsz := hbn.size
          clear hbn
          go_wp2_with (first | (with_reducible refine wpList_load_mid rfl 64 (.tmp 41) rfl g (k * 129) rfl yl _ (HRG.out _ HB3.out) Try.underlying64 rfl HIY.out ?_) | (refine lit_ent rfl (.tmp 42) rfl yl.toArray HYS.out rfl ?_) | (at_builtin; refine app_ent rfl (.tmp 38) (.tmp 43) rfl (r + 1) v2 ((putK x L k).1 ++ [x]) rfl HOA.out w3_.heap.size y HY1.out rfl (by rw [← HYL.out]; exact HAL.out) (by have := HPL.out; simp; omega) (by omega) ?_))
          intro v4 w4_ hO hb hs
          have HO4 := Lib.hid hO
          have hl4 : r < w4_.heap.size := by omega
          have HR4 := Lib.hid ((hb.block r (by omega)).trans HHR.out)
          have HB4 := Lib.hid (HHB.out.trans (hb.mono (by omega)))
          clear hO hb hs hsz hz HAL HOA HHR HHB HO3 HR3 HB3 hl3
          go_wp2_with fail
          go_roundw
          case rel => exact ⟨k + 1, by omega, by go_num, by rw [HPS.out], Lib.hid (by rw [HPS.out]; exact HO4.out), HR4, HB4, hl4⟩
          case measure => simp [intOf]; omega
      · have HN1 := Lib.hid (show ¬ (x.1 ≤ y.1 ∧ (putK x L k).2 = false) by rw [← HYI.out, ← HXI.out, ← HKB.out]; exact h1)
        by_cases h4 : xi ≤ yi
        · have d1 : decide (xi ≤ yi) = true := by simp [h4]
          have hbt : b = true := by
            cases b
            · exact absurd ⟨h4, rfl⟩ h1
            · rfl
          subst hbt
          clear h1 h4
          go_wp2_with fail
          go_quiet (fail)
          obtain ⟨w1_, hw1⟩ : ∃ y, wr.drewN nq = y := ⟨_, rfl⟩
          have HO1 := Lib.hid (show EB w1_ (r + 1) u5 (putK x L k).1 by rw [← hw1]; exact HO0.out)
          have HR1 := Lib.hid (show w1_.heap[r]? = some (.cells R 64 (0, 0)) by rw [← hw1]; exact HR0.out)
          have HB1 := Lib.hid (show Below w.heap.size w w1_ by rw [← hw1]; exact drawnB HB0.out _)
          have hl1 : r < w1_.heap.size := by rw [← hw1]; exact hl0
          rw [hw1]
          clear hw1 kx ky HO0 HR0 HB0 hl0
          have ky : w1_.cell? ⟨g, k * 129, none⟩ = some (.int .i64 yi) := by
            have e := HRG.out w1_ HB1.out 0 (.int .i64 y.1) (by rw [HYL.out]; rfl)
            rw [HYI.out]; simpa using e
          have kx : w1_.cell? ⟨r, 0, none⟩ = some (.int .i64 xi) := by rw [HXI.out]; simp [World.cell?, HR1.out, HRE.out, ent]
          by_cases h3 : yi = xi
          · have d3 : (yi != xi) = false := by simp [h3]
            have HPS := Lib.hid (HST.out.trans (putS_3 HN1.out (by rw [← HYI.out, ← HXI.out]; exact h3)))
            clear h3
            go_wp2_with fail
            go_quiet (fail)
            obtain ⟨w2_, hw2⟩ : ∃ y, w1_.drewN nq = y := ⟨_, rfl⟩
            have HO2 := Lib.hid (show EB w2_ (r + 1) u5 (putK x L k).1 by rw [← hw2]; exact HO1.out)
            have HR2 := Lib.hid (show w2_.heap[r]? = some (.cells R 64 (0, 0)) by rw [← hw2]; exact HR1.out)
            have HB2 := Lib.hid (show Below w.heap.size w w2_ by rw [← hw2]; exact drawnB HB1.out _)
            have hl2 : r < w2_.heap.size := by rw [← hw2]; exact hl1
            rw [hw2]
            clear hw2 kx ky HO1 HR1 HB1 hl1
            go_wp2_with fail
            go_roundw
            case rel => exact ⟨k + 1, by omega, by go_num, by rw [HPS.out]; exact congrArg _ HKB.out, Lib.hid (by rw [HPS.out]; exact HO2.out), HR2, HB2, hl2⟩
            case measure => simp [intOf]; omega
          · have d3 : (yi != xi) = true := by simp [h3]
            have HPS := Lib.hid (HST.out.trans (putS_4 HN1.out (by rw [← HYI.out, ← HXI.out]; exact h3)))
            clear h3
            go_wp2_with fail
            go_quiet (fail)
            obtain ⟨w2_, hw2⟩ : ∃ y, w1_.drewN nq = y := ⟨_, rfl⟩
            have HO2 := Lib.hid (show EB w2_ (r + 1) u5 (putK x L k).1 by rw [← hw2]; exact HO1.out)
            have HR2 := Lib.hid (show w2_.heap[r]? = some (.cells R 64 (0, 0)) by rw [← hw2]; exact HR1.out)
            have HB2 := Lib.hid (show Below w.heap.size w w2_ by rw [← hw2]; exact drawnB HB1.out _)
            have hl2 : r < w2_.heap.size := by rw [← hw2]; exact hl1
            rw [hw2]
            clear hw2 kx ky HO1 HR1 HB1 hl1
            have hz := HB2.out.size
            have HAL := Lib.hid (heap_alloc_last w2_ (.cells yl.toArray 64))
            have hbn := Ve.below_n1 w2_ (.cells yl.toArray 64)
            have HOA := Lib.hid (EB.on HO2.out (w' := w2_.alloc (.cells yl.toArray 64)) (fun q hq _ => hbn.block q hq))
            have HHR := Lib.hid ((hbn.block r hl2).trans HR2.out)
            have HHB := Lib.hid (HB2.out.trans (hbn.mono hz))
            have hsz := hbn.size
            clear hbn
            go_wp2_with (first | (with_reducible refine wpList_load_mid rfl 64 (.tmp 41) rfl g (k * 129) rfl yl _ (HRG.out _ HB2.out) Try.underlying64 rfl HIY.out ?_) | (refine lit_ent rfl (.tmp 42) rfl yl.toArray HYS.out rfl ?_) | (at_builtin; refine app_ent rfl (.tmp 38) (.tmp 43) rfl (r + 1) u5 (putK x L k).1 rfl HOA.out w2_.heap.size y HY1.out rfl (by rw [← HYL.out]; exact HAL.out) (by have := HPL.out; simp; omega) (by omega) ?_))
            intro v3 w3_ hO hb hs
            have HO3 := Lib.hid hO
            have hl3 : r < w3_.heap.size := by omega
            have HR3 := Lib.hid ((hb.block r (by omega)).trans HHR.out)
            have HB3 := Lib.hid (HHB.out.trans (hb.mono (by omega)))
            clear hO hb hs hsz hz HAL HOA HHR HHB HO2 HR2 HB2 hl2
            go_wp2_with fail
            go_roundw
            case rel => exact ⟨k + 1, by omega, by go_num, by rw [HPS.out]; exact congrArg _ HKB.out, Lib.hid (by rw [HPS.out]; exact HO3.out), HR3, HB3, hl3⟩
            case measure => simp [intOf]; omega
        · have d1 : decide (xi ≤ yi) = false := by simp; omega
          clear h1 h4
          go_wp2_with fail
          go_quiet (fail)
          obtain ⟨w1_, hw1⟩ : ∃ y, wr.drewN nq = y := ⟨_, rfl⟩
          have HO1 := Lib.hid (show EB w1_ (r + 1) u5 (putK x L k).1 by rw [← hw1]; exact HO0.out)
          have HR1 := Lib.hid (show w1_.heap[r]? = some (.cells R 64 (0, 0)) by rw [← hw1]; exact HR0.out)
          have HB1 := Lib.hid (show Below w.heap.size w w1_ by rw [← hw1]; exact drawnB HB0.out _)
          have hl1 : r < w1_.heap.size := by rw [← hw1]; exact hl0
          rw [hw1]
          clear hw1 kx ky HO0 HR0 HB0 hl0
          have ky : w1_.cell? ⟨g, k * 129, none⟩ = some (.int .i64 yi) := by
            have e := HRG.out w1_ HB1.out 0 (.int .i64 y.1) (by rw [HYL.out]; rfl)
            rw [HYI.out]; simpa using e
          have kx : w1_.cell? ⟨r, 0, none⟩ = some (.int .i64 xi) := by rw [HXI.out]; simp [World.cell?, HR1.out, HRE.out, ent]
          by_cases h3 : yi = xi
          · have d3 : (yi != xi) = false := by simp [h3]
            have HPS := Lib.hid (HST.out.trans (putS_3 HN1.out (by rw [← HYI.out, ← HXI.out]; exact h3)))
            clear h3
            go_wp2_with fail
            go_quiet (fail)
            obtain ⟨w2_, hw2⟩ : ∃ y, w1_.drewN nq = y := ⟨_, rfl⟩
            have HO2 := Lib.hid (show EB w2_ (r + 1) u5 (putK x L k).1 by rw [← hw2]; exact HO1.out)
            have HR2 := Lib.hid (show w2_.heap[r]? = some (.cells R 64 (0, 0)) by rw [← hw2]; exact HR1.out)
            have HB2 := Lib.hid (show Below w.heap.size w w2_ by rw [← hw2]; exact drawnB HB1.out _)
            have hl2 : r < w2_.heap.size := by rw [← hw2]; exact hl1
            rw [hw2]
            clear hw2 kx ky HO1 HR1 HB1 hl1
            go_wp2_with fail
            go_roundw
            case rel => exact ⟨k + 1, by omega, by go_num, by rw [HPS.out]; exact congrArg _ HKB.out, Lib.hid (by rw [HPS.out]; exact HO2.out), HR2, HB2, hl2⟩
            case measure => simp [intOf]; omega
          · have d3 : (yi != xi) = true := by simp [h3]
            have HPS := Lib.hid (HST.out.trans (putS_4 HN1.out (by rw [← HYI.out, ← HXI.out]; exact h3)))
            clear h3
            go_wp2_with fail
            go_quiet (fail)
            obtain ⟨w2_, hw2⟩ : ∃ y, w1_.drewN nq = y := ⟨_, rfl⟩
            have HO2 := Lib.hid (show EB w2_ (r + 1) u5 (putK x L k).1 by rw [← hw2]; exact HO1.out)
            have HR2 := Lib.hid (show w2_.heap[r]? = some (.cells R 64 (0, 0)) by rw [← hw2]; exact HR1.out)
            have HB2 := Lib.hid (show Below w.heap.size w w2_ by rw [← hw2]; exact drawnB HB1.out _)
            have hl2 : r < w2_.heap.size := by rw [← hw2]; exact hl1
            rw [hw2]
            clear hw2 kx ky HO1 HR1 HB1 hl1
            have hz := HB2.out.size
            have HAL := Lib.hid (heap_alloc_last w2_ (.cells yl.toArray 64))
            have hbn := Ve.below_n1 w2_ (.cells yl.toArray 64)
            have HOA := Lib.hid (EB.on HO2.out (w' := w2_.alloc (.cells yl.toArray 64)) (fun q hq _ => hbn.block q hq))
            have HHR := Lib.hid ((hbn.block r hl2).trans HR2.out)
            have HHB := Lib.hid (HB2.out.trans (hbn.mono hz))
            have hsz := hbn.size
            clear hbn
            go_wp2_with (first | (with_reducible refine wpList_load_mid rfl 64 (.tmp 41) rfl g (k * 129) rfl yl _ (HRG.out _ HB2.out) Try.underlying64 rfl HIY.out ?_) | (refine lit_ent rfl (.tmp 42) rfl yl.toArray HYS.out rfl ?_) | (at_builtin; refine app_ent rfl (.tmp 38) (.tmp 43) rfl (r + 1) u5 (putK x L k).1 rfl HOA.out w2_.heap.size y HY1.out rfl (by rw [← HYL.out]; exact HAL.out) (by have := HPL.out; simp; omega) (by omega) ?_))
            intro v3 w3_ hO hb hs
            have HO3 := Lib.hid hO
            have hl3 : r < w3_.heap.size := by omega
            have HR3 := Lib.hid ((hb.block r (by omega)).trans HHR.out)
            have HB3 := Lib.hid (HHB.out.trans (hb.mono (by omega)))
            clear hO hb hs hsz hz HAL HOA HHR HHB HO2 HR2 HB2 hl2
            go_wp2_with fail
            go_roundw
            case rel => exact ⟨k + 1, by omega, by go_num, by rw [HPS.out]; exact congrArg _ HKB.out, Lib.hid (by rw [HPS.out]; exact HO3.out), HR3, HB3, hl3⟩
            case measure => simp [intOf]; omega
    · have hge : ¬ (k : Int) < (n : Int) := by omega
      have hkn : k = L.length := by have := HN.out; omega
      have HKN := Lib.hid hkn
      clear hkn HX0
      have HEND := Lib.hid (show (if b then (putK x L k).1 else (putK x L k).1 ++ [x]) = putM x.1 x.2 L by rw [HKB.out]; have e := put_end x L HUP.out; rw [← HKN.out] at e; exact e)
      have HPL := Lib.hid (putK_len x L k (by rw [← HKN.out]; exact Nat.le_refl _))
      cases b with
      | true =>
        go_wp2_with fail
        go_ret
        refine ⟨_, rfl, ?_, HB0.out⟩
        rw [← HEND.out]
        exact HO0.out.mono (by omega)
      | false =>
        have hz := HB0.out.size
        have HAL := Lib.hid (heap_alloc_last wr (.cells R 64))
        have hbn := Ve.below_n1 wr (.cells R 64)
        have HOA := Lib.hid (EB.on HO0.out (w' := wr.alloc (.cells R 64)) (fun q hq _ => hbn.block q hq))
        have HHR := Lib.hid ((hbn.block r hl0).trans HR0.out)
        have HHB := Lib.hid (HB0.out.trans (hbn.mono hz))
        have hsz := hbn.size
        clear hbn
        go_wp2_with (first | (with_reducible refine wpList_load_row rfl 64 (.tmp 3) rfl r rfl 64 R (0, 0) _ HR0.out Try.underlying64 rfl HI.out ?_) | (refine lit_ent rfl (.tmp 48) rfl R HRS.out rfl ?_) | (at_builtin; refine app_ent rfl (.tmp 47) (.tmp 49) rfl (r + 1) u5 (putK x L k).1 rfl HOA.out wr.heap.size x HX.out rfl (by rw [← HRE.out]; exact HAL.out) (by have := HPL.out; simp; omega) (by omega) ?_))
        intro v1 w1_ hO hb hs
        have HO1 := Lib.hid hO
        have hl1 : r < w1_.heap.size := by omega
        have HR1 := Lib.hid ((hb.block r (by omega)).trans HHR.out)
        have HB1 := Lib.hid (HHB.out.trans (hb.mono (by omega)))
        clear hO hb hs hsz hz HAL HOA HHR HHB HO0 HR0 HB0 hl0
        go_wp2_with fail
        go_ret
        refine ⟨_, rfl, ?_, HB1.out⟩
        rw [← HEND.out]
        exact HO1.out.mono (by omega)

end Go.Proofs.Ytjejghfeeonghaa.Dr
