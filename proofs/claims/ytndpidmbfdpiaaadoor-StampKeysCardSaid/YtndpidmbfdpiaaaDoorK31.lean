/- Layer 26 (stamp): the program's Works. -/
import Derived.Test.YtndpidmbfdpiaaaDoorK30
namespace Go.Proofs.YtndpidmbfdpiaaaDoor.St
open Go Go.RowKit Go.Proofs.YtndpidmbfdpiaaaDoor Go.Proofs.YtndpidmbfdpiaaaDoor.Au Go.Proofs.YtndpidmbfdpiaaaDoor.Re Go.Proofs.YtndpidmbfdpiaaaDoor.Se Go.Proofs.YtndpidmbfdpiaaaDoor.Pn
set_option linter.unusedVariables false
set_option linter.unusedSimpArgs false

abbrev R35 (k f : Int) (nv : Value) : Array Value := #[.int .i64 k, .int .i64 f, .int .u8 0, .int .u8 0, .int .u8 0, .int .u8 0, .int .u8 0, .int .u8 0, .int .u8 0, .int .u8 0, .int .u8 0, .int .u8 0, .int .u8 0, .int .u8 0, .int .u8 0, .int .u8 0, .int .u8 0, .int .u8 0, .int .u8 0, .int .u8 0, .int .u8 0, .int .u8 0, .int .u8 0, .int .u8 0, .int .u8 0, .int .u8 0, .int .u8 0, .int .u8 0, .int .u8 0, .int .u8 0, .int .u8 0, .int .u8 0, .int .u8 0, .int .u8 0, nv]
theorem r35_wc (k f : Int) (nv : Value) : R35 k f nv = (wc k f (List.replicate 32 0) nv).toArray := rfl
theorem r35_put (k f : Int) (nv : Value) (K : List UInt8) (h : K.length = 32) : ((R35 k f nv).toList.take 2 ++ vals K ++ (R35 k f nv).toList.drop (2 + (vals K).length)).toArray = (wc k f K nv).toArray := by
  rw [vals_length, h]
  rfl

theorem r35_info (k f : Int) (nv : Value) : (Tryd.prog.info? 49).map (·.size) = some (R35 k f nv).size := by rw [show (R35 k f nv).size = 35 from rfl]; kernel_rfl
theorem wc_one {k f : Int} {K : List UInt8} {nv : Value} (h : nv.oneCell' = true) : ∀ u ∈ wc k f K nv, u.oneCell' = true := fun u hu => by
  unfold wc at hu
  rcases List.mem_cons.1 hu with rfl | hu
  · rfl
  · rcases List.mem_cons.1 hu with rfl | hu
    · rfl
    · rcases List.mem_append.1 hu with hu | hu
      · exact vals_one _ u hu
      · rw [List.mem_singleton] at hu; subst hu; exact h
theorem r35_one (k f : Int) (nv : Value) (h : nv.oneCell' = true) : (R35 k f nv).all (·.oneCell') = true := by
  rw [r35_wc]
  exact all_oneCell_toArray (wc_one h)

/-- how a list of works lies while it grows -/
structure WAt (y0 w : World) (job : List UInt8) (a : Option Addr) (N c : Nat) (vs : List Value) : Prop where
  len : vs.length = N
  own : w.ownsRow y0.heap.size 49 35 (.slice a N c) N (W (klist job N) vs N)
  need : ∀ m, m < N → Ro w (vs.getD m undef) (needM m) ∧ (needM m = [] → vs.getD m undef = .slice none 0 0) ∧ ∀ b off n' c', vs.getD m undef = .slice (some ⟨b, off, none⟩) n' c' → b < w.heap.size ∧ ∀ g o, a = some ⟨g, o, none⟩ → b ≠ g
  below : Below y0.heap.size y0 w
theorem WAt.on {y0 w w' : World} {job : List UInt8} {a : Option Addr} {N c : Nat} {vs : List Value} (h : WAt y0 w job a N c vs) (hb : Below w.heap.size w w') : WAt y0 w' job a N c vs :=
  ⟨h.len, Ls.own_below h.own hb, fun m hm => ⟨(h.need m hm).1.on hb, (h.need m hm).2.1, fun b off n' c' e => ⟨Nat.lt_of_lt_of_le ((h.need m hm).2.2 b off n' c' e).1 hb.size, ((h.need m hm).2.2 b off n' c' e).2⟩⟩, h.below.trans (hb.mono h.below.size)⟩

theorem Ro.keep {w w' : World} {v : Value} {l : List Int} (h : Ro w v l) (hs : w.heap.size ≤ w'.heap.size) (hb : ∀ b off n c, v = .slice (some ⟨b, off, none⟩) n c → b < w.heap.size → w'.heap[b]? = w.heap[b]?) : Ro w' v l := by
  obtain ⟨a, n, c, hv, hn, hm, h⟩ := h
  refine ⟨a, n, c, hv, hn, hm, ?_⟩
  rcases h with h | ⟨b, off, ha, hlt, hc⟩
  · exact .inl h
  · refine .inr ⟨b, off, ha, Nat.lt_of_lt_of_le hlt hs, fun j hj => ?_⟩
    rw [World.cell?_of_block (w := w) (hb b off n c (by rw [hv, ha]) hlt)]
    exact hc j hj
/-- one more work -/
theorem WAt.add {y0 y8 w2 : World} {job : List UInt8} {a : Option Addr} {N c : Nat} {vs : List Value} {g cap : Nat} {K : List UInt8} {nv : Value} (h : WAt y0 y8 job a N c vs) (hK : K = keyB ((N % 4 : Nat) : Int) ((N / 4 : Nat) : Int) (ofsL job (klist job N) (needM N)))
    (hn : Ro y8 nv (needM N)) (hnil : needM N = [] → nv = .slice none 0 0) (hnb : ∀ b off n' c', nv = .slice (some ⟨b, off, none⟩) n' c' → b < y8.heap.size ∧ ∀ g o, a = some ⟨g, o, none⟩ → b ≠ g)
    (ho : w2.ownsRow y0.heap.size 49 35 (.slice (some ⟨g, 0, none⟩) (N + 1) cap) (N + 1) (W (klist job N) vs N ++ wc ((N % 4 : Nat) : Int) ((N / 4 : Nat) : Int) K nv)) (hg : y8.grownBy w2 (Value.slice a N c).ownBlock) (hgg : (Value.slice a N c).ownBlock = some g ∨ g = y8.heap.size) :
    WAt y0 w2 job (some ⟨g, 0, none⟩) (N + 1) cap (vs ++ [nv]) := by
  have hkl := klist_len job N
  have hvl := h.len
  have e1 : klist job (N + 1) = klist job N ++ [K] := by rw [hK]; rfl
  have e2 : ∀ m, m < N → (vs ++ [nv]).getD m undef = vs.getD m undef := fun m hm => by simp [List.getD, List.getElem?_append_left (show m < vs.length by omega)]
  have e3 : (vs ++ [nv]).getD N undef = nv := by simp [List.getD, List.getElem?_append_right (show vs.length ≤ N by omega), hvl]
  have e4 : (klist job N ++ [K]).getD N [] = K := by simp [List.getD, List.getElem?_append_right (show (klist job N).length ≤ N by omega), hkl]
  have blk : ∀ b, b < y8.heap.size → (∀ q o, a = some ⟨q, o, none⟩ → b ≠ q) → w2.heap[b]? = y8.heap[b]? := by
    intro b hb hq
    refine hg.block b hb fun e => ?_
    cases a with
    | none => cases e
    | some ad =>
      obtain ⟨qb, qo, qs⟩ := ad
      have h1 : b = qb := by simpa [Value.ownBlock] using e
      rcases h.own.2 with ⟨hh, _⟩ | ⟨q, _, _, hh, _⟩
      · cases hh
      · cases hh
        exact hq _ _ rfl h1
  have hnew : ∀ b, b < y8.heap.size → (∀ q o, a = some ⟨q, o, none⟩ → b ≠ q) → ∀ q o, some (⟨g, 0, none⟩ : Addr) = some ⟨q, o, none⟩ → b ≠ q := by
    intro b hb hq q o e
    cases e
    rcases hgg with hh | hh
    · cases a with
      | none => cases hh
      | some ad =>
        obtain ⟨qb, qo, qs⟩ := ad
        have h1 : qb = g := by simpa [Value.ownBlock] using hh
        rcases h.own.2 with ⟨hh2, _⟩ | ⟨q2, _, _, hh2, _⟩
        · cases hh2
        · cases hh2
          rw [← h1]
          exact hq _ _ rfl
    · omega
  refine ⟨by rw [List.length_append, hvl]; rfl, ?_, fun m hm => ?_, ?_⟩
  · rw [e1, W_succ, W_more N (by omega) (by omega), e3, e4]
    exact ho
  · by_cases hmN : m = N
    · subst hmN
      rw [e3]
      refine ⟨Ro.keep hn hg.size fun b off n' c' e hb => blk b hb (hnb b off n' c' e).2, hnil, fun b off n' c' e => ⟨Nat.lt_of_lt_of_le (hnb b off n' c' e).1 hg.size, hnew b (hnb b off n' c' e).1 (hnb b off n' c' e).2⟩⟩
    · have hm' : m < N := by omega
      rw [e2 m hm']
      have hh := h.need m hm'
      exact ⟨Ro.keep hh.1 hg.size fun b off n' c' e hb => blk b hb (hh.2.2 b off n' c' e).2, hh.2.1, fun b off n' c' e => ⟨Nat.lt_of_lt_of_le (hh.2.2 b off n' c' e).1 hg.size, hnew b (hh.2.2 b off n' c' e).1 (hh.2.2 b off n' c' e).2⟩⟩
  · exact h.below.grown hg h.below.size (fun q hq => by
      cases a with
      | none => cases hq
      | some ad =>
        obtain ⟨qb, qo, qs⟩ := ad
        have h1 : qb = q := by simpa [Value.ownBlock] using hq
        rcases h.own.2 with ⟨hh, _⟩ | ⟨q2, _, _, hh, hb, _⟩
        · cases hh
        · cases hh
          omega)

/-- how many frames -/
def framesN (F : Int) : Nat := (min F 32).toNat
theorem framesN_le (F : Int) : framesN F ≤ 32 := by unfold framesN; omega

set_option maxHeartbeats 16000000 in
set_option maxRecDepth 100000 in
theorem works_any (job : List UInt8) (hj : job.length = 32) (F : Int) (w : World) (hT : Tabs w) :
    Calls Tryd.prog 14 #[.agg (vals job).toArray, .int .i64 F] w fun e w' => (∃ a c vs, e = .returned (.slice a (4 * framesN F) c) ∧ ∃ y0, Below w.heap.size w y0 ∧ WAt y0 w' job a (4 * framesN F) c vs) := by
  obtain ⟨n, hn⟩ : ∃ n, n = framesN F := ⟨_, rfl⟩
  rw [← hn]
  have hn32 : n ≤ 32 := by rw [hn]; exact framesN_le F
  obtain ⟨M, hM⟩ : ∃ M : Int, M = min F 32 := ⟨_, rfl⟩
  have hMn : ∀ f : Nat, (f : Int) < M ↔ f < n := fun f => by rw [hM, hn]; unfold framesN; omega
  have HMN := Lib.hid hMn
  have HMF := Lib.hid hM
  have HT := Lib.hid hT
  have HJ := Lib.hid hj
  obtain ⟨J, hJ⟩ : ∃ J, J = (vals job).toArray := ⟨_, rfl⟩
  have hJs : J.size = 32 := by rw [hJ]; simp [vals_length, hj]
  rw [← hJ]
  have HJJ := Lib.hid hJ
  have hr0 := heap_alloc_last w (.cells J 33)
  have hb0 := Ve.below_n1 w (.cells J 33)
  obtain ⟨y0, hy0⟩ : ∃ y, w.alloc (.cells J 33) = y := ⟨_, rfl⟩
  obtain ⟨P, hP⟩ : ∃ P, P = w.heap.size := ⟨_, rfl⟩
  rw [hy0] at hr0 hb0
  rw [← hP] at hr0
  have HPW := Lib.hid hP
  have HR0 := Lib.hid hr0
  have HB0 := Lib.hid hb0
  have HY0 := Lib.hid hy0
  have HSJ := Lib.hid (show (Tryd.prog.info? 33).map (·.size) = some J.size from info32 hJs)
  clear hr0 hb0 hy0 hP hJ hn hM hMn hT hj hJs
  obtain ⟨i0, hi, hz0, hz1, hz2⟩ := info_parts infoW
  go_enter Tryd.func14, Tryd.ntmps14
  go_upto_region 1 with fail
  rw [HY0.out, ← HPW.out]
  go_upto_region 3 with fail
  rw [← HMF.out]
  go_loopw [5, 11] (fun lv v wr => ∃ (f : Nat) (la : Option Addr) (lc : Nat) (vs : List Value), f ≤ n ∧ lv = .slice la (4 * f) lc ∧ v = .int .i64 f ∧ Hid (WAt y0 wr job la (4 * f) lc vs)) (fun _ v _ => n - (intOf v).toNat)
  case atStart => exact ⟨0, none, 0, [], by omega, rfl, rfl, Lib.hid ⟨rfl, World.ownsRow_nil _ _ _ _, fun m hm => absurd hm (Nat.not_lt_zero _), Below.refl _ _⟩⟩
  case round =>
    obtain ⟨f, la, lc, vs, hfn, rfl, rfl, HW⟩ := hrel
    by_cases hlt : f < n
    · have hlt' : (f : Int) < M := (HMN.out f).2 hlt
      have hf32 : f < 32 := by omega
      go_upto_region 6 with fail
      go_loopw [5, 14] (fun lv v wr => ∃ (k : Nat) (la : Option Addr) (lc : Nat) (vs : List Value), k ≤ 4 ∧ lv = .slice la (4 * f + k) lc ∧ v = .int .i64 k ∧ Hid (WAt y0 wr job la (4 * f + k) lc vs)) (fun _ v _ => 4 - (intOf v).toNat)
      case atStart => exact ⟨0, la, lc, vs, by omega, rfl, rfl, HW⟩
      case round =>
        obtain ⟨k, la, lc, vs, hk4, rfl, rfl, HV⟩ := hrel
        by_cases hk : k < 4
        · have hk' : (k : Int) < 4 := by omega
          obtain ⟨N, hN⟩ : ∃ N, N = 4 * f + k := ⟨_, rfl⟩
          have hNM : N % 4 = k ∧ N / 4 = f := by omega
          have hN127 : N ≤ 127 := by omega
          have HN := Lib.hid hN
          rw [← hN] at HV ⊢
          have hnd := needs_any k f hk hf32
          rw [show needL k f = needM N by unfold needM; rw [hNM.1, hNM.2]] at hnd
          have HNM := Lib.hid hNM
          clear hN hNM
          go_upto_region 9 with (first
            | (go_at_call 30; refine (hnd wr).mono ?_; rintro e y1 ⟨⟨nv, rfl, hnv, hnil, hnb⟩, hb1⟩; obtain ⟨na, nc, hform⟩ := hnv.form; subst hform; have HAL := Lib.hid (heap_alloc_last y1 (.cells Y35 49)))
            | (refine Au.wpList_store_row rfl 49 (.tmp 8) (.tmp 22) rfl (y1.alloc (.cells Y35 49)) Y35 (R35 k f (.slice na (needM N).length nc)) y1.heap.size 49 HAL.out rfl rfl (r35_info _ _ _) rfl (r35_one _ _ _ rfl) ?_))
          obtain ⟨nl, hnl⟩ : ∃ nl, nl = (needM N).length := ⟨_, rfl⟩
          rw [← hnl] at hnv hnil hnb ⊢
          have hq0 := setRow_heap (y1.alloc (.cells Y35 49)) y1.heap.size _ (R35 k f (.slice na nl nc)) _ _ HAL.out
          have hbq := below_setRow (g := y1.heap.size) (Ve.below_n1 y1 (.cells Y35 49)) (Nat.le_refl _) (R35 k f (.slice na nl nc))
          obtain ⟨y4, hy4⟩ : ∃ y, (y1.alloc (.cells Y35 49)).setRow y1.heap.size (R35 k f (.slice na nl nc)) = y := ⟨_, rfl⟩
          obtain ⟨q, hq⟩ : ∃ q, q = y1.heap.size := ⟨_, rfl⟩
          rw [hy4] at hq0 hbq ⊢
          rw [← hq] at hq0 ⊢
          have HV1 := Lib.hid (HV.out.on hb1)
          have HV4 := Lib.hid (HV1.out.on hbq)
          have HQ4 := Lib.hid hq0
          have HB14 := Lib.hid hbq
          have HNV1 := Lib.hid hnv
          have HNV := Lib.hid (hnv.on hbq)
          have HNIL := Lib.hid hnil
          have HNB := Lib.hid hnb
          have HNLL := Lib.hid hnl
          have HSZ1 := Lib.hid hb1.size
          have hqy : y0.heap.size ≤ q := by have := HV.out.below.size; have := hb1.size; omega
          have HQY := Lib.hid hqy
          have HQE := Lib.hid hq
          have hq34 := cell_of_row _ _ 34 _ _ _ hq0
          simp at hq34
          clear hy4 hbq hq hnv hnil hnl hq0 hqy HAL hb1 hnb
          have HRJ := Lib.hid ((HV4.out.below.block P (by have := lt_heap HR0.out; omega)).trans HR0.out)
          have hK32 := klist_32 job N
          have hkeys := keys_any job HJ.out y0.heap.size N lc la (klist job N) vs _ (needM N) y4 HV4.out.own hK32 HNV.out (need_lt N) (need_len N) (by omega)
          have HK := Lib.hid (show keyB (k : Int) (f : Int) (ofsL job (klist job N) (needM N)) = keyB ((N % 4 : Nat) : Int) ((N / 4 : Nat) : Int) (ofsL job (klist job N) (needM N)) by rw [HNM.out.1, HNM.out.2])
          rw [← HJJ.out] at hkeys
          obtain ⟨K, hK⟩ : ∃ K, K = keyB (k : Int) (f : Int) (ofsL job (klist job N) (needM N)) := ⟨_, rfl⟩
          have hKl : K.length = 32 := by rw [hK]; simp [keyB, shaB_len]
          have HTy := Lib.hid (HT.out.on (HB0.out.trans (HV4.out.below.mono HB0.out.size)))
          have hkey := fun y (hb : Below y4.heap.size y4 y) v (hd : Dgs y v (ofsL job (klist job N) (needM N))) => key_any k f v _ y (HTy.out.on hb) hd
          rw [← hK] at hkey HK
          have HKL := Lib.hid hKl
          have hKs : (vals K).toArray.size = 32 := by simp [vals_length, hKl]
          have HSK := Lib.hid (show (Tryd.prog.info? 33).map (·.size) = some (vals K).toArray.size from info32 hKs)
          have HOK := Lib.hid (show (vals K).toArray.all (·.oneCell') = true from all_oneCell_toArray (vals_one _))
          clear hK hKl hK32 hKs
          go_upto_region 10 with (first
            | (with_reducible refine wpList_load_row rfl 33 (.tmp 2) rfl P rfl 33 J (0, 0) _ HRJ.out Tryd.underlying33 rfl HSJ.out ?_)
            | (go_at_call 31; refine hkeys.mono ?_; rintro e y5 ⟨⟨dv, rfl, hdv⟩, hb5⟩)
            | (go_at_call 10; refine (hkey y5 hb5 dv hdv).mono ?_; rintro e y6 ⟨rfl, hb6⟩; have hq5 := (hb5.block q (lt_heap HQ4.out)).trans HQ4.out; have HQ6 := Lib.hid ((hb6.block q (lt_heap hq5)).trans hq5); have HTH := Lib.hid (there_of HQ6.out (n := (vals K).toArray.size) (o := 2) (by show 2 + (vals K).toArray.size ≤ 35; simp [vals_length, HKL.out])); clear hq5)
            | (with_reducible refine wpList_store_mid rfl 33 (.tmp 31) (.tmp 30) rfl q 2 (vals K).toArray rfl rfl HTH.out HSK.out HOK.out ?_))
          have hrow : y6.setCells q 2 (vals K) = y6.setRow q (wc k f K (.slice na nl nc)).toArray := by
            rw [setCells_row (P := Tryd.prog) y6 q 2 (vals K) _ _ HQ6.out (by rw [vals_length, HKL.out]; show 34 ≤ 35; omega) (vals_one _), r35_put _ _ _ _ HKL.out]
          have hq7 := setRow_heap y6 q _ (wc k f K (.slice na nl nc)).toArray _ _ HQ6.out
          have hb47 := hb5.trans (hb6.mono hb5.size)
          have hb17 := HB14.out.trans (hb47.mono HB14.out.size)
          have hb17r := below_setRow (g := q) hb17 (by have := HQE.out; omega) (wc k f K (.slice na nl nc)).toArray
          rw [hrow]
          obtain ⟨y7, hy7⟩ : ∃ y, y6.setRow q (wc k f K (.slice na nl nc)).toArray = y := ⟨_, rfl⟩
          rw [hy7] at hq7 hb17r ⊢
          have HV7 := Lib.hid (HV1.out.on hb17r)
          have HNV7 := Lib.hid (HNV1.out.on hb17r)
          have HQ7 := Lib.hid hq7
          have HS17 := Lib.hid hb17r.size
          clear hrow hb47 hb17 hb17r hy7 hq7 HQ6 HTH hdv hb5 hb6 hkeys hkey hq34
          have hRs : (wc k f K (.slice na nl nc)).toArray.size = 35 := by simp [wc_len HKL.out]
          have HSW := Lib.hid (show (Tryd.prog.info? 49).map (·.size) = some (wc k f K (.slice na nl nc)).toArray.size by rw [hRs]; kernel_rfl)
          have HRS := Lib.hid hRs
          have HI1 := Lib.hid (HV7.out.own.alloc (.cells (wc k f K (.slice na nl nc)).toArray 49))
          have HV8 := Lib.hid (show ∀ j u, (wc k f K (.slice na nl nc))[j]? = some u → (y7.alloc (.cells (wc k f K (.slice na nl nc)).toArray 49)).cell? ((⟨y7.heap.size, 0, none⟩ : Addr).add j) = some u from fun j u hu => by
            rw [Se.add_at, Nat.zero_add]
            have h := heap_alloc_last y7 (.cells (wc k f K (.slice na nl nc)).toArray 49)
            simp only [World.cell?, h]
            simpa using hu)
          have HW1 := Lib.hid (show (wc k f K (.slice na nl nc)).length = 1 * 35 by rw [wc_len HKL.out])
          have HONE := Lib.hid (wc_one (k := k) (f := f) (K := K) (nv := .slice na nl nc) rfl)
          have hy07 := HV7.out.below.size
          obtain ⟨RW, hRW⟩ : ∃ RW, RW = wc k f K (.slice na nl nc) := ⟨_, rfl⟩
          rw [← hRW] at HQ7 HSW HRS HI1 HV8 HW1 HONE
          have HRW := Lib.hid hRW
          clear hRs hRW
          go_wp2_with (first
            | (with_reducible refine wpList_load_row rfl 49 (.tmp 8) rfl q rfl 49 RW.toArray (0, 0) _ HQ7.out Tryd.underlying49 rfl HSW.out ?_)
            | (refine lit_work rfl (.tmp 33) rfl RW.toArray HRS.out rfl ?_)
            | (at_builtin; refine wpList_append_lies _ rfl _ _ 40 rfl y0.heap.size 49 i0 (.agg Y35) 35 72 Tryd.underlying40 hi hz0 hz1 hz2 rfl (by decide) _ _ _ rfl HI1.out ⟨y7.heap.size, 0, none⟩ 1 1 RW rfl HW1.out HV8.out HONE.out (by decide) ?d3 ?d4 ?d5 _ rfl ?_))
          case d3 => unfold maxLen; omega
          case d4 => omega
          case d5 => first | omega | (simp; omega)
          intro g cap w2_ hown2 hgrow2 hgg hgl
          have hb78 := Ve.below_n1 y7 (.cells RW.toArray 49)
          have HV8b := HV7.out.on hb78
          have hnv8 := HNV7.out.on hb78
          have hadd := Lib.hid (WAt.add (K := K) (nv := .slice na nl nc) HV8b HK.out hnv8 HNIL.out (fun b off n' c' e => by
            have hbw := HNB.out b off n' c' e
            have hnz : nl ≠ 0 := fun h0 => by
              have hh := HNIL.out (List.eq_nil_of_length_eq_zero (by rw [← HNLL.out]; exact h0))
              rw [hh] at e
              cases e
            refine ⟨?_, fun g' o' ea => ?_⟩
            · obtain ⟨a2, n2, c2, hv2, hn2, hm2, hr2⟩ := HNV7.out
              rw [e] at hv2
              cases hv2
              rcases hr2 with h2 | ⟨b3, o3, h3, h4, _⟩
              · have h6 : nl = n' := by cases e; rfl
                omega
              · cases h3
                simp
                omega
            · have h1 := (HV.out.own.lt g' (by rw [ea]; rfl)).2
              omega) (by rw [HRW.out, HNM.out.1, HNM.out.2] at *; exact hown2) hgrow2 (by simpa using hgg))
          clear hown2 hgrow2 hgg hgl hb78 HV8b hnv8
          have HE1 := Lib.hid (show N + 1 = 4 * f + (k + 1) by have := HN.out; omega)
          go_wp2_with fail
          go_roundw
          case rel => exact ⟨k + 1, some ⟨g, 0, none⟩, cap, vs ++ [.slice na nl nc], by omega, by rw [HE1.out], by go_num, by rw [HE1.out] at hadd; exact hadd⟩
          case measure => simp [intOf]; omega
        · have hge : ¬ (k : Int) < 4 := by omega
          have hk' : k = 4 := by omega
          subst hk'
          have HE4 := Lib.hid (show 4 * f + 4 = 4 * (f + 1) by omega)
          go_wp2_with fail
          go_roundw
          case rel => exact ⟨f + 1, la, lc, vs, by omega, by rw [HE4.out], by go_num, by rw [HE4.out] at HV; exact HV⟩
          case measure => simp [intOf]; omega
    · have hge : ¬ (f : Int) < M := fun h => hlt ((HMN.out f).1 h)
      have hf' : f = n := by omega
      subst hf'
      go_wp2_with fail
      go_ret
      first | exact ⟨la, lc, vs, rfl, y0, HB0.out, HW.out⟩ | exact ⟨la, lc, rfl, vs, y0, HB0.out, HW.out⟩
end Go.Proofs.YtndpidmbfdpiaaaDoor.St
