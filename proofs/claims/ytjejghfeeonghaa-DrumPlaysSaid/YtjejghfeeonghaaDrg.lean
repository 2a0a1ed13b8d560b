/- Layer 23: Sync by the program. -/
import Derived.Test.YtjejghfeeonghaaDre
import Derived.Maps.RangeWalk
namespace Go.Proofs.Ytjejghfeeonghaa.Dr
open Go Go.RowKit Go.Maps Go.Proofs.Ytjejghfeeonghaa Go.Proofs.Ytjejghfeeonghaa.Au Go.Proofs.Ytjejghfeeonghaa.Re
set_option linter.unusedVariables false
set_option linter.unusedSimpArgs false

/-- what lasts, where some of what is loose is still to come -/
def SL (M : List (Int × Bk)) (left : Lit → Bool) (L : List Bk) : List Bk := (List.range L.length).map fun i : Nat => match findM M (i : Int) with | some x => if left (.int .i64 (i : Int)) then L.getD i zB else x | none => L.getD i zB

def syncL (M : List (Int × Bk)) (L : List Bk) : List Bk := SL M (fun _ => false) L

def eSync (s : Dst) : Int := if s.down then 5 else eStep s

def syncS (s : Dst) : Dst := if s.down then s else if eStep s ≠ 0 then stepS s else { stepS s with L := syncL s.M s.L, M := [] }

theorem SL_len (M : List (Int × Bk)) (left : Lit → Bool) (L : List Bk) : (SL M left L).length = L.length := by simp [SL]

theorem SL_start (M : List (Int × Bk)) (L : List Bk) : SL M (Maps.has (dm M)) L = L := by
  unfold SL
  apply List.ext_getElem
  · simp
  · intro i h1 h2
    simp only [List.getElem_map, List.getElem_range]
    have e : L.getD i zB = L[i] := by simp [List.getD, h2]
    cases hf : findM M i with
    | none => simpa using e
    | some x =>
      have hh : Maps.has (dm M) (.int .i64 i) = true := by rw [dm_has, hf]; rfl
      simp only [hh, if_true]
      exact e

theorem SL_step (M : List (Int × Bk)) (left : Lit → Bool) (L : List Bk) (k : Nat) (x : Bk) (hf : findM M k = some x) : SL M (fun z => left z && !z.sameKey (.int .i64 k)) L = (SL M left L).set k x := by
  apply List.ext_getElem
  · simp [SL]
  · intro i h1 h2
    rw [List.getElem_set]
    by_cases e : k = i
    · subst e
      rw [if_pos rfl]
      simp [SL, hf, Lit.sameKey]
    · rw [if_neg e]
      have hs : (Lit.int .i64 (i : Int)).sameKey (.int .i64 (k : Int)) = false := by simp [Lit.sameKey]; omega
      simp [SL, hs]

theorem SL_end (M : List (Int × Bk)) (left : Lit → Bool) (L : List Bk) (h : ∀ kl, left kl = false) : SL M left L = syncL M L := by
  unfold syncL
  congr 1
  funext z
  exact h z

theorem ranges_keep {w w' : World} {m r N : Nat} {D : DV} {left : Lit → Bool} {cnt : Nat} (h : w.ranges Try.prog 3 hR m r N D left cnt) (hm : w'.heap[m]? = w.heap[m]?) (hr : w'.heap[r]? = w.heap[r]?) : w'.ranges Try.prog 3 hR m r N D left cnt := by
  obtain ⟨es, clock, since, seen, c0, h1, F, hs, hD, h2, rest⟩ := h
  exact ⟨es, clock, since, seen, c0, hm.trans h1, F, hs, hD, hr.trans h2, rest⟩

theorem next_blk {ops : Array Oper} {rest : List Oper} {o : Oper} {a : Act} {w : World} {Q : Exit → Act → World → Prop} (hg : o.guard = none) (it : Operand) (hop : o.op = Op.next it false) (m r : Nat) (M : List (Int × Bk)) (left : Lit → Bool) (cnt : Nat)
    (hit : a.eval it = .pointer (some ⟨r, 0, none⟩)) (h : w.ranges Try.prog 3 hR m r 9000 (dm M) left cnt)
    (hDone : cnt = 0 → (∀ kl, left kl = false) → wpList Try.prog ops Q rest (a.put o.dst (.tuple #[.bool false])) w)
    (hMore : ∀ (k : Int) (x : Bk) (R : Array Value) (w' : World) (cnt' : Nat), findM M k = some x → R = (vals x).toArray → w'.ranges Try.prog 3 hR m r 9000 (dm M) (fun z => left z && !z.sameKey (.int .i64 k)) cnt' → cnt' < cnt →
      w.grownBy w' (some r) → w'.heap.size = w.heap.size → (Instr.entry (.pointer (some ⟨r, 0, none⟩))).run Try.prog w' = .ok (.tuple #[.int .i64 k, .agg R]) w' → wpList Try.prog ops Q rest (a.put o.dst (.tuple #[.bool true, .int .i64 k, .agg R])) w') :
    wpList Try.prog ops Q (o :: rest) a w := by
  refine wpList_plain hg fun K' hK' => ?_
  unfold Oper.wp
  rcases h.next keyL o.type with ⟨h0, hl, hrun⟩ | ⟨key, v, kl, y, w', cnt', hkey, hlk, hv, hat, hrun, hrg, hlt, hgr, hsz, hen⟩
  · simp [execOp, hop, hit, hrun, Result.andThen]
    exact hK' _ _ (hDone h0 hl)
  · obtain ⟨k, rfl, rfl, hwk⟩ := Maps.keyOf_int_inv Try.underlying3 hkey
    simp [hR] at hv
    subst hv
    have h1 := hat .nil
    have h2 := hat (.agg [])
    rw [dm_at] at h1 h2
    cases hf : findM M k with
    | none => rw [hf] at h1 h2; simp at h1
    | some x =>
      rw [hf] at h1
      simp at h1
      subst h1
      have hv : bv x = .agg (vals x).toArray := rfl
      rw [hv] at hrun hen
      simp [execOp, hop, hit, hrun, Result.andThen]
      exact hK' _ _ (hMore k x _ w' cnt' hf rfl hrg hlt hgr hsz hen)

def syncI (s : Dst) (left : Lit → Bool) : Dst := { stepS s with L := SL s.M left s.L }

set_option maxHeartbeats 8000000 in
set_option maxRecDepth 100000 in
theorem sync_any (g b m : Nat) (s : Dst) (w : World) (h : DAt w g b m s) (hf : Fine s) : Calls Try.prog 14 #[.pointer (some ⟨g, 0, none⟩)] w fun e w' => e = .returned (.int .i64 (eSync s)) ∧ DAt w' g b m (syncS s) ∧ Aw (Off g b m) w w' := by
  have HD := Lib.hid h
  have HFI := Lib.hid hf
  clear h hf
  by_cases hd : s.down = true
  · have hes : eSync s = 5 := by unfold eSync; rw [if_pos hd]
    have hss : syncS s = s := by unfold syncS; rw [if_pos hd]
    have hr : eReady s = 5 := by unfold eReady; rw [if_pos hd]
    rw [hes, hss]
    go_enter Try.func14, Try.ntmps14
    go_wp2_with fail
    refine (ready_any g b m s _ HD.out).mono ?_
    rintro e w1 ⟨rfl, rfl⟩
    rw [hr]
    go_wp2_with fail
    go_ret
    exact ⟨rfl, HD.out, Aw.refl _ _⟩
  · have hd' : s.down = false := by simpa using hd
    have hr : eReady s = 0 := by unfold eReady; rw [if_neg hd]
    have hes : eSync s = eStep s := by unfold eSync; rw [if_neg hd]
    by_cases hs : eStep s = 0
    · have hss : syncS s = { stepS s with L := syncL s.M s.L, M := [] } := by unfold syncS; rw [if_neg hd, if_neg (by simpa using hs)]
      rw [hes, hss, hs]
      clear hes hss
      have hzv := zeroV
      have hzs := ZB_size
      go_enter Try.func14, Try.ntmps14
      go_wp2_with fail
      refine (ready_any g b m s _ HD.out).mono ?_
      rintro e w1 ⟨rfl, rfl⟩
      rw [hr]
      go_wp2_with fail
      refine (step_any g b m s _ HD.out HFI.out).mono ?_
      rintro e y2 ⟨rfl, hd2, ha2⟩
      rw [hs]
      have HD2 := Lib.hid hd2
      have HA2 := Lib.hid (ha2.weak (S := Off g b m) (fun j hj => hj.1))
      clear hd2 ha2
      have c5 : y2.cell? ⟨g, 5, none⟩ = some (.map (some m)) := by have e := cell_of_row _ _ 5 _ _ _ HD2.out.dev; simpa using e
      have HLO := Lib.hid (show y2.ownsMap Try.prog 3 hR m 9000 (dm s.M) by have e := HD2.out.loose; rwa [step_M] at e)
      go_wp2_with (at_range; refine wpList_range_own _ rfl _ 55 rfl 3 36 keyL Try.underlying55 hR m 9000 (dm s.M) rfl HLO.out ?_; intro y3 hrg0 hg0 hs0)
      have HRG := Lib.hid hrg0
      have HD3 := Lib.hid (show DAt y3 g b m (syncI s (Maps.has (dm s.M))) by
        have hl := HD2.out.lt
        have e : syncI s (Maps.has (dm s.M)) = stepS s := by unfold syncI; rw [SL_start, ← step_L]
        rw [e]
        exact HD2.out.keep (hg0.block _ hl.1 (by simp)) (hg0.block _ hl.2.1 (by simp)) (hg0.block _ hl.2.2 (by simp)))
      have HA3 := Lib.hid (HA2.out.step hg0 (fun q hq => by cases hq))
      obtain ⟨r, hrr⟩ : ∃ r, r = y2.heap.size := ⟨_, rfl⟩
      have HRW := Lib.hid (show w.heap.size ≤ r by have := HA2.out.size; omega)
      have HRO := Lib.hid (show Off g b m r by have hl := HD2.out.lt; exact ⟨by omega, by omega, by omega⟩)
      rw [← hrr] at HRG ⊢
      clear hrg0 hg0 hs0 hrr c5 HLO HD2 HA2
      try go_frame
      go_loopw [5] (fun _ wr => ∃ (left : Lit → Bool) (cnt : Nat), Hid (wr.ranges Try.prog 3 hR m r 9000 (dm s.M) left cnt) ∧ Hid (DAt wr g b m (syncI s left)) ∧ Hid (Aw (Off g b m) w wr)) (fun _ wr => wr.rangeLeft m r)
      case atStart => exact ⟨_, _, HRG, HD3, HA3⟩
      case round =>
        obtain ⟨left, cnt, HRG1, HD4, HA4⟩ := hrel
        go_wp2_with (at_next; refine next_blk rfl _ rfl m r s.M left cnt rfl HRG1.out ?_ ?_)
        · intro _ hl0
          have HD5 := Lib.hid (show DAt wr g b m { stepS s with L := syncL s.M s.L } by
            have e := HD4.out
            unfold syncI at e
            rwa [SL_end s.M left s.L hl0] at e)
          have c5 : wr.cell? ⟨g, 5, none⟩ = some (.map (some m)) := by have e := cell_of_row _ _ 5 _ _ _ HD5.out.dev; simpa using e
          obtain ⟨y6, hcl, ho6, hg6⟩ := clear_run HD5.out.loose
          have HD6 := Lib.hid (show DAt y6 g b m { stepS s with L := syncL s.M s.L, M := [] } from by
            have hl := HD5.out.lt
            have hn := HD5.out.ne
            exact ⟨(hg6.block g hl.1 (by simp; exact hn.2.1)).trans HD5.out.dev, (hg6.block b hl.2.1 (by simp; exact hn.2.2)).trans HD5.out.las, ho6, HD5.out.len, HD5.out.n0, HD5.out.b128, by simp, by simp, by simp⟩)
          have HA6 := Lib.hid (HA4.out.step hg6 (fun q hq => by cases hq; exact fun e => e.2.2 rfl))
          clear ho6 hg6 HD4 HRG1
          go_wp2_with fail
          go_ret
          exact ⟨rfl, HD6.out, HA6.out⟩
        · intro k x R w1 cnt1 hfk hRe hrg1 hlt1 hg1 hs1 hen
          have hmx := HD4.out.m128 (k, x) (find_mem (show findM (syncI s left).M k = some x by unfold syncI; rw [step_M]; exact hfk))
          obtain ⟨kn, hkn⟩ : ∃ kn : Nat, k = (kn : Int) := ⟨k.toNat, by have := hmx.2.1; omega⟩
          subst hkn
          have hnn : (syncI s left).n = s.n := by unfold syncI; exact step_n s
          have hkl : kn < s.n := by have h2 := hmx.2.2; rw [hnn] at h2; dsimp only at h2; omega
          have hkl' : (kn : Int) < ((stepS s).n : Int) := by rw [step_n]; omega
          have hx : x.length = 128 := hmx.1
          have hRs : R.size = 128 := by rw [hRe]; simp [vals_length]; exact hx
          have hl4 := HD4.out.lt
          have hro := HRO.out
          have HD5 := Lib.hid (HD4.out.keep (hg1.block _ hl4.1 (by simp; exact fun e => hro.1 e.symm)) (hg1.block _ hl4.2.1 (by simp; exact fun e => hro.2.1 e.symm)) (hg1.block _ hl4.2.2 (by simp; exact fun e => hro.2.2 e.symm)))
          have HA5 := Lib.hid (show Aw (Off g b m) w w1 from ⟨hg1.os.trans HA4.out.os, hg1.tape.trans HA4.out.tape, hg1.output.trans HA4.out.output, Nat.le_trans HA4.out.size hg1.size, fun j hj hjl => (hg1.block j (by have := HA4.out.size; omega) (by have := HRW.out; simp; omega)).trans (HA4.out.block j hj hjl)⟩)
          have HI := Lib.hid (infoTB hRs)
          have HZ := Lib.hid (show ZB.size = R.size by rw [hRs]; exact ZB_size)
          have HO := Lib.hid (show R.all (·.oneCell') = true by rw [hRe]; exact all_oneCell_toArray (vals_one _))
          have HL2 := Lib.hid (show R.toList = vals x by rw [hRe])
          have HAL := Lib.hid (heap_alloc_last w1 (.cells ZB 36))
          have hbn := Ve.below_n1 w1 (.cells ZB 36)
          have HUx := below_setRow (g := w1.heap.size) hbn (Nat.le_refl _) R
          have hN := setRow_heap _ (w1.heap.size) _ R _ _ HAL.out
          obtain ⟨y7, hy7⟩ : ∃ y, (w1.alloc (.cells ZB 36)).setRow w1.heap.size R = y := ⟨_, rfl⟩
          have HY7 := Lib.hid hy7
          rw [hy7] at HUx hN
          have HD7 := Lib.hid (HD5.out.on HUx)
          have HA7 := Lib.hid (HA5.out.trans (Aw.of HUx))
          have HRG7 := Lib.hid (ranges_keep hrg1 (HUx.block m HD5.out.lt.2.2) (HUx.block r hrg1.lt))
          have HST := Lib.hid (show ∀ y, DAt y g b m (syncI s left) → DAt (y.setCells b (kn * 128) R.toList) g b m (syncI s (fun z => left z && !z.sameKey (.int .i64 (kn : Int)))) from fun y hy => by
            have e : syncI s (fun z => left z && !z.sameKey (.int .i64 (kn : Int))) = { syncI s left with L := (syncI s left).L.set kn x } := by
              unfold syncI; rw [SL_step s.M left s.L kn x hfk]
            rw [e, HL2.out]
            exact hy.setL kn (by rw [hnn]; exact hkl) x hx)
          have HTH := Lib.hid (show ∀ y, DAt y g b m (syncI s left) → y.there b (kn * 128) R.size from fun y hy => by
            have hfl := flat_len _ hy.b128
            rw [hy.len] at hfl
            intro j hj
            rw [hRs] at hj
            have hlt : kn * 128 + j < (vals (syncI s left).L.flatten).length := by rw [vals_length, hfl, hnn]; omega
            exact ⟨by simp [World.cell?, hy.las, hlt], by simp [World.frozen?, hy.las]⟩)
          have HLT := Lib.hid hlt1
          clear hmx hx hRe hRs hy7 HUx hbn hg1 hs1 hfk hrg1 hlt1 hl4 hro
          go_upto_region 10 with (refine Au.wpList_store_row rfl 36 (.tmp 6) (.tmp 28) rfl (w1.alloc (.cells ZB 36)) ZB R w1.heap.size 36 HAL.out rfl rfl HI.out HZ.out HO.out ?_)
          rw [HY7.out]
          obtain ⟨q, hq⟩ : ∃ q, q = w1.heap.size := ⟨_, rfl⟩
          rw [← hq] at hN ⊢
          have HQ := Lib.hid hN
          clear hq hN HAL HY7 hen HD5 HA5
          refine Ol.way_drew (S := fun y => y.heap[g]? = some (.cells #[.int .i64 (stepS s).n, .int .i64 (stepS s).steps, .int .i64 (stepS s).fuse, .bool (stepS s).down, .slice (some ⟨b, 0, none⟩) (stepS s).n (stepS s).n, .map (some m)] 57 (0, 0)) ∧ y.heap[q]? = some (.cells R 36 (0, 0))) (stop := 7) (by kernel_rfl) (⟨HD7.out.dev, HQ.out⟩) (fun hS0 => ?_)
          obtain ⟨y8, hy8⟩ : ∃ y, y7.drew = y := ⟨_, rfl⟩
          have HD8 := Lib.hid (show DAt y8 g b m (syncI s left) by rw [← hy8]; exact HD7.out.drew)
          have HA8 := Lib.hid (show Aw (Off g b m) w y8 by rw [← hy8]; exact HA7.out.trans (Aw.of (Below.refl _ _).drew))
          have HRG8 := Lib.hid (show y8.ranges Try.prog 3 hR m r 9000 (dm s.M) (fun z => left z && !z.sameKey (.int .i64 (kn : Int))) cnt1 by rw [← hy8]; exact ranges_keep HRG7.out rfl rfl)
          rw [hy8] at hS0 ⊢
          clear hy8 HD7 HA7 HQ HRG7
          refine Ol.way_plain (i := 0) (v := ?_) rfl (by kernel_rfl) (by kernel_rfl) (by kernel_rfl) (fun _ _ _ h => h) (by decide) (Or.inl ⟨by kernel_rfl, by (intro wz _; go_simp; try with_reducible rfl)⟩) (Ol.on hS0) ?_
          go_simp
          refine Ol.way_plain (i := 1) (v := ?_) rfl (by kernel_rfl) (by kernel_rfl) (by kernel_rfl) (fun _ _ _ h => h) (by decide) (Or.inl ⟨by kernel_rfl, by (intro wz _; go_simp; try with_reducible rfl)⟩) (Ol.on hS0) ?_
          go_simp
          refine Ol.way_plain (i := 2) (v := ?_) rfl (by kernel_rfl) (by kernel_rfl) (by kernel_rfl) (fun _ _ _ h => h) (by decide) (Or.inl ⟨by kernel_rfl, by (intro wz _; go_simp; try with_reducible rfl)⟩) (Ol.on hS0) ?_
          go_simp
          refine Ol.way_take (i := 3) (v := ?_) rfl (by kernel_rfl) (by kernel_rfl) (by kernel_rfl) (fun _ _ _ h => h) (by decide) (by kernel_rfl) (by kernel_rfl) (Or.inl ⟨by kernel_rfl, by (intro wz hSz; have c4 := cell_of_row _ _ 4 _ _ _ hSz.1; simp at c4; go_simp; try with_reducible rfl)⟩) hS0 ?_
          go_simp
          refine Ol.way_plain (i := 4) (v := ?_) rfl (by kernel_rfl) (by kernel_rfl) (by kernel_rfl) (fun _ _ _ h => h) (by decide) (Or.inl ⟨by kernel_rfl, by (intro wz _; go_simp; try with_reducible rfl)⟩) (Ol.on hS0) ?_
          go_simp
          refine Ol.way_take (i := 5) (v := .agg R) rfl (by kernel_rfl) (by kernel_rfl) (by kernel_rfl) (fun _ _ _ h => h) (by decide) (by kernel_rfl) (by kernel_rfl) (Lr.yieldsIf_load_row (by kernel_rfl) 36 (.tmp 6) rfl q rfl 36 R _ (fun yy hh => hh.2) Try.underlying36 rfl HI.out) hS0 ?_
          go_simp
          refine Ol.way_plain (i := 6) (v := ?_) rfl (by kernel_rfl) (by kernel_rfl) (by kernel_rfl) (fun _ _ _ h => h) (by decide) (Or.inl ⟨by kernel_rfl, by (intro wz _; go_simp; try with_reducible rfl)⟩) (Ol.on hS0) ?_
          go_simp
          refine Ol.way_ready (rs := [7]) (by kernel_rfl) (by simp) ?_
          refine Ol.Each.cons rfl (fun K hK => ?_) Ol.Each.nil
          refine step_store_mid rfl 36 (.tmp 35) (.tmp 34) rfl b (kn * 128) R rfl rfl (HTH.out _ HD8.out) HI.out HO.out ?_
          have HD9 := Lib.hid (HST.out _ HD8.out)
          have HA9 := Lib.hid (aw_cells (b := b) (fun e => e.2.1 rfl) R.toList (kn * 128) _ _ HA8.out)
          have HRG9 := Lib.hid (ranges_keep (w' := y8.setCells b (kn * 128) R.toList) HRG8.out (World.heap_setCells_other y8 b _ _ HD8.out.lt.2.2 (Ne.symm HD8.out.ne.2.2)) (World.heap_setCells_other y8 b _ _ HRG8.out.lt HRO.out.2.1))
          refine Ol.past hK (by kernel_rfl) _ _ ?_
          clear hK K
          refine Ol.way_done (by kernel_rfl) ?_ _
          go_wp2_with fail
          go_roundw
          case rel => exact ⟨_, _, _, _, _, _, _, _, _, _, _, _, _, _, ⟨_, cnt1, HRG9, HD9, HA9⟩, rfl⟩
          case measure => rw [HRG9.out.left_eq, HRG1.out.left_eq]; exact HLT.out
    · have hss : syncS s = stepS s := by unfold syncS; rw [if_neg hd, if_pos hs]
      have hsn : (eStep s != 0) = true := by simp [hs]
      rw [hes, hss]
      clear hes hss
      go_enter Try.func14, Try.ntmps14
      go_wp2_with fail
      refine (ready_any g b m s _ HD.out).mono ?_
      rintro e w1 ⟨rfl, rfl⟩
      rw [hr]
      go_wp2_with fail
      refine (step_any g b m s _ HD.out HFI.out).mono ?_
      rintro e y2 ⟨rfl, hd2, ha2⟩
      have HD2 := Lib.hid hd2
      have HA2 := Lib.hid (ha2.weak (S := Off g b m) (fun j hj => hj.1))
      clear hd2 ha2
      go_wp2_with fail
      go_ret
      exact ⟨rfl, HD2.out, HA2.out⟩

end Go.Proofs.Ytjejghfeeonghaa.Dr
