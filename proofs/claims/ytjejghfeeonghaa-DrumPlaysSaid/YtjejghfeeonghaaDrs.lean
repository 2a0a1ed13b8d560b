/- Layer 23: the document's Write. -/
import Derived.Test.YtjejghfeeonghaaDrr
namespace Go.Proofs.Ytjejghfeeonghaa.Dr
open Go Go.RowKit Go.Maps Go.Proofs.Ytjejghfeeonghaa Go.Proofs.Ytjejghfeeonghaa.Au Go.Proofs.Ytjejghfeeonghaa.Re
set_option linter.unusedVariables false
set_option linter.unusedSimpArgs false

theorem RAt.drew {w : World} {h : Nat} {aS : Option Addr} {cS : Nat} {aM : Option Addr} {cM : Nat} {S : List E1} {s : Dst} (hr : RAt w h aS cS aM cM S s) : RAt w.drew h aS cS aM cM S s :=
  hr.on (Below.refl _ _).drew

/-- a new list in the cell of the loose ones -/
theorem RAt.setM {w : World} {h : Nat} {aS : Option Addr} {cS : Nat} {aM : Option Addr} {cM : Nat} {S M : List E1} {s : Dst} (hr : RAt w h aS cS aM cM S s) {a : Option Addr} {c : Nat} (hE : EB w 0 (.slice a M.length c) M) (hM : Okl s.n M) :
    RAt (w.setCell ⟨h, 2, none⟩ (.slice a M.length c)) h aS cS a c S { s with M := M } := by
  have on : ∀ {c0 : Nat} {v' : Value} {L : List E1}, EB w c0 v' L → EB (w.setCell ⟨h, 2, none⟩ (.slice a M.length c)) c0 v' L := fun {c0 v' L} hv => by
    refine ⟨hv.1, ?_⟩
    rcases hv.2 with hn | ⟨g, cap, cur, hv, hbg, hg, rest⟩
    · exact .inl hn
    · exact .inr ⟨g, cap, cur, hv, hbg, (Below.heap_setCell _ _ _ _ (hr.ent_ne g _ _ hg)).trans hg, rest⟩
  exact ⟨heap_setCell_same w h 2 _ _ _ hr.dev, on hr.sure, on hE, hr.okS, hM, hr.n0, hr.len, hr.sur⟩

/-- a new list in the cell of the sure ones -/
theorem RAt.setS {w : World} {h : Nat} {aS : Option Addr} {cS : Nat} {aM : Option Addr} {cM : Nat} {S S' : List E1} {s : Dst} (hr : RAt w h aS cS aM cM S s) {a : Option Addr} {c : Nat} (hE : EB w 0 (.slice a S'.length c) S') (hS : Okl s.n S') (L : List Bk) (hl : L.length = s.n) (hsur : ∀ i, i < s.n → L.getD i zB = (findM S' (i : Int)).getD zB) :
    RAt (w.setCell ⟨h, 1, none⟩ (.slice a S'.length c)) h a c aM cM S' { s with L := L } := by
  have on : ∀ {c0 : Nat} {v' : Value} {L : List E1}, EB w c0 v' L → EB (w.setCell ⟨h, 1, none⟩ (.slice a S'.length c)) c0 v' L := fun {c0 v' L} hv => by
    refine ⟨hv.1, ?_⟩
    rcases hv.2 with hn | ⟨g, cap, cur, hv, hbg, hg, rest⟩
    · exact .inl hn
    · exact .inr ⟨g, cap, cur, hv, hbg, (Below.heap_setCell _ _ _ _ (hr.ent_ne g _ _ hg)).trans hg, rest⟩
  exact ⟨heap_setCell_same w h 1 _ _ _ hr.dev, on hE, on hr.loose, hS, hr.okM, hr.n0, hl, hsur⟩

theorem Okl.nval {n : Nat} {L : List E1} (h : Okl n L) {w : World} {b : Nat} {v : Value} (he : EB w b v L) : ∃ a c, v = .slice a L.length c ∧ RL w a L := he.open h.b128

set_option maxHeartbeats 4000000 in
set_option maxRecDepth 100000 in
theorem rwrite_any (h : Nat) (aS : Option Addr) (cS : Nat) (aM : Option Addr) (cM : Nat) (S : List E1) (s : Dst) (w : World) (hr : RAt w h aS cS aM cM S s) (hf : Fine s) (k : Int) (x : Bk) (hx : x.length = 128) : Calls Try.prog 21 #[.pointer (some ⟨h, 0, none⟩), .int .i64 k, bv x] w fun e w' => e = .returned (.int .i64 (eWrite s k)) ∧ (∃ aM cM, RAt w' h aS cS aM cM S (writeS s k x)) ∧ Aw (fun j => j ≠ h) w w' := by
  obtain ⟨R, HRE⟩ : ∃ R, Hid (R = (vals x).toArray) := ⟨_, Lib.hid rfl⟩
  have hRs : R.size = 128 := by rw [HRE.out]; simp [vals_length]; exact hx
  have HRS := Lib.hid hRs
  have HI := Lib.hid (infoT128 hRs)
  rw [show bv x = .agg R by rw [HRE.out]; rfl]
  have HX := Lib.hid hx
  have HFI := Lib.hid hf
  have hr1 := heap_alloc_last w (.cells R 30)
  have hb1 := Ve.below_n1 w (.cells R 30)
  have hhw := lt_heap hr.dev
  have HD1 := Lib.hid (hr.on hb1)
  clear hr hf hx hRs
  obtain ⟨y1, hy1⟩ : ∃ y, w.alloc (.cells R 30) = y := ⟨_, rfl⟩
  obtain ⟨r, hr⟩ : ∃ r, r = w.heap.size := ⟨_, rfl⟩
  have hhr : r ≠ h := by omega
  have c0 := cell_of_row _ _ 0 _ _ _ HD1.out.dev
  have c5 := cell_of_row _ _ 5 _ _ _ HD1.out.dev
  rw [hy1] at hb1 hr1 c0 c5 HD1
  rw [← hr] at hr1
  simp at c0 c5
  have HR := Lib.hid hr1
  have HY := Lib.hid hy1
  have HRR := Lib.hid hr
  have HA1 := Lib.hid (Aw.of (S := fun j => j ≠ h) hb1)
  clear hr1 hb1 hy1 hr
  cases hd : s.down with
  | true =>
    have ha : eAt s k = 5 := by simp [eAt, hd]
    have he : eWrite s k = 5 := by unfold eWrite; rw [if_pos (by rw [ha]; decide), ha]
    have hw : writeS s k x = s := by unfold writeS; rw [if_pos (by rw [ha]; decide)]
    rw [he, hw]
    rw [hd] at c5
    clear hd he ha hw
    go_enter Try.func21, Try.ntmps21
    go_upto_region 1 with fail
    rw [HY.out]
    go_wp2_with fail
    go_ret
    exact ⟨rfl, ⟨_, _, HD1.out⟩, HA1.out⟩
  | false =>
    rw [hd] at c5
    by_cases hk : 0 ≤ k ∧ k < s.n
    · have ha : eAt s k = 0 := by unfold eAt; rw [hd, if_neg (by simp), if_pos hk]
      have HK := Lib.hid hk
      have HDN := Lib.hid hd
      have d0 : decide (k < 0) = false := decide_eq_false (by omega)
      have d1 : decide ((s.n : Int) ≤ k) = false := decide_eq_false (by omega)
      have hew : eWrite s k = eStep s := by unfold eWrite; rw [if_neg (by simpa using ha)]
      clear hd hk
      by_cases hs : eStep s = 0
      · have hws : writeS s k x = { stepS s with M := putM k x s.M } := by unfold writeS; rw [if_neg (by simpa using ha), if_neg (by simpa using hs)]
        have db : decide (eStep s = 0) = true := by simp [hs]
        rw [hew, hws, hs]
        clear hew hws ha
        go_enter Try.func21, Try.ntmps21
        go_upto_region 1 with fail
        rw [HY.out, ← HRR.out]
        go_wp2_with fail
        refine (rstep_any h aS cS aM cM S s y1 HD1.out HFI.out).mono ?_
        rintro e y2 ⟨rfl, hd2, ha2⟩
        rw [db]
        have HD2 := Lib.hid hd2
        have HR2 := Lib.hid ((ha2.block r hhr (lt_heap HR.out)).trans HR.out)
        have HA2 := Lib.hid (HA1.out.trans ha2)
        clear hd2 ha2 HR HD1 HA1 c0 c5 HY
        go_wp2_with fail
        obtain ⟨s2, hs2⟩ : ∃ z, z = stepS s := ⟨_, rfl⟩
        have HM2 := Lib.hid (show s2.M = s.M by rw [hs2]; exact step_M s)
        have HN2 := Lib.hid (show s2.n = s.n by rw [hs2]; exact step_n s)
        rw [← hs2] at HD2
        have HS2 := Lib.hid hs2
        clear hs2
        refine Ol.way_drew (S := fun y => y.heap[h]? = some (.cells #[.int .i64 s2.n, .slice aS S.length cS, .slice aM s2.M.length cM, .int .i64 s2.fuse, .int .i64 s2.steps, .bool s2.down] 60 (0, 0)) ∧ y.heap[r]? = some (.cells R 30 (0, 0))) (stop := 11) (by kernel_rfl) (⟨HD2.out.dev, HR2.out⟩) (fun hS0 => ?_)
        obtain ⟨V, HV⟩ : ∃ V, Hid (V = (.int .i64 k :: R.toList).toArray) := ⟨_, Lib.hid rfl⟩
        obtain ⟨y3, hy3⟩ : ∃ y, y2.drew = y := ⟨_, rfl⟩
        have HD3 := Lib.hid (show RAt y3 h aS cS aM cM S s2 by rw [← hy3]; exact HD2.out.drew)
        have HA3 := Lib.hid (show Aw (fun j => j ≠ h) w y3 by rw [← hy3]; exact HA2.out.trans (Aw.of (Below.refl _ _).drew))
        rw [hy3] at hS0 ⊢
        clear hy3 HD2 HA2 HR2
        obtain ⟨aM', kM, e1, hRL⟩ := HD3.out.loose.open HD3.out.okM.b128
        cases e1
        have HPC := Lib.hid (show Calls Try.prog 32 #[.slice aM s2.M.length cM, .agg V] y3 fun e w' => ∃ v', e = .returned v' ∧ EB w' y3.heap.size v' (putM k x s2.M) ∧ Below y3.heap.size y3 w' by
          rw [show (Value.agg V) = .agg (ent (k, x)).toArray by rw [HV.out, HRE.out]; rfl]
          exact put_any aM cM s2.M (k, x) y3 hRL HD3.out.okM.b128 (by have := HD3.out.okM.len; have := HD3.out.n0; omega) HX.out HD3.out.okM.up)
        have HOM := Lib.hid (show Okl s2.n (putM k x s2.M) from HD3.out.okM.put (x := (k, x)) HX.out (by rw [HN2.out]; exact HK.out))
        clear hRL
        refine Ol.way_plain (i := 0) (v := ?_) rfl (by kernel_rfl) (by kernel_rfl) (by kernel_rfl) (fun _ _ _ h => h) (by decide) (Or.inl ⟨by kernel_rfl, by (intro wz _; go_simp; try with_reducible rfl)⟩) (Ol.on hS0) ?_
        go_simp
        refine Ol.way_plain (i := 1) (v := ?_) rfl (by kernel_rfl) (by kernel_rfl) (by kernel_rfl) (fun _ _ _ h => h) (by decide) (Or.inl ⟨by kernel_rfl, by (intro wz _; go_simp; try with_reducible rfl)⟩) (Ol.on hS0) ?_
        go_simp
        refine Ol.way_plain (i := 2) (v := ?_) rfl (by kernel_rfl) (by kernel_rfl) (by kernel_rfl) (fun _ _ _ h => h) (by decide) (Or.inl ⟨by kernel_rfl, by (intro wz _; go_simp; try with_reducible rfl)⟩) (Ol.on hS0) ?_
        go_simp
        refine Ol.way_plain (i := 3) (v := ?_) rfl (by kernel_rfl) (by kernel_rfl) (by kernel_rfl) (fun _ _ _ h => h) (by decide) (Or.inl ⟨by kernel_rfl, by (intro wz _; go_simp; try with_reducible rfl)⟩) (Ol.on hS0) ?_
        go_simp
        refine Ol.way_take (i := 4) (v := ?_) rfl (by kernel_rfl) (by kernel_rfl) (by kernel_rfl) (fun _ _ _ h => h) (by decide) (by kernel_rfl) (by kernel_rfl) (Or.inl ⟨by kernel_rfl, by (intro wz hSz; have c2 := cell_of_row _ _ 2 _ _ _ hSz.1; simp at c2; go_simp; try with_reducible rfl)⟩) hS0 ?_
        go_simp
        refine Ol.way_plain (i := 5) (v := ?_) rfl (by kernel_rfl) (by kernel_rfl) (by kernel_rfl) (fun _ _ _ h => h) (by decide) (Or.inl ⟨by kernel_rfl, by (intro wz _; go_simp; try with_reducible rfl)⟩) (Ol.on hS0) ?_
        go_simp
        refine Ol.way_take (i := 6) (v := .agg R) rfl (by kernel_rfl) (by kernel_rfl) (by kernel_rfl) (fun _ _ _ h => h) (by decide) (by kernel_rfl) (by kernel_rfl) (Lr.yieldsIf_load_row (by kernel_rfl) 30 (.tmp 5) rfl r rfl 30 R _ (fun yy hh => hh.2) Try.underlying30 rfl HI.out) hS0 ?_
        go_simp
        refine Ol.way_plain (i := 7) (v := .agg V) rfl (by kernel_rfl) (by kernel_rfl) (by kernel_rfl) (fun _ _ _ h => h) (by decide) (by rw [HV.out]; exact yieldsIf_ent (by kernel_rfl) _ _ rfl k R HRS.out rfl rfl) (Ol.on hS0) ?_
        go_simp
        refine Ol.way_ready (rs := [8]) (by kernel_rfl) (by simp) ?_
        refine Ol.Each.cons rfl (fun K hK => ?_) Ol.Each.nil
        try go_simp
        go_wp2_with (go_at_call 32; refine HPC.out.mono ?_; rintro e y4 ⟨v', rfl, hE4, hb4⟩)
        obtain ⟨aN, cN, rfl, -⟩ := HOM.out.nval hE4
        have HE4 := Lib.hid hE4
        have HD4 := Lib.hid (HD3.out.on hb4)
        have HA4 := Lib.hid (HA3.out.trans (Aw.of hb4))
        refine Ol.keep hK _ _ (⟨(hb4.block h (lt_heap hS0.1)).trans hS0.1, (hb4.block r (lt_heap hS0.2)).trans hS0.2⟩) (fun hS8 => ?_)
        clear hK K
        refine Ol.way_plain (i := 9) (v := ?_) rfl (by kernel_rfl) (by kernel_rfl) (by kernel_rfl) (fun _ _ _ h => h) (by decide) (Or.inl ⟨by kernel_rfl, by (intro wz _; go_simp; try with_reducible rfl)⟩) (Ol.on hS8) ?_
        go_simp
        refine Ol.way_plain (i := 10) (v := ?_) rfl (by kernel_rfl) (by kernel_rfl) (by kernel_rfl) (fun _ _ _ h => h) (by decide) (Or.inl ⟨by kernel_rfl, by (intro wz _; go_simp; try with_reducible rfl)⟩) (Ol.on hS8) ?_
        go_simp
        refine Ol.way_ready (rs := [11]) (by kernel_rfl) (by simp) ?_
        refine Ol.Each.cons rfl (fun K hK => ?_) Ol.Each.nil
        have p0 := cell_of_row _ _ 2 _ _ _ HD4.out.dev
        simp at p0
        have fz := row_free' HD4.out.dev
        go_simp
        clear fz p0
        have HD5 := Lib.hid (show RAt (y4.setCell ⟨h, 2, none⟩ (.slice aN (putM k x s.M).length cN)) h aS cS aN cN S { s2 with M := putM k x s.M } by
          have e := HD4.out.setM (HE4.out.mono (Nat.zero_le _)) HOM.out
          rw [HM2.out] at e
          exact e)
        have HA5 := Lib.hid (HA4.out.set (b := h) (by simp) 2 (.slice aN (putM k x s.M).length cN))
        rw [HM2.out] at hE4 ⊢
        refine Ol.past hK (by kernel_rfl) _ _ ?_
        clear hK K
        refine Ol.way_done (by kernel_rfl) ?_ _
        go_wp2_with fail
        go_ret
        exact ⟨rfl, ⟨_, _, by rw [← HS2.out]; exact HD5.out⟩, HA5.out⟩
      · have hws : writeS s k x = stepS s := by unfold writeS; rw [if_neg (by simpa using ha), if_pos hs]
        have h5 : eStep s = 5 := by unfold eStep at hs ⊢; split at hs <;> simp_all
        have db : decide (eStep s = 0) = false := by simp [h5]
        rw [hew, hws, h5]
        clear hew hws hs ha
        go_enter Try.func21, Try.ntmps21
        go_upto_region 1 with fail
        rw [HY.out]
        go_wp2_with fail
        refine (rstep_any h aS cS aM cM S s y1 HD1.out HFI.out).mono ?_
        rintro e y2 ⟨rfl, hd2, ha2⟩
        rw [db]
        have HD2 := Lib.hid hd2
        have HA2 := Lib.hid (HA1.out.trans ha2)
        clear hd2 ha2
        go_wp2_with fail
        go_ret
        exact ⟨rfl, ⟨_, _, HD2.out⟩, HA2.out⟩
    · have ha : eAt s k = 1 := by unfold eAt; rw [hd, if_neg (by simp), if_neg hk]
      have he : eWrite s k = 1 := by unfold eWrite; rw [if_pos (by rw [ha]; decide), ha]
      have hw : writeS s k x = s := by unfold writeS; rw [if_pos (by rw [ha]; decide)]
      rw [he, hw]
      clear hd he ha hw
      by_cases h0 : k < 0
      · have d0 : decide (k < 0) = true := decide_eq_true h0
        clear hk
        go_enter Try.func21, Try.ntmps21
        go_upto_region 1 with fail
        rw [HY.out]
        go_wp2_with fail
        go_ret
        exact ⟨rfl, ⟨_, _, HD1.out⟩, HA1.out⟩
      · have d0 : decide (k < 0) = false := decide_eq_false h0
        have d1 : decide ((s.n : Int) ≤ k) = true := decide_eq_true (by omega)
        clear hk
        go_enter Try.func21, Try.ntmps21
        go_upto_region 1 with fail
        rw [HY.out]
        go_wp2_with fail
        go_ret
        exact ⟨rfl, ⟨_, _, HD1.out⟩, HA1.out⟩

end Go.Proofs.Ytjejghfeeonghaa.Dr
