/- Layer 23: the document's Sync. -/
import Derived.Test.YtjejghfeeonghaaDrs
namespace Go.Proofs.Ytjejghfeeonghaa.Dr
open Go Go.RowKit Go.Maps Go.Proofs.Ytjejghfeeonghaa Go.Proofs.Ytjejghfeeonghaa.Au Go.Proofs.Ytjejghfeeonghaa.Re
set_option linter.unusedVariables false
set_option linter.unusedSimpArgs false

theorem find_snoc (F : List E1) (y : E1) (i : Int) : findM (F ++ [y]) i = match findM F i with | some x => some x | none => if y.1 = i then some y.2 else none := by
  unfold findM
  rw [List.find?_append]
  cases F.find? fun p => decide (p.1 = i) with
  | some p => simp
  | none =>
    by_cases h : y.1 = i <;> simp [h]

theorem find_no {F : List E1} {k : Int} (h : ∀ p ∈ F, p.1 ≠ k) : findM F k = none := by
  unfold findM
  rw [Option.map_eq_none_iff, List.find?_eq_none]
  exact fun p hp => by simpa using h p hp

/-- one more is sure -/
theorem sur_step {n : Nat} {L : List Bk} {F S : List E1} {y : E1} (hl : L.length = n) (hF : ∀ p ∈ F, p.1 ≠ y.1) (h : ∀ i, i < n → (syncL F L).getD i zB = (findM S (i : Int)).getD zB) :
    ∀ i, i < n → (syncL (F ++ [y]) L).getD i zB = (findM (putM y.1 y.2 S) (i : Int)).getD zB := fun i hi => by
  have h1 := h i hi
  rw [sync_at _ _ _ (by omega)] at h1 ⊢
  rw [find_put, find_snoc]
  by_cases he : (i : Int) = y.1
  · rw [he, find_no hF]
    simp
  · rw [if_neg he, ← h1]
    cases findM F i with
    | some x => rfl
    | none => simp [Ne.symm he]

theorem sur_again {n : Nat} {L : List Bk} {F S : List E1} {y : E1} (hl : L.length = n) (hF : findM F y.1 = some y.2) (h : ∀ i, i < n → (syncL F L).getD i zB = (findM S (i : Int)).getD zB) :
    ∀ i, i < n → (syncL F L).getD i zB = (findM (putM y.1 y.2 S) (i : Int)).getD zB := fun i hi => by
  have h1 := h i hi
  rw [find_put]
  by_cases he : (i : Int) = y.1
  · rw [sync_at _ _ _ (by omega), he, hF]
    simp
  · rw [if_neg he]; exact h1

theorem take_snoc {M : List E1} {j : Nat} {y : E1} (h : M[j]? = some y) : M.take (j + 1) = M.take j ++ [y] := by rw [List.take_add_one, h]; rfl

theorem take_ne {M : List E1} (hu : M.Pairwise fun p q => p.1 < q.1) {j : Nat} {y : E1} (h : M[j]? = some y) : ∀ p ∈ M.take j, p.1 ≠ y.1 := fun p hp => by
  have hj : j < M.length := (List.getElem?_eq_some_iff.1 h).1
  obtain ⟨i, hi, rfl⟩ := List.getElem_of_mem hp
  have e := List.pairwise_iff_getElem.1 hu i j (by simp at hi; omega) hj (by simp at hi; omega)
  have e2 : M[j] = y := by rw [List.getElem?_eq_getElem hj] at h; exact Option.some.inj h
  rw [e2] at e
  rw [List.getElem_take]
  omega

def zSync (s : Dst) (j : Nat) : Dst := { stepS s with L := syncL (s.M.take j) s.L }

theorem zsync_0 (s : Dst) : zSync s 0 = stepS s := by
  unfold zSync
  rw [List.take_zero, sync_none, ← step_L s]

set_option maxHeartbeats 8000000 in
set_option maxRecDepth 100000 in
theorem rsync_any (h : Nat) (aS : Option Addr) (cS : Nat) (aM : Option Addr) (cM : Nat) (S : List E1) (s : Dst) (w : World) (hr : RAt w h aS cS aM cM S s) (hf : Fine s) : Calls Try.prog 22 #[.pointer (some ⟨h, 0, none⟩)] w fun e w' => e = .returned (.int .i64 (eSync s)) ∧ (∃ aS cS aM cM S, RAt w' h aS cS aM cM S (syncS s)) ∧ Aw (fun j => j ≠ h) w w' := by
  have HFI := Lib.hid hf
  have hhw := lt_heap hr.dev
  have HD1 := Lib.hid hr
  have c5 := cell_of_row _ _ 5 _ _ _ hr.dev
  simp at c5
  clear hr hf
  cases hd : s.down with
  | true =>
    have he : eSync s = 5 := by unfold eSync; rw [if_pos hd]
    have hw : syncS s = s := by unfold syncS; rw [if_pos hd]
    rw [he, hw]
    rw [hd] at c5
    clear hd he hw
    go_enter Try.func22, Try.ntmps22
    go_wp2_with fail
    go_ret
    exact ⟨rfl, ⟨_, _, _, _, _, HD1.out⟩, Aw.refl _ _⟩
  | false =>
    rw [hd] at c5
    have hes : eSync s = eStep s := by unfold eSync; rw [hd]; rfl
    by_cases hs : eStep s = 0
    · have hws : syncS s = { stepS s with L := syncL s.M s.L, M := [] } := by unfold syncS; rw [hd, if_neg (by simp), if_neg (by simpa using hs)]
      have db : decide (eStep s = 0) = true := by simp [hs]
      rw [hes, hws, hs]
      clear hes hws hd hs
      go_enter Try.func22, Try.ntmps22
      go_wp2_with fail
      refine (rstep_any h aS cS aM cM S s w HD1.out HFI.out).mono ?_
      rintro e y2 ⟨rfl, hd2, ha2⟩
      rw [db]
      rw [← zsync_0 s] at hd2
      have HZ2 := Lib.hid hd2
      have HA2 := Lib.hid ha2
      obtain ⟨n, hn⟩ : ∃ n, n = s.M.length := ⟨_, rfl⟩
      have HN := Lib.hid hn
      have HM2 := Lib.hid (show (stepS s).M = s.M from step_M s)
      have HMJ := Lib.hid (fun j => show (zSync s j).M = s.M from step_M s)
      have HLJ := Lib.hid (show ∀ j, (zSync s j).n = s.n from fun j => step_n s)
      have HLS := Lib.hid HD1.out.len
      have HUP := Lib.hid HD1.out.okM.up
      have hnb : n ≤ 10000 := by have e1 := HD1.out.okM.len; have e2 := HD1.out.n0; omega
      clear hd2 ha2 HD1 c5 hn db
      go_wp2_with fail
      go_loopw [3] (fun iv wr => ∃ (j : Nat) (aS' : Option Addr) (cS' : Nat) (S' : List E1), j ≤ n ∧ iv = .int .i64 j ∧ Hid (RAt wr h aS' cS' aM cM S' (zSync s j)) ∧ Hid (Aw (fun j => j ≠ h) w wr)) (fun iv _ => n - (intOf iv).toNat)
      case atStart => exact ⟨0, _, _, _, by omega, rfl, HZ2, HA2⟩
      case round =>
        clear HZ2 HA2
        obtain ⟨j, aS', cS', S', hj, rfl, HD, HA⟩ := hrel
        obtain ⟨z, hz⟩ : ∃ z, z = zSync s j := ⟨_, rfl⟩
        have HZ := Lib.hid hz
        have HZM := Lib.hid (show z.M = s.M by rw [hz]; exact HMJ.out j)
        have HZN := Lib.hid (show z.n = s.n by rw [hz]; exact HLJ.out j)
        have HNL := Lib.hid (show z.M.length = n by rw [HZM.out]; exact HN.out.symm)
        rw [← hz] at HD
        have HL := Lib.hid (show z.L = syncL (s.M.take j) s.L by rw [hz]; rfl)
        clear hz
        by_cases hlt : j < n
        · have hlt' : (j : Int) < (n : Int) := by omega
          have hjM : j < z.M.length := by rw [HNL.out]; exact hlt
          obtain ⟨y, hyj⟩ : ∃ y, z.M[j]? = some y := ⟨_, List.getElem?_eq_getElem hjM⟩
          have HYJ := Lib.hid hyj
          have HSU := Lib.hid (show ∀ i, i < z.n → (syncL (s.M.take (j + 1)) s.L).getD i zB = (findM (putM y.1 y.2 S') (i : Int)).getD zB by
            have e1 := hyj
            rw [HZM.out] at e1
            rw [take_snoc e1]
            refine sur_step (by rw [HZN.out]; exact HLS.out) (take_ne HUP.out e1) ?_
            rw [← HL.out]
            exact HD.out.sur)
          have HLL := Lib.hid (show (syncL (s.M.take (j + 1)) s.L).length = z.n by rw [sync_len, HZN.out]; exact HLS.out)
          clear hyj hjM
          have c2 := cell_of_row _ _ 2 _ _ _ HD.out.dev
          simp at c2
          rw [HNL.out] at c2
          go_wp2_with fail
          clear c2
          obtain ⟨aM', kM, e1, hRL⟩ := HD.out.loose.open HD.out.okM.b128
          cases e1
          obtain ⟨g, ha, hg, hrg⟩ := (show ∃ g, aM = some ⟨g, 0, none⟩ ∧ g < wr.heap.size ∧ wr.rangeAt g (j * 129) (ent y) from by
            rcases hRL with e | ⟨g, h1, h2, h3⟩
            · have e2 := HYJ.out; rw [e] at e2; simp at e2
            · exact ⟨g, h1, h2, h3 j y HYJ.out⟩)
          clear hRL
          subst ha
          have HY1 := Lib.hid (HD.out.okM.b128 y (List.mem_of_getElem? HYJ.out))
          have HYK := Lib.hid (HD.out.okM.key y (List.mem_of_getElem? HYJ.out))
          obtain ⟨yl, HYL⟩ : ∃ l, Hid (l = ent y) := ⟨_, Lib.hid rfl⟩
          have HIY := Lib.hid (infoEL (show yl.length = 129 by rw [HYL.out]; exact ent_len HY1.out))
          have HRG := Lib.hid (show wr.rangeAt g (j * 129) yl by rw [HYL.out]; exact hrg)
          have HDV := Lib.hid HD.out.dev
          rw [HNL.out] at HDV
          clear hrg
          refine Ol.way_drew (S := fun y => y.heap[h]? = some (.cells #[.int .i64 z.n, .slice aS' S'.length cS', .slice (some ⟨g, 0, none⟩) n cM, .int .i64 z.fuse, .int .i64 z.steps, .bool z.down] 60 (0, 0)) ∧ y.rangeAt g (j * 129) yl) (stop := 15) (by kernel_rfl) (⟨HDV.out, HRG.out⟩) (fun hS0 => ?_)
          obtain ⟨y3, hy3⟩ : ∃ y, wr.drew = y := ⟨_, rfl⟩
          have HD3 := Lib.hid (show RAt y3 h aS' cS' (some ⟨g, 0, none⟩) cM S' z by rw [← hy3]; exact HD.out.drew)
          have HA3 := Lib.hid (show Aw (fun j => j ≠ h) w y3 by rw [← hy3]; exact HA.out.trans (Aw.of (Below.refl _ _).drew))
          have hg3 : g < y3.heap.size := by rw [← hy3]; exact hg
          rw [hy3] at hS0 ⊢
          clear hy3 HD HA HDV hg HRG
          obtain ⟨aS2, kS, e1, hRL⟩ := HD3.out.sure.open HD3.out.okS.b128
          cases e1
          have HPC := Lib.hid (show Calls Try.prog 32 #[.slice aS' S'.length cS', .agg yl.toArray] y3 fun e w' => ∃ v', e = .returned v' ∧ EB w' y3.heap.size v' (putM y.1 y.2 S') ∧ Below y3.heap.size y3 w' by
            rw [HYL.out]
            exact put_any aS' cS' S' y y3 hRL HD3.out.okS.b128 (by have := HD3.out.okS.len; have := HD3.out.n0; omega) HY1.out HD3.out.okS.up)
          have HOM := Lib.hid (show Okl z.n (putM y.1 y.2 S') from HD3.out.okS.put (x := y) HY1.out HYK.out)
          clear hRL
          refine Ol.way_plain (i := 0) (v := ?_) rfl (by kernel_rfl) (by kernel_rfl) (by kernel_rfl) (fun _ _ _ h => h) (by decide) (Or.inl ⟨by kernel_rfl, by (intro wz _; go_simp; try with_reducible rfl)⟩) (Ol.on hS0) ?_
          go_simp
          refine Ol.way_plain (i := 1) (v := ?_) rfl (by kernel_rfl) (by kernel_rfl) (by kernel_rfl) (fun _ _ _ h => h) (by decide) (Or.inl ⟨by kernel_rfl, by (intro wz _; go_simp; try with_reducible rfl)⟩) (Ol.on hS0) ?_
          go_simp
          refine Ol.way_plain (i := 2) (v := ?_) rfl (by kernel_rfl) (by kernel_rfl) (by kernel_rfl) (fun _ _ _ h => h) (by decide) (Or.inl ⟨by kernel_rfl, by (intro wz _; go_simp; try with_reducible rfl)⟩) (Ol.on hS0) ?_
          go_simp
          refine Ol.way_plain (i := 3) (v := ?_) rfl (by kernel_rfl) (by kernel_rfl) (by kernel_rfl) (fun _ _ _ h => h) (by decide) (Or.inl ⟨by kernel_rfl, by (intro wz _; go_simp; try with_reducible rfl)⟩) (Ol.on hS0) ?_
          go_simp
          refine Ol.way_take (i := 4) (v := ?_) rfl (by kernel_rfl) (by kernel_rfl) (by kernel_rfl) (fun _ _ _ h => h) (by decide) (by kernel_rfl) (by kernel_rfl) (Or.inl ⟨by kernel_rfl, by (intro wz hSz; have c1 := cell_of_row _ _ 1 _ _ _ hSz.1; simp at c1; go_simp; try with_reducible rfl)⟩) hS0 ?_
          go_simp
          refine Ol.way_plain (i := 5) (v := ?_) rfl (by kernel_rfl) (by kernel_rfl) (by kernel_rfl) (fun _ _ _ h => h) (by decide) (Or.inl ⟨by kernel_rfl, by (intro wz _; go_simp; try with_reducible rfl)⟩) (Ol.on hS0) ?_
          go_simp
          refine Ol.way_plain (i := 6) (v := ?_) rfl (by kernel_rfl) (by kernel_rfl) (by kernel_rfl) (fun _ _ _ h => h) (by decide) (Or.inl ⟨by kernel_rfl, by (intro wz _; go_simp; try with_reducible rfl)⟩) (Ol.on hS0) ?_
          go_simp
          refine Ol.way_plain (i := 7) (v := ?_) rfl (by kernel_rfl) (by kernel_rfl) (by kernel_rfl) (fun _ _ _ h => h) (by decide) (Or.inl ⟨by kernel_rfl, by (intro wz _; go_simp; try with_reducible rfl)⟩) (Ol.on hS0) ?_
          go_simp
          refine Ol.way_take (i := 8) (v := ?_) rfl (by kernel_rfl) (by kernel_rfl) (by kernel_rfl) (fun _ _ _ h => h) (by decide) (by kernel_rfl) (by kernel_rfl) (Or.inl ⟨by kernel_rfl, by (intro wz hSz; have c2 := cell_of_row _ _ 2 _ _ _ hSz.1; simp at c2; go_simp; try with_reducible rfl)⟩) hS0 ?_
          go_simp
          refine Ol.way_plain (i := 9) (v := ?_) rfl (by kernel_rfl) (by kernel_rfl) (by kernel_rfl) (fun _ _ _ h => h) (by decide) (Or.inl ⟨by kernel_rfl, by (intro wz _; go_simp; try with_reducible rfl)⟩) (Ol.on hS0) ?_
          go_simp
          refine Ol.way_plain (i := 10) (v := ?_) rfl (by kernel_rfl) (by kernel_rfl) (by kernel_rfl) (fun _ _ _ h => h) (by decide) (Or.inl ⟨by kernel_rfl, by (intro wz _; go_simp; try with_reducible rfl)⟩) (Ol.on hS0) ?_
          go_simp
          refine Ol.way_take (i := 11) (v := .agg yl.toArray) rfl (by kernel_rfl) (by kernel_rfl) (by kernel_rfl) (fun _ _ _ h => h) (by decide) (by kernel_rfl) (by kernel_rfl) (yieldsIf_load_mid (by kernel_rfl) 64 (.tmp 32) rfl g (j * 129) rfl yl _ (fun yy hh => hh.2) Try.underlying64 rfl HIY.out) hS0 ?_
          go_simp
          refine Ol.way_ready (rs := [12]) (by kernel_rfl) (by simp) ?_
          refine Ol.Each.cons rfl (fun K hK => ?_) Ol.Each.nil
          try go_simp
          go_wp2_with (go_at_call 32; refine HPC.out.mono ?_; rintro e y4 ⟨v', rfl, hE4, hb4⟩)
          obtain ⟨aN, cN, rfl, -⟩ := HOM.out.nval hE4
          have HE4 := Lib.hid hE4
          have HD4 := Lib.hid (HD3.out.on hb4)
          have HA4 := Lib.hid (HA3.out.trans (Aw.of hb4))
          refine Ol.keep hK _ _ (⟨(hb4.block h (lt_heap hS0.1)).trans hS0.1, fun i u hu => (hb4.cell (p := ⟨g, j * 129 + i, none⟩) hg3).trans (hS0.2 i u hu)⟩) (fun hS8 => ?_)
          clear hK K
          refine Ol.way_plain (i := 13) (v := ?_) rfl (by kernel_rfl) (by kernel_rfl) (by kernel_rfl) (fun _ _ _ h => h) (by decide) (Or.inl ⟨by kernel_rfl, by (intro wz _; go_simp; try with_reducible rfl)⟩) (Ol.on hS8) ?_
          go_simp
          refine Ol.way_plain (i := 14) (v := ?_) rfl (by kernel_rfl) (by kernel_rfl) (by kernel_rfl) (fun _ _ _ h => h) (by decide) (Or.inl ⟨by kernel_rfl, by (intro wz _; go_simp; try with_reducible rfl)⟩) (Ol.on hS8) ?_
          go_simp
          refine Ol.way_ready (rs := [15]) (by kernel_rfl) (by simp) ?_
          refine Ol.Each.cons rfl (fun K hK => ?_) Ol.Each.nil
          have p0 := cell_of_row _ _ 1 _ _ _ HD4.out.dev
          simp at p0
          have fz := row_free' HD4.out.dev
          go_simp
          clear fz p0
          have HD5 := Lib.hid (show RAt (y4.setCell ⟨h, 1, none⟩ (.slice aN (putM y.1 y.2 S').length cN)) h aN cN (some ⟨g, 0, none⟩) cM (putM y.1 y.2 S') { z with L := syncL (s.M.take (j + 1)) s.L } from HD4.out.setS (HE4.out.mono (Nat.zero_le _)) HOM.out _ HLL.out HSU.out)
          have HA5 := Lib.hid (HA4.out.set (b := h) (by simp) 1 (.slice aN (putM y.1 y.2 S').length cN))
          refine Ol.past hK (by kernel_rfl) _ _ ?_
          clear hK K
          refine Ol.way_done (by kernel_rfl) ?_ _
          go_wp2_with fail
          go_roundw
          case rel => exact ⟨j + 1, aN, cN, _, by omega, by go_num, Lib.hid (by have e := HD5.out; rw [HZ.out] at e; exact e), HA5⟩
          case measure => simp [intOf]; omega
        · have hge : ¬ (j : Int) < (n : Int) := by omega
          have hjn : j = s.M.length := by have := HN.out; omega
          have HJN := Lib.hid hjn
          have c2 := cell_of_row _ _ 2 _ _ _ HD.out.dev
          simp at c2
          rw [HNL.out] at c2
          have fz := row_free' HD.out.dev
          have HE := Lib.hid (show RAt (wr.setCell ⟨h, 2, none⟩ (.slice none 0 0)) h aS' cS' none 0 S' { stepS s with L := syncL s.M s.L, M := [] } by
            have e := HD.out.setM (a := none) (c := 0) (M := []) (World.ownsRow_nil _ _ _ _) (Okl.nil _)
            have e2 : ({ z with M := [] } : Dst) = { stepS s with L := syncL s.M s.L, M := [] } := by
              rw [HZ.out]; unfold zSync; rw [HJN.out, List.take_length]
            rw [e2] at e
            exact e)
          have HAE := Lib.hid (HA.out.set (b := h) (by simp) 2 (.slice none 0 0))
          clear hjn
          go_wp2_with fail
          go_ret
          exact ⟨rfl, ⟨_, _, _, _, _, HE.out⟩, HAE.out⟩
    · have hws : syncS s = stepS s := by unfold syncS; rw [hd, if_neg (by simp), if_pos hs]
      have h5 : eStep s = 5 := by unfold eStep at hs ⊢; split at hs <;> simp_all
      have db : decide (eStep s = 0) = false := by simp [h5]
      rw [hes, hws, h5]
      clear hes hws hs hd
      go_enter Try.func22, Try.ntmps22
      go_wp2_with fail
      refine (rstep_any h aS cS aM cM S s w HD1.out HFI.out).mono ?_
      rintro e y2 ⟨rfl, hd2, ha2⟩
      rw [db]
      have HD2 := Lib.hid hd2
      have HA2 := Lib.hid ha2
      clear hd2 ha2
      go_wp2_with fail
      go_ret
      exact ⟨rfl, ⟨_, _, _, _, _, HD2.out⟩, HA2.out⟩

end Go.Proofs.Ytjejghfeeonghaa.Dr
