/- Layer 23: a step done to both devices. -/
import Derived.Test.YtjejghfeeonghaaDru
import Derived.Test.YtjejghfeeonghaaDrj
namespace Go.Proofs.Ytjejghfeeonghaa.Dr
open Go Go.RowKit Go.Maps Go.Proofs.Ytjejghfeeonghaa Go.Proofs.Ytjejghfeeonghaa.Au Go.Proofs.Ytjejghfeeonghaa.Re
set_option linter.unusedVariables false
set_option linter.unusedSimpArgs false

/-- the document's device that goes with the program's -/
def tie (s : Dst) : Dst := { s with fuse := max s.fuse (-1) }

theorem tie_e (s : Dst) : eStep (tie s) = eStep s := by
  unfold eStep tie
  dsimp only
  split <;> split <;> omega

theorem tie_step (s : Dst) : stepS (tie s) = tie (stepS s) := by
  unfold stepS tie
  dsimp only
  by_cases h0 : s.fuse = 0
  · rw [if_pos (by omega), if_pos h0]
  · rw [if_neg (by omega), if_neg h0]
    by_cases h1 : 0 < s.fuse
    · rw [if_pos (by omega), if_pos h1]
      congr 1
      dsimp only
      omega
    · rw [if_neg (by omega), if_neg h1]

theorem tie_at (s : Dst) (k : Int) : eAt (tie s) k = eAt s k := rfl

theorem tie_ew (s : Dst) (k : Int) : eWrite (tie s) k = eWrite s k := by unfold eWrite; rw [tie_at, tie_e]

theorem tie_write (s : Dst) (k : Int) (x : Bk) : writeS (tie s) k x = tie (writeS s k x) := by
  unfold writeS
  rw [tie_at, tie_e, tie_step]
  split
  · rfl
  · split <;> rfl

theorem tie_es (s : Dst) : eSync (tie s) = eSync s := by unfold eSync; rw [tie_e]; rfl

theorem tie_sync (s : Dst) : syncS (tie s) = tie (syncS s) := by
  unfold syncS
  rw [tie_e, tie_step]
  show (if s.down = true then _ else _) = _
  split
  · rfl
  · split <;> rfl

theorem tie_crash (s : Dst) (K : List Int) : crashS (tie s) K = tie (crashS s K) := by
  unfold crashS startS tie
  rfl

theorem tie_read (s : Dst) (k : Int) : vRead (tie s) k = vRead s k := rfl

theorem fine_tie {s : Dst} (h : Fine s) : Fine (tie s) := by
  obtain ⟨h1, h2, h3, h4⟩ := h
  exact ⟨h1, h2, by show _ ≤ max s.fuse (-1); omega, by show max s.fuse (-1) < _; omega⟩

/-- both devices, apart -/
theorem off_h {w : World} {g b m h : Nat} {s t : Dst} {aS : Option Addr} {cS : Nat} {aM : Option Addr} {cM : Nat} {S : List E1} (hd : DAt w g b m s) (hr : RAt w h aS cS aM cM S t) : Off g b m h := by
  obtain ⟨es, clock, hm, -⟩ := hd.loose
  refine ⟨fun e => ?_, fun e => ?_, fun e => ?_⟩
  · subst e; have e := hr.dev; rw [hd.dev] at e; injection e with e; injection e with _ e _; exact absurd e (by decide)
  · subst e; have e := hr.dev; rw [hd.las] at e; injection e with e; injection e with _ e _; exact absurd e (by decide)
  · subst e; have e := hr.dev; rw [hm] at e; simp at e

theorem off_e {w : World} {g b m : Nat} {s : Dst} (hd : DAt w g b m s) (q : Nat) (cs : Array Value) (f : Nat × Nat) (e : w.heap[q]? = some (.cells cs 64 f)) : Off g b m q := by
  obtain ⟨es, clock, hm, -⟩ := hd.loose
  refine ⟨fun e2 => ?_, fun e2 => ?_, fun e2 => ?_⟩
  · subst e2; rw [hd.dev] at e; injection e with e; injection e with _ e _; exact absurd e (by decide)
  · subst e2; rw [hd.las] at e; injection e with e; injection e with _ e _; exact absurd e (by decide)
  · subst e2; rw [hm] at e; simp at e

/-- the document's device stays while the program's turns -/
theorem RAt.while {w w' : World} {g b m h : Nat} {s t : Dst} {aS : Option Addr} {cS : Nat} {aM : Option Addr} {cM : Nat} {S : List E1} (hr : RAt w h aS cS aM cM S t) (hd : DAt w g b m s) (ha : Aw (Off g b m) w w') : RAt w' h aS cS aM cM S t :=
  hr.aw ha (off_h hd hr) (off_e hd)

/-- and the other way -/
theorem DAt.while {w w' : World} {g b m h : Nat} {s t : Dst} {aS : Option Addr} {cS : Nat} {aM : Option Addr} {cM : Nat} {S : List E1} (hd : DAt w g b m s) (hr : RAt w h aS cS aM cM S t) (ha : Aw (fun j => j ≠ h) w w') : DAt w' g b m s := by
  have e := off_h hd hr
  exact hd.aw ha (Ne.symm e.1) (Ne.symm e.2.1) (Ne.symm e.2.2)

def Both (w : World) (g b m h : Nat) (s : Dst) : Prop := DAt w g b m s ∧ ∃ aS cS aM cM S, RAt w h aS cS aM cM S (tie s)

def Far (g b m h : Nat) (j : Nat) : Prop := Off g b m j ∧ j ≠ h

theorem Both.aw {w w' : World} {g b m h : Nat} {s : Dst} (hb : Both w g b m h s) (ha : Below w.heap.size w w') : Both w' g b m h s := by
  obtain ⟨hd, aS, cS, aM, cM, S, hr⟩ := hb
  exact ⟨hd.on ha, aS, cS, aM, cM, S, hr.on ha⟩

set_option maxHeartbeats 16000000 in
set_option maxRecDepth 100000 in
theorem does_any (g b m h : Nat) (s : Dst) (i : Nat) (hi : i ≤ 60) (o : DOp) (w : World) (hd : Both w g b m h s) (hn : Nums s i) (ho : OkOp w o) (hk60 : o.kl ≤ 60) (hK : KS w (Far g b m h) o.ka o.keep) : Calls Try.prog 9 #[.pointer (some ⟨g, 0, none⟩), .pointer (some ⟨h, 0, none⟩), .agg (OC o).toArray] w fun e w' => e = .returned (.bool true) ∧ (∃ s', Both w' g b m h s' ∧ Nums s' (i + 1)) ∧ Aw (Far g b m h) w w' := by
  obtain ⟨kd, ps, nm, bk, ka, kl, kc, K⟩ := o
  obtain ⟨hd, aS, cS, aM, cM, S, hr⟩ := hd
  have HNS := Lib.hid hn
  have HOK := Lib.hid ho
  have HOFF := Lib.hid (off_h hd hr)
  obtain ⟨LO, HLO_⟩ : ∃ L, Hid (L = OC ⟨kd, ps, nm, bk, ka, kl, kc, K⟩) := ⟨_, Lib.hid rfl⟩
  have hLl : LO.length = 132 := by rw [HLO_.out]; exact OC_len _ ho.b128
  rw [← HLO_.out]
  obtain ⟨R, HRR⟩ : ∃ R, Hid (R = LO.toArray) := ⟨_, Lib.hid rfl⟩
  rw [← HRR.out]
  have hr1 := heap_alloc_last w (.cells R 33 )
  have hb1 := Ve.below_n1 w (.cells R 33 )
  have HD := Lib.hid (hd.on hb1)
  have HR := Lib.hid (hr.on hb1)
  have hgw := hd.lt
  have hhw := lt_heap hr.dev
  obtain ⟨y1, hy1⟩ : ∃ y, w.alloc (.cells R 33 ) = y := ⟨_, rfl⟩
  have HY := Lib.hid hy1
  rw [hy1] at hr1 hb1 HD HR
  obtain ⟨q, hq⟩ : ∃ q, q = w.heap.size := ⟨_, rfl⟩
  have HQE := Lib.hid hq
  rw [← hq] at hr1
  have HQF := Lib.hid (show Far g b m h q from ⟨⟨by omega, by omega, by omega⟩, by omega⟩)
  have HQ := Lib.hid hr1
  have HA1 := Lib.hid (Aw.of (S := Far g b m h) hb1)
  have HKS := Lib.hid (show KS y1 (Far g b m h) ka K from ⟨hK.1, by
    rcases hK.2 with e | ⟨kb, ko, e1, e2, e3, e4⟩
    · exact .inl e
    · exact .inr ⟨kb, ko, e1, Nat.lt_of_lt_of_le e2 hb1.size, e3, fun j hj => (hb1.cell (p := ⟨kb, ko + j, none⟩) e2).trans (e4 j hj)⟩⟩)
  have HKL := Lib.hid ho.kl
  have HB8 := Lib.hid ho.b128
  have hOC : ∀ j v, LO[j]? = some v → y1.cell? ⟨q, j, none⟩ = some v := fun j v hv => by simp [World.cell?, HQ.out, HRR.out, hv]
  have c0 := hOC 0 (.int .i64 kd) (by rw [HLO_.out]; rfl)
  have c1 := hOC 1 (.int .i64 ps) (by rw [HLO_.out]; rfl)
  have c2 := hOC 2 (.int .i64 nm) (by rw [HLO_.out]; rfl)
  have c131 := hOC 131 (.slice ka kl kc) (by
    rw [HLO_.out]
    unfold OC
    rw [List.getElem?_append_right (by simp), show 131 - ([Value.int .i64 kd, .int .i64 ps, .int .i64 nm] : List Value).length = 128 by simp, List.getElem?_append_right (by rw [vals_length, HB8.out]; omega), vals_length, HB8.out]
    rfl)
  have HROW := Lib.hid (show ∀ W : World, W.heap[q]? = some (.cells R 33 (0, 0)) → W.rangeAt q 3 (vals bk) from fun W hW j v hv => by
    have e : LO[3 + j]? = some v := by
      have hj : j < (vals bk).length := (List.getElem?_eq_some_iff.1 hv).1
      rw [HLO_.out]
      unfold OC
      rw [List.getElem?_append_right (by simp), show 3 + j - ([Value.int .i64 kd, .int .i64 ps, .int .i64 nm] : List Value).length = j by simp, List.getElem?_append_left hj]
      exact hv
    simp [World.cell?, hW, HRR.out, e])
  have HC1 := Lib.hid (show ∀ W : World, W.heap[q]? = some (.cells R 33 (0, 0)) → W.cell? ⟨q, 1, none⟩ = some (.int .i64 ps) from fun W hW => by
    have e : LO[1]? = some (.int .i64 ps) := by rw [HLO_.out]; rfl
    simp [World.cell?, hW, HRR.out, e])
  have HC131 := Lib.hid (show ∀ W : World, W.heap[q]? = some (.cells R 33 (0, 0)) → W.cell? ⟨q, 131, none⟩ = some (.slice ka kl kc) from fun W hW => by
    have e := c131
    simp only [World.cell?, HQ.out] at e
    simp only [World.cell?, hW]
    exact e)
  have HC2 := Lib.hid (show ∀ W : World, W.heap[q]? = some (.cells R 33 (0, 0)) → W.cell? ⟨q, 2, none⟩ = some (.int .i64 nm) from fun W hW => by
    have e : LO[2]? = some (.int .i64 nm) := by rw [HLO_.out]; rfl
    simp [World.cell?, hW, HRR.out, e])
  have hkl60 : kl ≤ 60 := hk60
  clear hOC hd hr hn ho hr1 hb1 hy1 hq hLl hK hk60 hgw hhw
  by_cases k0 : kd = 0
  · have q0 : (kd == 0) = true := by simp [k0]
    have K0 := Lib.hid k0
    clear k0
    go_enter Try.func9, Try.ntmps9
    go_upto_region 1 with fail
    rw [HY.out, ← HQE.out]
    go_wp2_with fail
    obtain ⟨LB, HLB⟩ : ∃ L, Hid (L = vals bk) := ⟨_, Lib.hid rfl⟩
    have HIL := Lib.hid (show (Try.prog.info? 30).map (·.size) = some LB.length by rw [HLB.out, vals_length, HB8.out]; kernel_rfl)
    rw [← HLB.out] at HROW
    refine wp_region_held_drew (S := fun y => y.heap[q]? = some (.cells R 33 (0, 0))) (by kernel_rfl) (HQ.out) (fun hS0 => ?_)
    obtain ⟨y3, hy3⟩ : ∃ y, y1.drew = y := ⟨_, rfl⟩
    have HD3 := Lib.hid (show DAt y3 g b m s by rw [← hy3]; exact HD.out.drew)
    have HR3 := Lib.hid (show RAt y3 h aS cS aM cM S (tie s) by rw [← hy3]; exact HR.out.drew)
    have HA3 := Lib.hid (show Aw (Far g b m h) w y3 by rw [← hy3]; exact HA1.out.trans (Aw.of (Below.refl _ _).drew))
    rw [hy3] at hS0 ⊢
    clear hy3 c0 c1 c2 c131 HD HR HQ HY HKS
    have HWC := Lib.hid (show Calls Try.prog 13 #[.pointer (some ⟨g, 0, none⟩), .int .i64 ps, .agg LB.toArray] y3 fun e w' => e = .returned (.int .i64 (eWrite s ps)) ∧ DAt w' g b m (writeS s ps bk) ∧ Aw (Off g b m) y3 w' by
      rw [HLB.out]
      exact write_any g b m s y3 HD3.out (HNS.out.fine hi) ps bk HB8.out)
    have HWR := Lib.hid (fun (W : World) (hW : RAt W h aS cS aM cM S (tie s)) => show Calls Try.prog 21 #[.pointer (some ⟨h, 0, none⟩), .int .i64 ps, .agg LB.toArray] W fun e w' => e = .returned (.int .i64 (eWrite s ps)) ∧ (∃ aM cM, RAt w' h aS cS aM cM S (writeS (tie s) ps bk)) ∧ Aw (fun j => j ≠ h) W w' by
      rw [HLB.out, ← tie_ew]
      exact rwrite_any h aS cS aM cM S (tie s) W hW (fine_tie (HNS.out.fine hi)) ps bk HB8.out)
    refine wpAnyH_take (i := 0) (v := ?_) rfl (by kernel_rfl) (by kernel_rfl) (by kernel_rfl) (fun _ _ _ h => h) (Or.inl ⟨by kernel_rfl, by (intro wz hSz; go_simp; try with_reducible rfl)⟩) hS0 ?_
    go_simp
    refine wpAnyH_take (i := 1) (v := ?_) rfl (by kernel_rfl) (by kernel_rfl) (by kernel_rfl) (fun _ _ _ h => h) (Or.inl ⟨by kernel_rfl, by (intro wz hSz; go_simp; try with_reducible rfl)⟩) hS0 ?_
    go_simp
    refine wpAnyH_take (i := 2) (v := ?_) rfl (by kernel_rfl) (by kernel_rfl) (by kernel_rfl) (fun _ _ _ h => h) (Or.inl ⟨by kernel_rfl, by (intro wz hSz; have c1 := HC1.out _ hSz; go_simp; try with_reducible rfl)⟩) hS0 ?_
    go_simp
    refine wpAnyH_take (i := 3) (v := ?_) rfl (by kernel_rfl) (by kernel_rfl) (by kernel_rfl) (fun _ _ _ h => h) (Or.inl ⟨by kernel_rfl, by (intro wz hSz; go_simp; try with_reducible rfl)⟩) hS0 ?_
    go_simp
    refine wpAnyH_take (i := 4) (v := .agg LB.toArray) rfl (by kernel_rfl) (by kernel_rfl) (by kernel_rfl) (fun _ _ _ h => h) (yieldsIf_load_mid (by kernel_rfl) 30 (.tmp 14) rfl q 3 rfl LB _ (fun yy hh => HROW.out yy hh) Try.underlying30 rfl HIL.out) hS0 ?_
    go_simp
    refine wpAnyH_take (i := 6) (v := ?_) rfl (by kernel_rfl) (by kernel_rfl) (by kernel_rfl) (fun _ _ _ h => h) (Or.inl ⟨by kernel_rfl, by (intro wz hSz; go_simp; try with_reducible rfl)⟩) hS0 ?_
    go_simp
    refine wpAnyH_take (i := 7) (v := ?_) rfl (by kernel_rfl) (by kernel_rfl) (by kernel_rfl) (fun _ _ _ h => h) (Or.inl ⟨by kernel_rfl, by (intro wz hSz; go_simp; try with_reducible rfl)⟩) hS0 ?_
    go_simp
    refine wpAnyH_take (i := 8) (v := ?_) rfl (by kernel_rfl) (by kernel_rfl) (by kernel_rfl) (fun _ _ _ h => h) (Or.inl ⟨by kernel_rfl, by (intro wz hSz; have c1 := HC1.out _ hSz; go_simp; try with_reducible rfl)⟩) hS0 ?_
    go_simp
    refine wpAnyH_take (i := 9) (v := ?_) rfl (by kernel_rfl) (by kernel_rfl) (by kernel_rfl) (fun _ _ _ h => h) (Or.inl ⟨by kernel_rfl, by (intro wz hSz; go_simp; try with_reducible rfl)⟩) hS0 ?_
    go_simp
    refine wpAnyH_take (i := 10) (v := .agg LB.toArray) rfl (by kernel_rfl) (by kernel_rfl) (by kernel_rfl) (fun _ _ _ h => h) (yieldsIf_load_mid (by kernel_rfl) 30 (.tmp 20) rfl q 3 rfl LB _ (fun yy hh => HROW.out yy hh) Try.underlying30 rfl HIL.out) hS0 ?_
    go_simp
    refine wpAnyH_ready (rs := [5]) (by kernel_rfl) (by simp) ?_
    refine AllReadyH.cons rfl (fun K hK => ?_) AllReadyH.nil
    try go_simp
    have hRQ := hS0
    go_wp2_with (go_at_call 13; refine (HWC.out).mono ?_; rintro e y4 ⟨rfl, hd4, ha4⟩)
    have HD4 := Lib.hid hd4
    have HR4 := Lib.hid (HR3.out.while HD3.out ha4)
    have HA4 := Lib.hid (HA3.out.trans (ha4.weak fun j hj => hj.1))
    have hq4 := (ha4.block q HQF.out.1 (lt_heap hRQ)).trans hRQ
    have HW4 := Lib.hid (HWR.out y4 HR4.out)
    refine hK.out _ _ (hq4) (fun hS5 => ?_)
    clear hK K
    refine wpAnyH_ready (rs := [11]) (by kernel_rfl) (by simp) ?_
    refine AllReadyH.cons rfl (fun K hK => ?_) AllReadyH.nil
    try go_simp
    go_wp2_with (go_at_call 21; refine (HW4.out).mono ?_; rintro e y5 ⟨rfl, ⟨aM5, cM5, hr5⟩, ha5⟩)
    have HR5 := Lib.hid hr5
    have HD5 := Lib.hid (HD4.out.while HR4.out ha5)
    have HA5 := Lib.hid (HA4.out.trans (ha5.weak fun j hj => hj.2))
    have hq5 := (ha5.block q HQF.out.2 (lt_heap hq4)).trans hq4
    refine hK.out _ _ (hq5) (fun hS11 => ?_)
    clear hK K
    refine wpAnyH_take (i := 12) (v := ?_) rfl (by kernel_rfl) (by kernel_rfl) (by kernel_rfl) (fun _ _ _ h => h) (Or.inl ⟨by kernel_rfl, by (intro wz hSz; go_simp; try with_reducible rfl)⟩) hS11 ?_
    go_simp
    refine wpAnyH_take (i := 13) (v := ?_) rfl (by kernel_rfl) (by kernel_rfl) (by kernel_rfl) (fun _ _ _ h => h) (Or.inl ⟨by kernel_rfl, by (intro wz hSz; go_simp; try with_reducible rfl)⟩) hS11 ?_
    go_simp
    refine wpAnyH_done (by kernel_rfl) ?_ _
    go_wp2_with fail
    go_ret
    exact ⟨rfl, ⟨writeS s ps bk, ⟨HD5.out, _, _, _, _, _, by rw [← tie_write]; exact HR5.out⟩, HNS.out.write _ _⟩, HA5.out⟩
  · have q0 : (kd == 0) = false := by simp [k0]
    by_cases k1 : kd = 1
    · have q1 : (kd == 1) = true := by simp [k1]
      have K1 := Lib.hid k1
      clear k1
      go_enter Try.func9, Try.ntmps9
      go_upto_region 1 with fail
      rw [HY.out, ← HQE.out]
      go_wp2_with fail
      refine (sync_any g b m s y1 HD.out (HNS.out.fine hi)).mono ?_
      rintro e y4 ⟨rfl, hd4, ha4⟩
      have HD4 := Lib.hid hd4
      have HR4 := Lib.hid (HR.out.while HD.out ha4)
      have HA4 := Lib.hid (HA1.out.trans (ha4.weak fun j hj => hj.1))
      clear hd4 ha4 c0 c1 c2 c131
      go_wp2_with fail
      refine (rsync_any h aS cS aM cM S (tie s) y4 HR4.out (fine_tie (HNS.out.fine hi))).mono ?_
      rintro e y5 ⟨rfl, ⟨_, _, _, _, _, hr5⟩, ha5⟩
      have HR5 := Lib.hid hr5
      have HD5 := Lib.hid (HD4.out.while HR4.out ha5)
      have HA5 := Lib.hid (HA4.out.trans (ha5.weak fun j hj => hj.2))
      clear hr5 ha5
      rw [tie_es]
      go_wp2_with fail
      go_ret
      exact ⟨rfl, ⟨syncS s, ⟨HD5.out, _, _, _, _, _, by rw [← tie_sync]; exact HR5.out⟩, HNS.out.sync⟩, HA5.out⟩
    · have q1 : (kd == 1) = false := by simp [k1]
      by_cases k2 : kd = 2
      · have q2 : (kd == 2) = true := by simp [k2]
        have K2 := Lib.hid k2
        clear k2
        have HWN := Lib.hid HOK.out.wn
        have r5 := cell_of_row _ _ 5 _ _ _ HR.out.dev
        have r3 := cell_of_row _ _ 3 _ _ _ HR.out.dev
        simp at r5 r3
        have hdt : (tie s).down = s.down := rfl
        rw [hdt] at r5
        have fz := row_free' HR.out.dev
        cases hdn : s.down with
        | true =>
          rw [hdn] at r5
          have he : eReady s = 5 := by simp [eReady, hdn]
          go_enter Try.func9, Try.ntmps9
          go_upto_region 1 with fail
          rw [HY.out, ← HQE.out]
          go_wp2_with fail
          refine (fuse_any g b m s y1 HD.out nm).mono ?_
          rintro e y4 ⟨rfl, hd4, ha4⟩
          rw [he]
          rw [if_pos hdn] at hd4
          have HD4 := Lib.hid hd4
          have ha4' := ha4.weak (S := Off g b m) (fun j hj => hj.1)
          have HR4 := Lib.hid (HR.out.while HD.out ha4')
          have HA4 := Lib.hid (HA1.out.trans (ha4'.weak fun j hj => hj.1))
          clear hd4 ha4 ha4' c0 c1 c2 c131 r5 r3
          go_wp2_with fail
          go_ret
          exact ⟨rfl, ⟨s, ⟨HD4.out, _, _, _, _, _, HR4.out⟩, HNS.out.up⟩, HA4.out⟩
        | false =>
          rw [hdn] at r5
          have he : eReady s = 0 := by simp [eReady, hdn]
          obtain ⟨mx, hmx⟩ : ∃ z, z = max nm (-1) := ⟨_, rfl⟩
          have HMX := Lib.hid hmx
          have HR2 := Lib.hid (show RAt (y1.setCell ⟨h, 3, none⟩ (.int .i64 mx)) h aS cS aM cM S (tie { s with fuse := nm }) from HR.out.turn 3 (.int .i64 mx) rfl rfl rfl (by rw [hmx]; rfl))
          have HA2 := Lib.hid ((Aw.refl (fun j => j ≠ h) y1).set (b := h) (by simp) 3 (.int .i64 mx))
          have HD2 := Lib.hid (HD.out.while HR.out HA2.out)
          have HC22 := Lib.hid (show (y1.setCell ⟨h, 3, none⟩ (.int .i64 mx)).cell? ⟨q, 2, none⟩ = some (.int .i64 nm) from HC2.out _ ((HA2.out.block q HQF.out.2 (lt_heap HQ.out)).trans HQ.out))
          have HNF := Lib.hid (show Nums { s with fuse := nm } (i + 1) by have e := HNS.out.fuse nm HOK.out.wn; rw [hdn] at e; exact e)
          go_enter Try.func9, Try.ntmps9
          go_upto_region 1 with fail
          rw [HY.out, ← HQE.out]
          clear hmx
          go_upto_region 10 with fail
          rw [← HMX.out]
          obtain ⟨y2, hy2⟩ : ∃ y, y1.setCell ⟨h, 3, none⟩ (.int .i64 mx) = y := ⟨_, rfl⟩
          rw [hy2] at HR2 HA2 HD2 HC22 ⊢
          have c22 := HC22.out
          clear hy2 c0 c1 c2 c131 r5 r3 fz
          go_wp2_with fail
          refine (fuse_any g b m s y2 HD2.out nm).mono ?_
          rintro e y4 ⟨rfl, hd4, ha4⟩
          rw [he]
          rw [if_neg (by simp [hdn])] at hd4
          have HD4 := Lib.hid hd4
          have ha4' := ha4.weak (S := Off g b m) (fun j hj => hj.1)
          have HR4 := Lib.hid (HR2.out.while HD2.out ha4')
          have HA4 := Lib.hid (HA1.out.trans ((HA2.out.weak fun j hj => hj.2).trans (ha4'.weak fun j hj => hj.1)))
          clear hd4 ha4 ha4' c22
          go_wp2_with fail
          go_ret
          exact ⟨rfl, ⟨_, ⟨HD4.out, _, _, _, _, _, HR4.out⟩, HNF.out⟩, HA4.out⟩
      · have q2 : (kd == 2) = false := by simp [k2]
        by_cases k3 : kd = 3
        · have q3 : (kd == 3) = true := by simp [k3]
          have K3 := Lib.hid k3
          clear k3
          have HKR := Lib.hid (show KS y1 (fun j => j ≠ h) ka K from ⟨HKS.out.1, by
            rcases HKS.out.2 with e | ⟨kb, ko, e1, e2, e3, e4⟩
            · exact .inl e
            · exact .inr ⟨kb, ko, e1, e2, e3.2, e4⟩⟩)
          go_enter Try.func9, Try.ntmps9
          go_upto_region 1 with fail
          rw [HY.out, ← HQE.out]
          go_wp2_with fail
          refine (rcrash_any h aS cS aM cM S (tie s) y1 HR.out ka kl kc K HKL.out (by omega) HKR.out).mono ?_
          rintro e y4 ⟨rfl, ⟨_, _, _, _, _, hr4⟩, ha4⟩
          have HR4 := Lib.hid hr4
          have HD4 := Lib.hid (HD.out.while HR.out ha4)
          have HA4 := Lib.hid (HA1.out.trans (ha4.weak fun j hj => hj.2))
          have HKD := Lib.hid (show KS y4 (Off g b m) ka K from ⟨HKS.out.1, by
            rcases HKS.out.2 with e | ⟨kb, ko, e1, e2, e3, e4⟩
            · exact .inl e
            · exact .inr ⟨kb, ko, e1, Nat.lt_of_lt_of_le e2 ha4.size, e3.1, fun j hj => (ha4.cell (p := ⟨kb, ko + j, none⟩) e3.2 e2).trans (e4 j hj)⟩⟩)
          have c133 := HC131.out y4 ((ha4.block q HQF.out.2 (lt_heap HQ.out)).trans HQ.out)
          clear hr4 ha4 c0 c1 c2 c131
          go_wp2_with fail
          refine (crash_any g b m s y4 HD4.out ka kl kc K HKL.out (by omega) HKD.out).mono ?_
          rintro e y5 ⟨rfl, hd5, ha5⟩
          have HD5 := Lib.hid hd5
          have HR5 := Lib.hid (HR4.out.while HD4.out ha5)
          have HA5 := Lib.hid (HA4.out.trans (ha5.weak fun j hj => hj.1))
          clear hd5 ha5 c133
          go_wp2_with fail
          go_ret
          exact ⟨rfl, ⟨crashS s K, ⟨HD5.out, _, _, _, _, _, by rw [← tie_crash]; exact HR5.out⟩, HNS.out.crash _⟩, HA5.out⟩
        · have q3 : (kd == 3) = false := by simp [k3]
          go_enter Try.func9, Try.ntmps9
          go_upto_region 1 with fail
          rw [HY.out, ← HQE.out]
          go_wp2_with fail
          go_ret
          exact ⟨rfl, ⟨s, ⟨HD.out, _, _, _, _, _, HR.out⟩, HNS.out.up⟩, HA1.out⟩

end Go.Proofs.Ytjejghfeeonghaa.Dr
