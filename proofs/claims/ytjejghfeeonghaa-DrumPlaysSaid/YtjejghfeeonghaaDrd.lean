/- Layer 23: Write by the program. -/
import Derived.Test.YtjejghfeeonghaaDrc
import Derived.Test.YtjejghfeeonghaaLr
namespace Go.Proofs.Ytjejghfeeonghaa.Dr
open Go Go.RowKit Go.Maps Go.Proofs.Ytjejghfeeonghaa Go.Proofs.Ytjejghfeeonghaa.Au Go.Proofs.Ytjejghfeeonghaa.Re
set_option linter.unusedVariables false
set_option linter.unusedSimpArgs false

def eWrite (s : Dst) (k : Int) : Int := if eAt s k ≠ 0 then eAt s k else eStep s

def writeS (s : Dst) (k : Int) (x : Bk) : Dst := if eAt s k ≠ 0 then s else if eStep s ≠ 0 then stepS s else { stepS s with M := putM k x s.M }

theorem step_n (s : Dst) : (stepS s).n = s.n := by unfold stepS; split <;> rfl

theorem step_M (s : Dst) : (stepS s).M = s.M := by unfold stepS; split <;> rfl

theorem step_L (s : Dst) : (stepS s).L = s.L := by unfold stepS; split <;> rfl

theorem at_ok {s : Dst} {k : Int} (he : eAt s k = 0) : s.down = false ∧ 0 ≤ k ∧ k < s.n := by
  have hd : s.down = false := by
    cases hs : s.down
    · rfl
    · unfold eAt at he; rw [hs] at he; simp at he
  refine ⟨hd, ?_⟩
  unfold eAt at he
  rw [hd, if_neg (by simp)] at he
  by_cases hk : 0 ≤ k ∧ k < s.n
  · exact hk
  · rw [if_neg hk] at he; omega

/-- one block more is loose -/
theorem DAt.put {w w' : World} {g b m : Nat} {s : Dst} (h : DAt w g b m s) (k : Int) (x : Bk) (hk : 0 ≤ k ∧ k < s.n) (hx : x.length = 128) (ho : w'.ownsMap Try.prog 3 hR m 9001 (dm (putM k x s.M))) (hg : w.grownBy w' (some m)) : DAt w' g b m { s with M := putM k x s.M } := by
  have hn := h.ne
  have hl := h.lt
  have hm : ∀ p ∈ putM k x s.M, p.2.length = 128 ∧ 0 ≤ p.1 ∧ p.1 < s.n := fun p hp => by
    rcases put_mem hp with rfl | hp
    · exact ⟨hx, hk⟩
    · exact h.m128 p hp
  have hup := put_up h.up k x
  have hlen : (putM k x s.M).length ≤ s.n := by
    rcases rise_len (putM k x s.M) 0 s.n hup (fun p hp => (hm p hp).2) with e | e
    · omega
    · rw [e]; simp
  exact ⟨(hg.block g hl.1 (by simp; exact hn.2.1)).trans h.dev, (hg.block b hl.2.1 (by simp; exact hn.2.2)).trans h.las, own_tight ho (Nat.le_trans hlen h.n0.2), h.len, h.n0, h.b128, hm, hup, hlen⟩

theorem DAt.aw {w w' : World} {g b m : Nat} {s : Dst} {S : Nat → Prop} (h : DAt w g b m s) (ha : Aw S w w') (hg : S g) (hb : S b) (hm : S m) : DAt w' g b m s :=
  h.keep (ha.block _ hg h.lt.1) (ha.block _ hb h.lt.2.1) (ha.block _ hm h.lt.2.2)

theorem DAt.drew {w : World} {g b m : Nat} {s : Dst} (h : DAt w g b m s) : DAt w.drew g b m s := h.keep rfl rfl rfl

set_option maxHeartbeats 4000000 in
set_option maxRecDepth 100000 in
theorem write_any (g b m : Nat) (s : Dst) (w : World) (h : DAt w g b m s) (hf : Fine s) (k : Int) (x : Bk) (hx : x.length = 128) : Calls Try.prog 13 #[.pointer (some ⟨g, 0, none⟩), .int .i64 k, bv x] w fun e w' => e = .returned (.int .i64 (eWrite s k)) ∧ DAt w' g b m (writeS s k x) ∧ Aw (Off g b m) w w' := by
  have HD := Lib.hid h
  have HFI := Lib.hid hf
  have HX := Lib.hid hx
  obtain ⟨R, hRe⟩ : ∃ R, R = (vals x).toArray := ⟨_, rfl⟩
  have hRs : R.size = 128 := by rw [hRe]; simp [vals_length]; exact hx
  have HI := Lib.hid (infoTB hRs)
  have HRE := Lib.hid (show R = (vals x).toArray from hRe)
  rw [show bv x = .agg R by rw [hRe]; rfl]
  have hr1 := heap_alloc_last w (.cells R 36)
  have hb1 := Ve.below_n1 w (.cells R 36)
  have hgw := h.lt.1
  have hne := h.ne
  clear h hf hx hRe
  by_cases he : eAt s k = 0
  · have hew : eWrite s k = eStep s := by unfold eWrite; rw [if_neg (by simpa using he)]
    by_cases hs : eStep s = 0
    · have hws : writeS s k x = { stepS s with M := putM k x s.M } := by unfold writeS; rw [if_neg (by simpa using he), if_neg (by simpa using hs)]
      rw [hew, hws, hs]
      have HK := Lib.hid (at_ok he).2
      have HKW := Lib.hid (wf_key (at_ok he).2.1 (at_ok he).2.2 HD.out.n0.2)
      clear hew hws
      go_enter Try.func13, Try.ntmps13
      go_upto_region 1 with fail
      obtain ⟨y1, hy1⟩ : ∃ y, w.alloc (.cells R 36) = y := ⟨_, rfl⟩
      obtain ⟨r, hr⟩ : ∃ r, r = w.heap.size := ⟨_, rfl⟩
      rw [hy1] at hb1 hr1 ⊢
      rw [← hr] at hr1 ⊢
      have hgr : r ≠ g := by omega
      have HR := Lib.hid hr1
      have HA1 := Lib.hid (Aw.of (S := Off g b m) hb1)
      have HD1 := Lib.hid (HD.out.on hb1)
      clear hy1 hr hr1 hb1
      go_wp2_with fail
      refine (readyAt_any g b m s _ HD1.out k).mono ?_
      rintro e w1 ⟨rfl, rfl⟩
      rw [he]
      go_wp2_with fail
      refine (step_any g b m s _ HD1.out HFI.out).mono ?_
      rintro e y2 ⟨rfl, hd2, ha2⟩
      rw [hs]
      have HR2 := Lib.hid ((ha2.block r hgr (lt_heap HR.out)).trans HR.out)
      have HD2 := Lib.hid hd2
      have HA2 := Lib.hid (HA1.out.trans (ha2.weak (fun j hj => hj.1)))
      clear hd2 ha2 HR HD1 HA1
      go_wp2_with fail
      refine Ol.way_drew (S := fun y => y.heap[g]? = some (.cells #[.int .i64 (stepS s).n, .int .i64 (stepS s).steps, .int .i64 (stepS s).fuse, .bool (stepS s).down, .slice (some ⟨b, 0, none⟩) (stepS s).n (stepS s).n, .map (some m)] 57 (0, 0)) ∧ y.heap[r]? = some (.cells R 36 (0, 0))) (stop := 6) (by kernel_rfl) (⟨HD2.out.dev, HR2.out⟩) (fun hS0 => ?_)
      obtain ⟨y3, hy3⟩ : ∃ y, y2.drew = y := ⟨_, rfl⟩
      have HD3 := Lib.hid (show DAt y3 g b m (stepS s) by rw [← hy3]; exact HD2.out.drew)
      have HA3 := Lib.hid (show Aw (Off g b m) w y3 by rw [← hy3]; exact HA2.out.trans (Aw.of (Below.refl _ _).drew))
      rw [hy3] at hS0 ⊢
      clear hy3 HD2 HA2 HR2
      have HLO := Lib.hid (show y3.ownsMap Try.prog 3 hR m 9000 (dm s.M) by have e := HD3.out.loose; rwa [step_M] at e)
      refine Ol.way_plain (i := 0) (v := ?_) rfl (by kernel_rfl) (by kernel_rfl) (by kernel_rfl) (fun _ _ _ h => h) (by decide) (Or.inl ⟨by kernel_rfl, by (intro wz _; go_simp; try with_reducible rfl)⟩) (Ol.on hS0) ?_
      go_simp
      refine Ol.way_plain (i := 1) (v := ?_) rfl (by kernel_rfl) (by kernel_rfl) (by kernel_rfl) (fun _ _ _ h => h) (by decide) (Or.inl ⟨by kernel_rfl, by (intro wz _; go_simp; try with_reducible rfl)⟩) (Ol.on hS0) ?_
      go_simp
      refine Ol.way_plain (i := 2) (v := ?_) rfl (by kernel_rfl) (by kernel_rfl) (by kernel_rfl) (fun _ _ _ h => h) (by decide) (Or.inl ⟨by kernel_rfl, by (intro wz _; go_simp; try with_reducible rfl)⟩) (Ol.on hS0) ?_
      go_simp
      refine Ol.way_take (i := 3) (v := ?_) rfl (by kernel_rfl) (by kernel_rfl) (by kernel_rfl) (fun _ _ _ h => h) (by decide) (by kernel_rfl) (by kernel_rfl) (Or.inl ⟨by kernel_rfl, by (intro wz hSz; have c5 := cell_of_row _ _ 5 _ _ _ hSz.1; simp at c5; go_simp; try with_reducible rfl)⟩) hS0 ?_
      go_simp
      refine Ol.way_plain (i := 4) (v := ?_) rfl (by kernel_rfl) (by kernel_rfl) (by kernel_rfl) (fun _ _ _ h => h) (by decide) (Or.inl ⟨by kernel_rfl, by (intro wz _; go_simp; try with_reducible rfl)⟩) (Ol.on hS0) ?_
      go_simp
      refine Ol.way_take (i := 5) (v := .agg R) rfl (by kernel_rfl) (by kernel_rfl) (by kernel_rfl) (fun _ _ _ h => h) (by decide) (by kernel_rfl) (by kernel_rfl) (Lr.yieldsIf_load_row (by kernel_rfl) 36 (.tmp 5) rfl r rfl 36 R _ (fun yy hh => hh.2) Try.underlying36 rfl HI.out) hS0 ?_
      go_simp
      refine Ol.way_ready (rs := [6]) (by kernel_rfl) (by simp) ?_
      refine Ol.Each.cons rfl (fun K hK => ?_) Ol.Each.nil
      refine step_put rfl _ _ _ rfl m s.M rfl HLO.out k rfl HKW.out x (by rw [← HRE.out]; rfl) ?_
      intro y4 ho4 hg4
      have HD4 := Lib.hid (show DAt y4 g b m { stepS s with M := putM k x s.M } by
        have e := HD3.out.put k x (by rw [step_n]; exact HK.out) HX.out (by rw [step_M]; exact ho4) hg4
        rwa [step_M] at e)
      have HA4 := Lib.hid (HA3.out.step hg4 (fun q hq => by cases hq; exact fun e => e.2.2 rfl))
      clear ho4 hg4
      refine Ol.past hK (by kernel_rfl) _ _ ?_
      clear hK K
      refine Ol.way_done (by kernel_rfl) ?_ _
      go_wp2_with fail
      go_ret
      exact ⟨rfl, HD4.out, HA4.out⟩
    · have hws : writeS s k x = stepS s := by unfold writeS; rw [if_neg (by simpa using he), if_pos hs]
      rw [hew, hws]
      have hsn : (eStep s != 0) = true := by simp [hs]
      clear hew hws
      go_enter Try.func13, Try.ntmps13
      go_upto_region 1 with fail
      obtain ⟨y1, hy1⟩ : ∃ y, w.alloc (.cells R 36) = y := ⟨_, rfl⟩
      rw [hy1] at hb1 ⊢
      have HA1 := Lib.hid (Aw.of (S := Off g b m) hb1)
      have HD1 := Lib.hid (HD.out.on hb1)
      clear hy1 hr1 hb1
      go_wp2_with fail
      refine (readyAt_any g b m s _ HD1.out k).mono ?_
      rintro e w1 ⟨rfl, rfl⟩
      rw [he]
      go_wp2_with fail
      refine (step_any g b m s _ HD1.out HFI.out).mono ?_
      rintro e y2 ⟨rfl, hd2, ha2⟩
      have HD2 := Lib.hid hd2
      have HA2 := Lib.hid (HA1.out.trans (ha2.weak (fun j hj => hj.1)))
      clear hd2 ha2 HD1 HA1
      go_wp2_with fail
      go_ret
      exact ⟨rfl, HD2.out, HA2.out⟩
  · have hew : eWrite s k = eAt s k := by unfold eWrite; rw [if_pos he]
    have hws : writeS s k x = s := by unfold writeS; rw [if_pos he]
    have hen : (eAt s k != 0) = true := by simp [he]
    rw [hew, hws]
    clear hew hws
    go_enter Try.func13, Try.ntmps13
    go_upto_region 1 with fail
    obtain ⟨y1, hy1⟩ : ∃ y, w.alloc (.cells R 36) = y := ⟨_, rfl⟩
    rw [hy1] at hb1 ⊢
    have HA1 := Lib.hid (Aw.of (S := Off g b m) hb1)
    have HD1 := Lib.hid (HD.out.on hb1)
    clear hy1 hr1 hb1
    go_wp2_with fail
    refine (readyAt_any g b m s _ HD1.out k).mono ?_
    rintro e w1 ⟨rfl, rfl⟩
    go_wp2_with fail
    go_ret
    exact ⟨rfl, HD1.out, HA1.out⟩

theorem write_nil (k : Int) (x : Bk) (hx : x.length = 128) (w : World) : Calls Try.prog 13 #[.pointer none, .int .i64 k, bv x] w fun e w' => e = .returned (.int .i64 2) ∧ Below w.heap.size w w' := by
  obtain ⟨R, hRe⟩ : ∃ R, R = (vals x).toArray := ⟨_, rfl⟩
  rw [show bv x = .agg R by rw [hRe]; rfl]
  have hb1 := Ve.below_n1 w (.cells R 36)
  clear hRe
  go_enter Try.func13, Try.ntmps13
  go_wp2_with fail
  refine (readyAt_nil k _).mono ?_
  rintro e w1 ⟨rfl, rfl⟩
  go_wp2_with fail
  go_ret
  exact ⟨rfl, hb1⟩

end Go.Proofs.Ytjejghfeeonghaa.Dr
