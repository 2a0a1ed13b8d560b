/- Layer 23: the document's device in memory; its step, find, New. -/
import Derived.Test.YtjejghfeeonghaaDrp
import Derived.Test.YtjejghfeeonghaaDrc
namespace Go.Proofs.Ytjejghfeeonghaa.Dr
open Go Go.RowKit Go.Maps Go.Proofs.Ytjejghfeeonghaa Go.Proofs.Ytjejghfeeonghaa.Au Go.Proofs.Ytjejghfeeonghaa.Re
set_option linter.unusedVariables false
set_option linter.unusedSimpArgs false

/-- a list of entries of a device of n blocks -/
structure Okl (n : Nat) (L : List E1) : Prop where
  b128 : ∀ p ∈ L, p.2.length = 128
  key : ∀ p ∈ L, 0 ≤ p.1 ∧ p.1 < n
  up : L.Pairwise fun p q => p.1 < q.1

theorem Okl.len {n : Nat} {L : List E1} (h : Okl n L) : L.length ≤ n := by
  rcases rise_len L 0 n h.up h.key with e | e
  · omega
  · rw [e]; simp

theorem Okl.nil (n : Nat) : Okl n [] := ⟨by simp, by simp, by simp⟩

theorem Okl.put {n : Nat} {L : List E1} (h : Okl n L) {x : E1} (hx : x.2.length = 128) (hk : 0 ≤ x.1 ∧ x.1 < n) : Okl n (putM x.1 x.2 L) :=
  ⟨fun p hp => by rcases put_mem hp with rfl | hp; exact hx; exact h.b128 p hp, fun p hp => by rcases put_mem hp with rfl | hp; exact hk; exact h.key p hp, put_up h.up _ _⟩

/-- the document's device in block h: S what is sure; s as the program's: its L is what S says -/
structure RAt (w : World) (h : Nat) (aS : Option Addr) (cS : Nat) (aM : Option Addr) (cM : Nat) (S : List E1) (s : Dst) : Prop where
  dev : w.heap[h]? = some (.cells #[.int .i64 s.n, .slice aS S.length cS, .slice aM s.M.length cM, .int .i64 s.fuse, .int .i64 s.steps, .bool s.down] 60 (0, 0))
  sure : EB w 0 (.slice aS S.length cS) S
  loose : EB w 0 (.slice aM s.M.length cM) s.M
  okS : Okl s.n S
  okM : Okl s.n s.M
  n0 : 1 ≤ s.n ∧ s.n ≤ 8192
  len : s.L.length = s.n
  sur : ∀ i, i < s.n → s.L.getD i zB = (findM S (i : Int)).getD zB

theorem RAt.aw {w w' : World} {h : Nat} {aS : Option Addr} {cS : Nat} {aM : Option Addr} {cM : Nat} {S : List E1} {s : Dst} {T : Nat → Prop} (hr : RAt w h aS cS aM cM S s) (ha : Aw T w w') (hT : T h) (hE : ∀ q cs f, w.heap[q]? = some (.cells cs 64 f) → T q) : RAt w' h aS cS aM cM S s := by
  have key : ∀ q, q < w.heap.size → (∀ cs t f, w.heap[q]? = some (.cells cs t f) → t = 64) → (∃ cs f, w.heap[q]? = some (.cells cs 64 f)) → w'.heap[q]? = w.heap[q]? := fun q hq _ ⟨cs, f, e⟩ => ha.block q (hE q cs f e) hq
  have on : ∀ {c : Nat} {v : Value} {L : List E1}, EB w c v L → EB w' c v L := fun {c v L} h => by
    refine ⟨h.1, ?_⟩
    rcases h.2 with hn | ⟨g, cap, cur, hv, hbg, hg, rest⟩
    · exact .inl hn
    · exact .inr ⟨g, cap, cur, hv, hbg, (ha.block g (hE g _ _ hg) (lt_heap hg)).trans hg, rest⟩
  exact ⟨(ha.block h hT (lt_heap hr.dev)).trans hr.dev, on hr.sure, on hr.loose, hr.okS, hr.okM, hr.n0, hr.len, hr.sur⟩

theorem RAt.on {w w' : World} {h : Nat} {aS : Option Addr} {cS : Nat} {aM : Option Addr} {cM : Nat} {S : List E1} {s : Dst} (hr : RAt w h aS cS aM cM S s) (hb : Below w.heap.size w w') : RAt w' h aS cS aM cM S s :=
  ⟨(hb.block h (lt_heap hr.dev)).trans hr.dev, hr.sure.on fun q hq _ => hb.block q hq, hr.loose.on fun q hq _ => hb.block q hq, hr.okS, hr.okM, hr.n0, hr.len, hr.sur⟩

/-- no block of entries is the device's own -/
theorem RAt.ent_ne {w : World} {h : Nat} {aS : Option Addr} {cS : Nat} {aM : Option Addr} {cM : Nat} {S : List E1} {s : Dst} (hr : RAt w h aS cS aM cM S s) (q : Nat) (cs : Array Value) (f : Nat × Nat) (e : w.heap[q]? = some (.cells cs 64 f)) : q ≠ h := fun e2 => by
  subst e2
  rw [hr.dev] at e
  injection e with e
  injection e with _ e _
  exact absurd e (by decide)

/-- a cell of its own turned -/
theorem RAt.turn {w : World} {h : Nat} {aS : Option Addr} {cS : Nat} {aM : Option Addr} {cM : Nat} {S : List E1} {s s' : Dst} (hr : RAt w h aS cS aM cM S s) (j : Nat) (v : Value) (hn : s'.n = s.n) (hL : s'.L = s.L) (hM : s'.M = s.M)
    (hc : (#[.int .i64 s.n, .slice aS S.length cS, .slice aM s.M.length cM, .int .i64 s.fuse, .int .i64 s.steps, .bool s.down] : Array Value).setIfInBounds j v = #[.int .i64 s'.n, .slice aS S.length cS, .slice aM s'.M.length cM, .int .i64 s'.fuse, .int .i64 s'.steps, .bool s'.down]) :
    RAt (w.setCell ⟨h, j, none⟩ v) h aS cS aM cM S s' := by
  have on : ∀ {c : Nat} {v' : Value} {L : List E1}, EB w c v' L → EB (w.setCell ⟨h, j, none⟩ v) c v' L := fun {c v' L} hv => by
    refine ⟨hv.1, ?_⟩
    rcases hv.2 with hn | ⟨g, cap, cur, hv, hbg, hg, rest⟩
    · exact .inl hn
    · exact .inr ⟨g, cap, cur, hv, hbg, (Below.heap_setCell _ _ _ _ (hr.ent_ne g _ _ hg)).trans hg, rest⟩
  exact ⟨by rw [heap_setCell_same w h j _ _ v hr.dev, hc], on hr.sure, by rw [hM]; exact on hr.loose, by rw [hn]; exact hr.okS, by rw [hn, hM]; exact hr.okM, by rw [hn]; exact hr.n0, by rw [hL, hn]; exact hr.len, by rw [hn, hL]; exact hr.sur⟩

set_option maxHeartbeats 1000000 in
theorem rstep_any (h : Nat) (aS : Option Addr) (cS : Nat) (aM : Option Addr) (cM : Nat) (S : List E1) (s : Dst) (w : World) (hr : RAt w h aS cS aM cM S s) (hf : Fine s) : Calls Try.prog 31 #[.pointer (some ⟨h, 0, none⟩)] w fun e w' => e = .returned (.bool (decide (eStep s = 0))) ∧ RAt w' h aS cS aM cM S (stepS s) ∧ Aw (fun k => k ≠ h) w w' := by
  have HD := Lib.hid hr
  obtain ⟨n, st, fu, dn, L, M⟩ := s
  obtain ⟨f1, f2, f3, f4⟩ := hf
  dsimp only at f1 f2 f3 f4
  have c3 := cell_of_row _ _ 3 _ _ _ hr.dev
  have c4 := cell_of_row _ _ 4 _ _ _ hr.dev
  have c5 := cell_of_row _ _ 5 _ _ _ hr.dev
  simp at c3 c4 c5
  have fz := row_free' hr.dev
  clear hr
  by_cases h0 : fu = 0
  · have hs : stepS ⟨n, st, fu, dn, L, M⟩ = ⟨n, st, fu, true, L, M⟩ := by simp [stepS, h0]
    have he : decide (eStep ⟨n, st, fu, dn, L, M⟩ = 0) = false := by simp [eStep, h0]
    have HK := Lib.hid (show RAt (w.setCell ⟨h, 5, none⟩ (.bool true)) h aS cS aM cM S ⟨n, st, fu, true, L, M⟩ from HD.out.turn 5 (.bool true) rfl rfl rfl rfl)
    have HA := Lib.hid ((Aw.refl (fun k => k ≠ h) w).set (b := h) (by simp) 5 (.bool true))
    rw [hs, he]
    clear hs he
    have d0 : (fu == 0) = true := by simp [h0]
    have HZ := Lib.hid h0
    clear h0
    go_enter Try.func31, Try.ntmps31
    go_wp2_with fail
    go_ret
    exact ⟨rfl, HK.out, HA.out⟩
  · have d0 : (fu == 0) = false := by simp [h0]
    by_cases h1 : 0 < fu
    · have hs : stepS ⟨n, st, fu, dn, L, M⟩ = ⟨n, st + 1, fu - 1, dn, L, M⟩ := by simp [stepS, h0, h1]
      have he : decide (eStep ⟨n, st, fu, dn, L, M⟩ = 0) = true := by simp [eStep, h0]
      have HK1 := HD.out.turn (s' := ⟨n, st, fu - 1, dn, L, M⟩) 3 (.int .i64 (fu - 1)) rfl rfl rfl rfl
      have HK := Lib.hid (show RAt ((w.setCell ⟨h, 3, none⟩ (.int .i64 (fu - 1))).setCell ⟨h, 4, none⟩ (.int .i64 (st + 1))) h aS cS aM cM S ⟨n, st + 1, fu - 1, dn, L, M⟩ from HK1.turn 4 (.int .i64 (st + 1)) rfl rfl rfl rfl)
      have HA := Lib.hid (((Aw.refl (fun k => k ≠ h) w).set (b := h) (by simp) 3 (.int .i64 (fu - 1))).set (b := h) (by simp) 4 (.int .i64 (st + 1)))
      have w1 : IntKind.i64.wrap (fu - 1) = fu - 1 := by rw [IntKind.wrap_i64]; omega
      have w2 : IntKind.i64.wrap (st + 1) = st + 1 := by rw [IntKind.wrap_i64]; omega
      rw [hs, he]
      clear hs he HK1
      go_enter Try.func31, Try.ntmps31
      go_wp2_with fail
      go_ret
      exact ⟨rfl, HK.out, HA.out⟩
    · have hs : stepS ⟨n, st, fu, dn, L, M⟩ = ⟨n, st + 1, fu, dn, L, M⟩ := by simp [stepS, h0, h1]
      have he : decide (eStep ⟨n, st, fu, dn, L, M⟩ = 0) = true := by simp [eStep, h0]
      have HK := Lib.hid (show RAt (w.setCell ⟨h, 4, none⟩ (.int .i64 (st + 1))) h aS cS aM cM S ⟨n, st + 1, fu, dn, L, M⟩ from HD.out.turn 4 (.int .i64 (st + 1)) rfl rfl rfl rfl)
      have HA := Lib.hid ((Aw.refl (fun k => k ≠ h) w).set (b := h) (by simp) 4 (.int .i64 (st + 1)))
      have w2 : IntKind.i64.wrap (st + 1) = st + 1 := by rw [IntKind.wrap_i64]; omega
      rw [hs, he]
      clear hs he
      go_enter Try.func31, Try.ntmps31
      go_wp2_with fail
      go_ret
      exact ⟨rfl, HK.out, HA.out⟩

theorem find_none {L : List E1} {k : Int} {j : Nat} (h : findM (L.take j) k = none) {y : E1} (hy : L[j]? = some y) (hn : y.1 ≠ k) : findM (L.take (j + 1)) k = none := by
  unfold findM at h ⊢
  rw [Option.map_eq_none_iff] at h ⊢
  rw [List.take_add_one, hy, List.find?_append, h]
  simp [hn]

theorem find_some {L : List E1} {k : Int} {j : Nat} (h : findM (L.take j) k = none) {y : E1} (hy : L[j]? = some y) (hn : y.1 = k) : findM L k = some y.2 := by
  unfold findM at h ⊢
  rw [Option.map_eq_none_iff] at h
  have hj : j < L.length := (List.getElem?_eq_some_iff.1 hy).1
  have e : L = L.take j ++ y :: L.drop (j + 1) := by
    have e1 : L[j] = y := by rw [List.getElem?_eq_getElem hj] at hy; exact Option.some.inj hy
    rw [← e1, ← List.drop_eq_getElem_cons hj, List.take_append_drop]
  rw [e, List.find?_append, h]
  simp [hn]

theorem zeroVR (w : World) : (zeroValue 30).run Try.prog w = .ok (.agg ZB) w := by kernel_rfl

theorem infoT128 {R : Array Value} (h : R.size = 128) : (Try.prog.info? 30).map (·.size) = some R.size := by rw [h]; kernel_rfl

set_option maxHeartbeats 4000000 in
set_option maxRecDepth 100000 in
theorem rfind_any (a : Option Addr) (c : Nat) (L : List E1) (k : Int) (w : World) (hv : RL w a L) (hL : ∀ p ∈ L, p.2.length = 128) (hlen : L.length ≤ 10000) : Calls Try.prog 25 #[.slice a L.length c, .int .i64 k] w fun e w' => e = .returned (.tuple #[bv ((findM L k).getD zB), .bool (findM L k).isSome]) ∧ Below w.heap.size w w' := by
  obtain ⟨n, hn⟩ : ∃ n, n = L.length := ⟨_, rfl⟩
  rw [← hn]
  have HV := Lib.hid hv
  have HL := Lib.hid hL
  have HN := Lib.hid hn
  have hnb : n ≤ 10000 := by omega
  have hzv := zeroVR
  have hzs := ZB_size
  have hr1 := heap_alloc_last w (.cells ZB 30)
  have hb1 := Ve.below_n1 w (.cells ZB 30)
  clear hv hL hlen hn
  go_enter Try.func25, Try.ntmps25
  go_upto_region 1 with fail
  obtain ⟨y1, hy1⟩ : ∃ y, w.alloc (.cells ZB 30) = y := ⟨_, rfl⟩
  obtain ⟨r, hr⟩ : ∃ r, r = w.heap.size := ⟨_, rfl⟩
  have hrw : w.heap.size ≤ r := by omega
  rw [hy1] at hb1 hr1 ⊢
  rw [← hr] at hr1 ⊢
  have HR1 := Lib.hid hr1
  have HB1 := Lib.hid hb1
  clear hy1 hr1 hb1 hr
  go_wp2_with fail
  go_loopw [6] (fun s6 wr => ∃ j : Nat, j ≤ n ∧ s6 = .int .i64 j ∧ Hid (findM (L.take j) k = none) ∧ Hid (wr.heap[r]? = some (.cells ZB 30 (0, 0))) ∧ Hid (Below w.heap.size w wr)) (fun s6 _ => n - (intOf s6).toNat)
  case atStart => exact ⟨0, by omega, rfl, Lib.hid rfl, HR1, HB1⟩
  case round =>
    obtain ⟨j, hj, rfl, HF, HR, HB⟩ := hrel
    clear HR1 HB1
    by_cases hlt : j < n
    · have hlt' : (j : Int) < (n : Int) := by omega
      have hkL : j < L.length := by rw [← HN.out]; exact hlt
      obtain ⟨y, hyk⟩ : ∃ y, L[j]? = some y := ⟨_, List.getElem?_eq_getElem hkL⟩
      obtain ⟨yi, yb⟩ := y
      have hy128 : yb.length = 128 := HL.out _ (List.mem_of_getElem? hyk)
      obtain ⟨g, ha, hg, hrg⟩ := (show ∃ g, a = some ⟨g, 0, none⟩ ∧ g < w.heap.size ∧ w.rangeAt g (j * 129) (ent (yi, yb)) from by
        rcases HV.out with e | ⟨g, h1, h2, h3⟩
        · rw [e] at hkL; simp at hkL
        · exact ⟨g, h1, h2, h3 j _ hyk⟩)
      subst ha
      obtain ⟨RB, HRB⟩ : ∃ l, Hid (l = vals yb) := ⟨_, Lib.hid rfl⟩
      have hyl : RB.length = 128 := by rw [HRB.out, vals_length]; exact hy128
      have HIR := Lib.hid (show (Try.prog.info? 30).map (·.size) = some RB.length by rw [hyl]; kernel_rfl)
      have HIA := Lib.hid (show (Try.prog.info? 30).map (·.size) = some RB.toArray.size by simp only [List.size_toArray]; rw [hyl]; kernel_rfl)
      have HZZ := Lib.hid (show ZB.size = RB.toArray.size by simp only [List.size_toArray]; rw [hyl]; exact ZB_size)
      have HOO := Lib.hid (show RB.toArray.all (·.oneCell') = true by rw [HRB.out]; exact all_oneCell_toArray (vals_one _))
      have ky : wr.cell? ⟨g, j * 129, none⟩ = some (.int .i64 yi) := by
        have e := (HB.out.cell (p := ⟨g, j * 129 + 0, none⟩) hg).trans (hrg 0 (.int .i64 yi) rfl)
        simpa using e
      have HRG := Lib.hid (show wr.rangeAt g (j * 129 + 1) RB from fun i u hu => by
        have e := (HB.out.cell (p := ⟨g, j * 129 + (i + 1), none⟩) hg).trans (hrg (i + 1) u (by rw [HRB.out] at hu; exact hu))
        rw [show j * 129 + 1 + i = j * 129 + (i + 1) by omega]
        exact e)
      have HYK := Lib.hid hyk
      clear hrg hyk hy128 hyl hkL
      by_cases h1 : yi = k
      · have d1 : (yi == k) = true := by simp [h1]
        have HFS := Lib.hid (find_some HF.out HYK.out h1)
        clear h1
        have HQ := Lib.hid (setRow_heap wr r _ RB.toArray _ _ HR.out)
        have HQB := Lib.hid (below_setRow (g := r) HB.out hrw RB.toArray)
        go_wp2_with (first | (with_reducible refine wpList_load_mid rfl 30 (.tmp 23) rfl g (j * 129 + 1) rfl RB _ HRG.out Try.underlying30 rfl HIR.out ?_) | (refine Au.wpList_store_row rfl 30 (.tmp 4) (.tmp 24) rfl wr ZB RB.toArray r 30 HR.out rfl rfl HIA.out HZZ.out HOO.out ?_))
        obtain ⟨y9, hy9⟩ : ∃ y, wr.setRow r RB.toArray = y := ⟨_, rfl⟩
        rw [hy9] at HQ HQB ⊢
        refine bodyPost_ret (results_row2 rfl rfl rfl HQ.out Try.underlying30 rfl HIA.out) rfl ?_
        refine ⟨?_, HQB.out⟩
        rw [HFS.out, HRB.out]
        rfl
      · have d1 : (yi == k) = false := by simp [h1]
        have HFS := Lib.hid (find_none HF.out HYK.out h1)
        clear h1
        go_wp2_with fail
        go_roundw
        case rel => exact ⟨j + 1, by omega, by go_num, HFS, HR, HB⟩
        case measure => simp [intOf]; omega
    · have hge : ¬ (j : Int) < (n : Int) := by omega
      have HFN := Lib.hid (show findM L k = none by have e := HF.out; have hj2 : j = L.length := (by have := HN.out; omega); rw [hj2, List.take_length] at e; exact e)
      have HIA := Lib.hid (infoT128 ZB_size)
      have HOO := Lib.hid ZB_one
      have HQ := Lib.hid (setRow_heap wr r _ ZB _ _ HR.out)
      have HQB := Lib.hid (below_setRow (g := r) HB.out hrw ZB)
      go_wp2_with (refine Au.wpList_store_row rfl 30 (.tmp 4) (.tmp 25) rfl wr ZB ZB r 30 HR.out rfl rfl HIA.out rfl HOO.out ?_)
      obtain ⟨y9, hy9⟩ : ∃ y, wr.setRow r ZB = y := ⟨_, rfl⟩
      rw [hy9] at HQ HQB ⊢
      refine bodyPost_ret (results_row2 rfl rfl rfl HQ.out Try.underlying30 rfl HIA.out) rfl ?_
      refine ⟨?_, HQB.out⟩
      rw [HFN.out]
      rfl

end Go.Proofs.Ytjejghfeeonghaa.Dr
