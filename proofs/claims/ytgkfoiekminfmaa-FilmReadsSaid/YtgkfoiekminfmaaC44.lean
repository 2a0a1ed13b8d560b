/- Films, sheets, read off bytes, by the document: DecodeSheet, Decode. -/
import Derived.Test.YtgkfoiekminfmaaC43
import Derived.Test.YtgkfoiekminfmaaC36
namespace Go.Proofs.Ytgkfoiekminfmaa.Fm
open Go Go.RowKit Go.Proofs.Ytgkfoiekminfmaa Go.Proofs.Ytgkfoiekminfmaa.Rp Go.Proofs.Ytgkfoiekminfmaa.Re Go.Proofs.Ytgkfoiekminfmaa.Au
set_option linter.unusedVariables false
set_option linter.unusedSimpArgs false

theorem bs_lt {w : World} {a : Option Addr} {n c : Nat} {p : List UInt8} (h : Bs w (.slice a n c) p) {ad : Addr} (ha : a = some ad) (hp : p ≠ []) : ad.block < w.heap.size := by
  rcases h with ⟨h, rfl⟩ | ⟨ad', cap, h, hc⟩
  · exact absurd rfl hp
  · cases h
    cases ha
    match p, hp with
    | b0 :: r, _ =>
      have := hc 0 (.int .u8 (b0.toNat : Int)) (by simp [vals])
      have := World.block_lt_of_cell? w _ this
      rwa [ad_block] at this

theorem end_none {t : St} (h : (endS t).2 = 0) : t.2 = 0 := by
  unfold endS at h
  split at h
  · rename_i hl
    by_cases h0 : t.2 = 0
    · exact h0
    · unfold leftS at hl; rw [if_pos h0] at hl; omega
  · exact h

theorem fT0_ok {s : St} (h : (fT0 s).2 = 0) : okSz (szW s) (szH s) := by
  refine Classical.byContradiction fun hn => ?_
  have e : szS s = failS (szT s) 10 := by unfold szS; rw [if_neg hn]
  have e2 : (szS s).2 ≠ 0 := by
    rw [e]; unfold failS
    split
    · simp
    · assumption
  unfold fT0 at h
  rw [it_stay tri_keep e2] at h
  exact e2 h

theorem fT0_sz {s : St} (h : (fT0 s).2 = 0) : fW s = szW s ∧ fH s = szH s := by
  have := fT0_ok h
  unfold fW fH
  rw [if_pos this, if_pos this]
  exact ⟨rfl, rfl⟩

set_option maxHeartbeats 8000000 in
set_option maxRecDepth 100000 in
theorem ddecsheet_ok (l : List UInt8) (ba : Option Addr) (bn bc : Nat) (W H : Int) (n : Nat) (M0 : Nat → Int) (t0 : St) (w : World) (hv : Bs w (.slice ba bn bc) l) (hbn : bn ≤ 140737488355328) (C : ∀ (g N : Nat) (X : World), MAt g N ba bn bc l (l, 0) X → Calls Try.prog 43 #[.pointer (some ⟨g, 0, none⟩)] X fun e' w' => (∃ (a : Option Addr) (k c : Nat), e' = .returned (.agg #[.int .i64 W, .int .i64 H, .slice a k c]) ∧ RwP (fun b => X.heap.size ≤ b) 3 w' a k M0 ∧ (t0.2 = 0 → k = n)) ∧ MAt g N ba bn bc l t0 w' ∧ Aft g X.heap.size X w') (er : Int) (hE : er = (endS t0).2) (h0 : er = 0) : Calls Try.prog 21 #[.slice ba bn bc] w fun e' w' => (∃ a c, e' = .returned (.tuple #[.agg #[.int .i64 W, .int .i64 H, .slice a n c], .int .i64 0]) ∧ RwP (fun b => w.heap.size ≤ b) 3 w' a n M0) ∧ Below w.heap.size w w' := by
  have HV := Lib.hid hv
  have HC := Lib.hid C
  clear hv C
  have HE := Lib.hid hE
  clear hE
  have HT0 := Lib.hid (end_none (t := t0) (by rw [← HE.out]; exact h0))
  go_enter Try.func21, Try.ntmps21
  go_upto_region 1 with fail
  have hR := Au.rows1 w (.cells #[.int .i64 0, .int .i64 0, .slice none 0 0] 24)
  have HUx := Ve.below_n1 w (.cells #[.int .i64 0, .int .i64 0, .slice none 0 0] 24)
  obtain ⟨y0, hy0⟩ : ∃ y0, w.alloc (.cells #[.int .i64 0, .int .i64 0, .slice none 0 0] 24) = y0 := ⟨_, rfl⟩
  rw [hy0] at hR HUx ⊢
  clear hy0
  have HU0 := Lib.hid HUx
  clear HUx
  have hr0_0 := hR
  clear hR
  have hlz := lt_heap hr0_0
  have hz0 := HU0.out.size
  go_upto_region 2 with fail
  have hb1 := Ve.below_n1 y0 (.cells #[.slice ba bn bc, .int .i64 0, .int .i64 0] 97)
  have hN := heap_alloc_last y0 (.cells #[.slice ba bn bc, .int .i64 0, .int .i64 0] 97)
  obtain ⟨y1, hy1⟩ : ∃ y, y0.alloc (.cells #[.slice ba bn bc, .int .i64 0, .int .i64 0] 97) = y := ⟨_, rfl⟩
  have hs1 : y1.heap.size = y0.heap.size + 1 := by rw [← hy1]; simp
  rw [hy1] at hb1 hN ⊢
  clear hy1
  have hl1_0 := lt_heap hr0_0
  have hr1_0 := (hb1.block _ (lt_heap hr0_0)).trans hr0_0
  have HU1 := Lib.hid (HU0.out.trans (hb1.mono HU0.out.size))
  clear hr0_0 HU0
  have hr1_1 := hN
  clear hN
  obtain ⟨N, hN⟩ : ∃ N, N = w.heap.size := ⟨_, rfl⟩
  obtain ⟨g, hg⟩ : ∃ g, g = y0.heap.size := ⟨_, rfl⟩
  rw [← hg] at hr1_1 ⊢
  have hgw : w.heap.size < g := by omega
  have hgl0 : g < y1.heap.size := lt_heap hr1_1
  have HP1 := Lib.hid (show MAt g N ba bn bc l (l, 0) y1 from ⟨by omega, hgl0, fun j => by simp [World.frozen?, hr1_1], cell_of_row _ _ 0 _ _ _ hr1_1, cell_of_row _ _ 2 _ _ _ hr1_1, HV.out.on HU1.out, hbn, fun ad e he => by have := bs_lt HV.out e he; omega, 0, Nat.zero_le _, by simp, cell_of_row _ _ 1 _ _ _ hr1_1⟩)
  clear hg hN hs1
  have HUb := Lib.hid (Aft.of (g := g) (base := w.heap.size) HU1.out)
  clear HU1
  have HU1 := HUb
  clear HUb
  have hz1 := HU1.out.size
  have c0_0 := cell_of_row _ _ 0 _ _ _ hr1_0
  have c0_1 := cell_of_row _ _ 1 _ _ _ hr1_0
  have c0_2 := cell_of_row _ _ 2 _ _ _ hr1_0
  simp at c0_0 c0_1 c0_2
  go_wp2_with fail
  refine (HC.out g N _ HP1.out).mono ?_
  rintro e y2 ⟨⟨al, kl, cl, rfl, hla, hkl⟩, hp2, hb2⟩
  have HP2 := Lib.hid hp2
  have hz2 := hb2.size
  clear c0_0 c0_1 c0_2
  have hr2_0 := (hb2.block _ (lt_heap hr1_0) (lt_heap hr1_0) (by omega)).trans hr1_0
  have HU2 := Lib.hid (HU1.out.trans (hb2.mono HU1.out.size))
  clear hr1_0 HU1
  have HKL := Lib.hid hkl
  clear hkl
  obtain ⟨q, hq⟩ : ∃ q, q = y2.heap.size := ⟨_, rfl⟩
  have HLl2 := Lib.hid (lq_of (lo := g + 1) (q := q) hla (by decide) (by omega) (by omega))
  clear hla
  go_upto_region 3 with fail
  have hb3 := Ve.below_n1 y2 (.cells #[.int .i64 W, .int .i64 H, .slice al kl cl] 24)
  have hp3 := HP2.out.new hb3
  have hb3 := Aft.of (g := g) (base := y2.heap.size) hb3
  have hN := heap_alloc_last y2 (.cells #[.int .i64 W, .int .i64 H, .slice al kl cl] 24)
  obtain ⟨y3, hy3⟩ : ∃ y, y2.alloc (.cells #[.int .i64 W, .int .i64 H, .slice al kl cl] 24) = y := ⟨_, rfl⟩
  have hs3 : y3.heap.size = y2.heap.size + 1 := by rw [← hy3]; simp
  rw [hy3] at hb3 hN hp3 ⊢
  clear hy3
  have HP3 := Lib.hid hp3
  have hz3 := hb3.size
  have hl3_0 := lt_heap hr2_0
  have hr3_0 := (hb3.block _ (lt_heap hr2_0) (lt_heap hr2_0) (by omega)).trans hr2_0
  have HU3 := Lib.hid (HU2.out.trans (hb3.mono HU2.out.size))
  have HLl3 := Lib.hid (HLl2.out.aft hb3 (by omega))
  clear HLl2
  clear hr2_0 HU2
  have hr3_1 := hN
  clear hN
  rw [← hq] at hr3_1 ⊢
  have hqa : q ≤ y2.heap.size := by omega
  have hqw : w.heap.size < q := by omega
  have hqg : g < q := by omega
  have hql := lt_heap hr3_1
  clear hq hs3
  have c1_0 := cell_of_row _ _ 0 _ _ _ hr3_1
  have c1_1 := cell_of_row _ _ 1 _ _ _ hr3_1
  have c1_2 := cell_of_row _ _ 2 _ _ _ hr3_1
  simp at c1_0 c1_1 c1_2
  go_wp2_with fail
  refine ((show Calls _ _ _ _ (fun e w' => e = .returned (.int .i64 er) ∧ MAt g N ba bn bc l (endS t0) w' ∧ Aft g _ _ w') from by rw [HE.out]; exact mend_any g N ba bn bc l t0 _ HP3.out)).mono ?_
  rintro e y4 ⟨rfl, hp4, hb4⟩
  have HP4 := Lib.hid hp4
  have hz4 := hb4.size
  clear c1_0 c1_1 c1_2
  have hr4_0 := (hb4.block _ (lt_heap hr3_0) (lt_heap hr3_0) (by omega)).trans hr3_0
  have hr4_1 := (hb4.block _ (lt_heap hr3_1) (lt_heap hr3_1) (by omega)).trans hr3_1
  have HU4 := Lib.hid (HU3.out.trans (hb4.mono HU3.out.size))
  have HLl4 := Lib.hid (HLl3.out.aft hb4 (by omega))
  clear HLl3
  clear hr3_0 hr3_1 HU3
  subst h0
  have hkn := HKL.out HT0.out
  subst hkn
  have c1_0 := cell_of_row _ _ 0 _ _ _ hr4_1
  have c1_1 := cell_of_row _ _ 1 _ _ _ hr4_1
  have c1_2 := cell_of_row _ _ 2 _ _ _ hr4_1
  simp at c1_0 c1_1 c1_2
  go_upto_region 6 with fail
  have hHr := Lib.hid hr4_0
  have hHi := Lib.hid (show (Try.prog.info? 24).map (·.size) = some (#[.int .i64 W, .int .i64 H, .slice al kl cl] : Array Value).size by kernel_rfl)
  have hHz := Lib.hid (show (#[.int .i64 0, .int .i64 0, .slice none 0 0] : Array Value).size = (#[.int .i64 W, .int .i64 H, .slice al kl cl] : Array Value).size from rfl)
  have hHo := Lib.hid (show (#[.int .i64 W, .int .i64 H, .slice al kl cl] : Array Value).all (·.oneCell') = true by simp [Value.oneCell'])
  go_wp2_with (first | (refine Au.wpList_store_row rfl 24 (.tmp 2) (.tmp 18) rfl y4 #[.int .i64 0, .int .i64 0, .slice none 0 0] #[.int .i64 W, .int .i64 H, .slice al kl cl] (w.heap.size) 24 hHr.out rfl rfl hHi.out hHz.out hHo.out ?_))
  clear c1_0 c1_1 c1_2
  clear hHr hHi hHz hHo
  have hN := setRow_heap _ (w.heap.size) _ #[.int .i64 W, .int .i64 H, .slice al kl cl] _ _ hr4_0
  have hsz := HU4.out.size
  have HUx := aft_setRow (k := w.heap.size) HU4.out (by omega) (by omega) #[.int .i64 W, .int .i64 H, .slice al kl cl]
  have hO : ∀ kk, kk ≠ w.heap.size → (y4.setRow (w.heap.size) #[.int .i64 W, .int .i64 H, .slice al kl cl]).heap[kk]? = y4.heap[kk]? := fun kk hk => setRow_other _ _ _ _ hk
  obtain ⟨y5, hy5⟩ : ∃ y, y4.setRow (w.heap.size) #[.int .i64 W, .int .i64 H, .slice al kl cl] = y := ⟨_, rfl⟩
  rw [hy5] at hN HUx hO ⊢
  clear hy5 hsz
  have HU5 := Lib.hid HUx
  clear HUx
  have hz5 := HU5.out.size
  have hr5_0 := hN
  have hr5_1 := (hO _ (by omega)).trans hr4_1
  have YHLl := Lib.hid ((Lq.heap (w' := y5) HLl4.out (fun k h => hO k (by omega))).low (b2 := w.heap.size) (by omega))
  clear hN hO
  clear hr4_0 hr4_1 HU4
  go_wp2
  skip
  exact bodyPost_ret (v := .tuple #[.agg #[.int .i64 W, .int .i64 H, .slice al kl cl], .int .i64 0]) (results_row2 (t := 24) Try.results21 rfl rfl hr5_0 Try.underlying24 rfl (by kernel_rfl)) rfl ⟨⟨al, cl, rfl, YHLl.out⟩, HU5.out.below (by omega) (Nat.le_refl _) (Nat.le_refl _)⟩

set_option maxHeartbeats 8000000 in
set_option maxRecDepth 100000 in
theorem ddecsheet_no (l : List UInt8) (ba : Option Addr) (bn bc : Nat) (W H : Int) (n : Nat) (M0 : Nat → Int) (t0 : St) (w : World) (hv : Bs w (.slice ba bn bc) l) (hbn : bn ≤ 140737488355328) (C : ∀ (g N : Nat) (X : World), MAt g N ba bn bc l (l, 0) X → Calls Try.prog 43 #[.pointer (some ⟨g, 0, none⟩)] X fun e' w' => (∃ (a : Option Addr) (k c : Nat), e' = .returned (.agg #[.int .i64 W, .int .i64 H, .slice a k c]) ∧ RwP (fun b => X.heap.size ≤ b) 3 w' a k M0 ∧ (t0.2 = 0 → k = n)) ∧ MAt g N ba bn bc l t0 w' ∧ Aft g X.heap.size X w') (er : Int) (hE : er = (endS t0).2) (h0 : ¬ er = 0) : Calls Try.prog 21 #[.slice ba bn bc] w fun e' w' => e' = .returned (.tuple #[.agg #[.int .i64 0, .int .i64 0, .slice none 0 0], .int .i64 er]) ∧ Below w.heap.size w w' := by
  have HV := Lib.hid hv
  have HC := Lib.hid C
  clear hv C
  have HE := Lib.hid hE
  clear hE
  go_enter Try.func21, Try.ntmps21
  go_upto_region 1 with fail
  have hR := Au.rows1 w (.cells #[.int .i64 0, .int .i64 0, .slice none 0 0] 24)
  have HUx := Ve.below_n1 w (.cells #[.int .i64 0, .int .i64 0, .slice none 0 0] 24)
  obtain ⟨y0, hy0⟩ : ∃ y0, w.alloc (.cells #[.int .i64 0, .int .i64 0, .slice none 0 0] 24) = y0 := ⟨_, rfl⟩
  rw [hy0] at hR HUx ⊢
  clear hy0
  have HU0 := Lib.hid HUx
  clear HUx
  have hr0_0 := hR
  clear hR
  have hlz := lt_heap hr0_0
  have hz0 := HU0.out.size
  go_upto_region 2 with fail
  have hb1 := Ve.below_n1 y0 (.cells #[.slice ba bn bc, .int .i64 0, .int .i64 0] 97)
  have hN := heap_alloc_last y0 (.cells #[.slice ba bn bc, .int .i64 0, .int .i64 0] 97)
  obtain ⟨y1, hy1⟩ : ∃ y, y0.alloc (.cells #[.slice ba bn bc, .int .i64 0, .int .i64 0] 97) = y := ⟨_, rfl⟩
  have hs1 : y1.heap.size = y0.heap.size + 1 := by rw [← hy1]; simp
  rw [hy1] at hb1 hN ⊢
  clear hy1
  have hl1_0 := lt_heap hr0_0
  have hr1_0 := (hb1.block _ (lt_heap hr0_0)).trans hr0_0
  have HU1 := Lib.hid (HU0.out.trans (hb1.mono HU0.out.size))
  clear hr0_0 HU0
  have hr1_1 := hN
  clear hN
  obtain ⟨N, hN⟩ : ∃ N, N = w.heap.size := ⟨_, rfl⟩
  obtain ⟨g, hg⟩ : ∃ g, g = y0.heap.size := ⟨_, rfl⟩
  rw [← hg] at hr1_1 ⊢
  have hgw : w.heap.size < g := by omega
  have hgl0 : g < y1.heap.size := lt_heap hr1_1
  have HP1 := Lib.hid (show MAt g N ba bn bc l (l, 0) y1 from ⟨by omega, hgl0, fun j => by simp [World.frozen?, hr1_1], cell_of_row _ _ 0 _ _ _ hr1_1, cell_of_row _ _ 2 _ _ _ hr1_1, HV.out.on HU1.out, hbn, fun ad e he => by have := bs_lt HV.out e he; omega, 0, Nat.zero_le _, by simp, cell_of_row _ _ 1 _ _ _ hr1_1⟩)
  clear hg hN hs1
  have HUb := Lib.hid (Aft.of (g := g) (base := w.heap.size) HU1.out)
  clear HU1
  have HU1 := HUb
  clear HUb
  have hz1 := HU1.out.size
  have c0_0 := cell_of_row _ _ 0 _ _ _ hr1_0
  have c0_1 := cell_of_row _ _ 1 _ _ _ hr1_0
  have c0_2 := cell_of_row _ _ 2 _ _ _ hr1_0
  simp at c0_0 c0_1 c0_2
  go_wp2_with fail
  refine (HC.out g N _ HP1.out).mono ?_
  rintro e y2 ⟨⟨al, kl, cl, rfl, hla, hkl⟩, hp2, hb2⟩
  have HP2 := Lib.hid hp2
  have hz2 := hb2.size
  clear c0_0 c0_1 c0_2
  have hr2_0 := (hb2.block _ (lt_heap hr1_0) (lt_heap hr1_0) (by omega)).trans hr1_0
  have HU2 := Lib.hid (HU1.out.trans (hb2.mono HU1.out.size))
  clear hr1_0 HU1
  have HKL := Lib.hid hkl
  clear hkl
  obtain ⟨q, hq⟩ : ∃ q, q = y2.heap.size := ⟨_, rfl⟩
  have HLl2 := Lib.hid (lq_of (lo := g + 1) (q := q) hla (by decide) (by omega) (by omega))
  clear hla
  go_upto_region 3 with fail
  have hb3 := Ve.below_n1 y2 (.cells #[.int .i64 W, .int .i64 H, .slice al kl cl] 24)
  have hp3 := HP2.out.new hb3
  have hb3 := Aft.of (g := g) (base := y2.heap.size) hb3
  have hN := heap_alloc_last y2 (.cells #[.int .i64 W, .int .i64 H, .slice al kl cl] 24)
  obtain ⟨y3, hy3⟩ : ∃ y, y2.alloc (.cells #[.int .i64 W, .int .i64 H, .slice al kl cl] 24) = y := ⟨_, rfl⟩
  have hs3 : y3.heap.size = y2.heap.size + 1 := by rw [← hy3]; simp
  rw [hy3] at hb3 hN hp3 ⊢
  clear hy3
  have HP3 := Lib.hid hp3
  have hz3 := hb3.size
  have hl3_0 := lt_heap hr2_0
  have hr3_0 := (hb3.block _ (lt_heap hr2_0) (lt_heap hr2_0) (by omega)).trans hr2_0
  have HU3 := Lib.hid (HU2.out.trans (hb3.mono HU2.out.size))
  have HLl3 := Lib.hid (HLl2.out.aft hb3 (by omega))
  clear HLl2
  clear hr2_0 HU2
  have hr3_1 := hN
  clear hN
  rw [← hq] at hr3_1 ⊢
  have hqa : q ≤ y2.heap.size := by omega
  have hqw : w.heap.size < q := by omega
  have hqg : g < q := by omega
  have hql := lt_heap hr3_1
  clear hq hs3
  have c1_0 := cell_of_row _ _ 0 _ _ _ hr3_1
  have c1_1 := cell_of_row _ _ 1 _ _ _ hr3_1
  have c1_2 := cell_of_row _ _ 2 _ _ _ hr3_1
  simp at c1_0 c1_1 c1_2
  go_wp2_with fail
  refine ((show Calls _ _ _ _ (fun e w' => e = .returned (.int .i64 er) ∧ MAt g N ba bn bc l (endS t0) w' ∧ Aft g _ _ w') from by rw [HE.out]; exact mend_any g N ba bn bc l t0 _ HP3.out)).mono ?_
  rintro e y4 ⟨rfl, hp4, hb4⟩
  have HP4 := Lib.hid hp4
  have hz4 := hb4.size
  clear c1_0 c1_1 c1_2
  have hr4_0 := (hb4.block _ (lt_heap hr3_0) (lt_heap hr3_0) (by omega)).trans hr3_0
  have hr4_1 := (hb4.block _ (lt_heap hr3_1) (lt_heap hr3_1) (by omega)).trans hr3_1
  have HU4 := Lib.hid (HU3.out.trans (hb4.mono HU3.out.size))
  have HLl4 := Lib.hid (HLl3.out.aft hb4 (by omega))
  clear HLl3
  clear hr3_0 hr3_1 HU3
  have d1 : (er != 0) = true := by simpa using h0
  have d2 : (er == 0) = false := by simpa using h0
  clear h0
  go_upto_region 5 with fail
  have hHr := Lib.hid hr4_0
  have hHi := Lib.hid (show (Try.prog.info? 24).map (·.size) = some (#[.int .i64 0, .int .i64 0, .slice none 0 0] : Array Value).size by kernel_rfl)
  have hHz := Lib.hid (show (#[.int .i64 0, .int .i64 0, .slice none 0 0] : Array Value).size = (#[.int .i64 0, .int .i64 0, .slice none 0 0] : Array Value).size from rfl)
  have hHo := Lib.hid (show (#[.int .i64 0, .int .i64 0, .slice none 0 0] : Array Value).all (·.oneCell') = true by simp [Value.oneCell'])
  go_wp2_with (first | (refine Au.wpList_store_row rfl 24 (.tmp 2) (.tmp 16) rfl y4 #[.int .i64 0, .int .i64 0, .slice none 0 0] #[.int .i64 0, .int .i64 0, .slice none 0 0] (w.heap.size) 24 hHr.out rfl rfl hHi.out hHz.out hHo.out ?_))
  clear hHr hHi hHz hHo
  have hN := setRow_heap _ (w.heap.size) _ #[.int .i64 0, .int .i64 0, .slice none 0 0] _ _ hr4_0
  have hsz := HU4.out.size
  have HUx := aft_setRow (k := w.heap.size) HU4.out (by omega) (by omega) #[.int .i64 0, .int .i64 0, .slice none 0 0]
  have hO : ∀ kk, kk ≠ w.heap.size → (y4.setRow (w.heap.size) #[.int .i64 0, .int .i64 0, .slice none 0 0]).heap[kk]? = y4.heap[kk]? := fun kk hk => setRow_other _ _ _ _ hk
  obtain ⟨y5, hy5⟩ : ∃ y, y4.setRow (w.heap.size) #[.int .i64 0, .int .i64 0, .slice none 0 0] = y := ⟨_, rfl⟩
  rw [hy5] at hN HUx hO ⊢
  clear hy5 hsz
  have HU5 := Lib.hid HUx
  clear HUx
  have hz5 := HU5.out.size
  have hr5_0 := hN
  have hr5_1 := (hO _ (by omega)).trans hr4_1
  clear hN hO
  clear hr4_0 hr4_1 HU4
  go_wp2
  skip
  exact bodyPost_ret (v := .tuple #[.agg #[.int .i64 0, .int .i64 0, .slice none 0 0], .int .i64 er]) (results_row2 (t := 24) Try.results21 rfl rfl hr5_0 Try.underlying24 rfl (by kernel_rfl)) rfl ⟨rfl, HU5.out.below (by omega) (Nat.le_refl _) (Nat.le_refl _)⟩

theorem ddecsheet_any (l : List UInt8) (ba : Option Addr) (bn bc : Nat) (w : World) (hv : Bs w (.slice ba bn bc) l) (hbn : bn ≤ 140737488355328) :
    Calls Try.prog 21 #[.slice ba bn bc] w fun e' w' => ((shE l = 0 ∧ ∃ a c, e' = .returned (.tuple #[.agg #[.int .i64 (fW (l, 0)), .int .i64 (fH (l, 0)), .slice a (fN (l, 0)) c], .int .i64 0]) ∧ RwP (fun b => w.heap.size ≤ b) 3 w' a (fN (l, 0)) (fF (l, 0)).L) ∨ (¬ shE l = 0 ∧ e' = .returned (.tuple #[.agg ZSC, .int .i64 (shE l)]))) ∧ Below w.heap.size w w' := by
  have hC := fun (g N : Nat) (X : World) (hX : MAt g N ba bn bc l (l, 0) X) => take_any g N ba bn bc l (l, 0) X hX
  by_cases h : shE l = 0
  · refine (ddecsheet_ok l ba bn bc (szW (l, 0)) (szH (l, 0)) (fN (l, 0)) (fF (l, 0)).L (fT0 (l, 0)) w hv hbn hC (shE l) rfl h).mono ?_
    rintro e w' ⟨⟨a, c, rfl, h1⟩, h2⟩
    have hsz := fT0_sz (end_none (t := fT0 (l, 0)) h)
    refine ⟨.inl ⟨h, a, c, ?_, h1⟩, h2⟩
    rw [hsz.1, hsz.2]
  · refine (ddecsheet_no l ba bn bc (szW (l, 0)) (szH (l, 0)) (fN (l, 0)) (fF (l, 0)).L (fT0 (l, 0)) w hv hbn hC (shE l) rfl h).mono ?_
    rintro e w' ⟨h1, h2⟩
    exact ⟨.inr ⟨h, h1⟩, h2⟩

end Go.Proofs.Ytgkfoiekminfmaa.Fm
