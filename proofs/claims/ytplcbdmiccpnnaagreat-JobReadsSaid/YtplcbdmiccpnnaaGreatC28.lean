/- Jobs: a shape, and shapes one behind the other, read off a reader, by the program. -/
import Derived.Test.YtplcbdmiccpnnaaGreatC27
import Derived.Test.YtplcbdmiccpnnaaGreatC22
namespace Go.Proofs.YtplcbdmiccpnnaaGreat.Jb
open Go.RowKit Go.Proofs.YtplcbdmiccpnnaaGreat Go.Proofs.YtplcbdmiccpnnaaGreat.Rp Go.Proofs.YtplcbdmiccpnnaaGreat.Re Go.Proofs.YtplcbdmiccpnnaaGreat.Au
set_option linter.unusedVariables false
set_option linter.unusedSimpArgs false

theorem aft_put3 {g base k o : Nat} {a w : World} (h : Aft g base a w) (hb : a.heap.size ≤ k) (hB : base ≤ k) (x y z : Value) : Aft g base a (((w.setCell ⟨k, o, none⟩ x).setCell ⟨k, o + 1, none⟩ y).setCell ⟨k, o + 2, none⟩ z) :=
  ((h.setNew hb hB o x).setNew hb hB (o + 1) y).setNew hb hB (o + 2) z

theorem rp_put3 {p : Value} {g B k o : Nat} {s : St} {w : World} (h : RP p g B s w) (hb : B ≤ k) (x y z : Value) : RP p g B s (((w.setCell ⟨k, o, none⟩ x).setCell ⟨k, o + 1, none⟩ y).setCell ⟨k, o + 2, none⟩ z) :=
  ((h.set hb o x).set hb (o + 1) y).set hb (o + 2) z

set_option maxHeartbeats 8000000 in
set_option maxRecDepth 100000 in
theorem jshape_ball (g : Nat) {B : Nat} (t0 t1 t2 t3 t4 : St) (va0 va1 va2 va3 va4 va5 : Int) (C1 : ∀ W : World, RP (.pointer (some ⟨g, 0, none⟩)) g B t0 W → g < W.heap.size → B ≤ W.heap.size → Calls Tryz.prog 68 #[.agg #[.pointer (some ⟨g, 0, none⟩)]] W fun e' w' => e' = .returned (.agg #[.int .i64 va0, .int .i64 va1]) ∧ RP (.pointer (some ⟨g, 0, none⟩)) g B t1 w' ∧ Aft g W.heap.size W w') (C2 : ∀ W : World, RP (.pointer (some ⟨g, 0, none⟩)) g B t1 W → g < W.heap.size → B ≤ W.heap.size → Calls Tryz.prog 60 #[.pointer (some ⟨g, 0, none⟩)] W fun e' w' => e' = .returned (.int .i64 0) ∧ RP (.pointer (some ⟨g, 0, none⟩)) g B t2 w' ∧ Aft g W.heap.size W w') (C3 : ∀ W : World, RP (.pointer (some ⟨g, 0, none⟩)) g B t2 W → g < W.heap.size → B ≤ W.heap.size → Calls Tryz.prog 69 #[.pointer (some ⟨g, 0, none⟩)] W fun e' w' => e' = .returned (.agg #[.int .i64 va2, .int .i64 va3, .int .i64 va4]) ∧ RP (.pointer (some ⟨g, 0, none⟩)) g B t3 w' ∧ Aft g W.heap.size W w') (C4 : ∀ W : World, RP (.pointer (some ⟨g, 0, none⟩)) g B t3 W → g < W.heap.size → B ≤ W.heap.size → Calls Tryz.prog 62 #[.pointer (some ⟨g, 0, none⟩)] W fun e' w' => e' = .returned (.int .i64 va5) ∧ RP (.pointer (some ⟨g, 0, none⟩)) g B t4 w' ∧ Aft g W.heap.size W w') (w : World) (hw : RP (.pointer (some ⟨g, 0, none⟩)) g B t0 w) (hg : g < w.heap.size) (hB : B ≤ w.heap.size) : Calls Tryz.prog 36 #[.agg #[.pointer (some ⟨g, 0, none⟩)]] w fun e' w' => e' = .returned (.agg #[.int .i64 va0, .int .i64 va1, .int .i64 0, .int .i64 va2, .int .i64 va3, .int .i64 va4, .int .i64 0, .int .i64 0, .int .i64 0, .int .i64 0, .int .i64 0, .int .i64 0, .int .i64 va5]) ∧ RP (.pointer (some ⟨g, 0, none⟩)) g B (t4) w' ∧ Aft g w.heap.size w w' := by
  have HPw := Lib.hid hw
  clear hw
  have HC1 := Lib.hid C1
  clear C1
  have HC2 := Lib.hid C2
  clear C2
  have HC3 := Lib.hid C3
  clear C3
  have HC4 := Lib.hid C4
  clear C4
  go_enter Tryz.func36, Tryz.ntmps36
  go_upto_region 1 with fail
  have hR := Au.rows2 w (.cells #[.pointer (some ⟨g, 0, none⟩)] 59) (.cells #[.int .i64 0, .int .i64 0, .int .i64 0, .int .i64 0, .int .i64 0, .int .i64 0, .int .i64 0, .int .i64 0, .int .i64 0, .int .i64 0, .int .i64 0, .int .i64 0, .int .i64 0] 103)
  have HUx := Ve.below_n2 w (.cells #[.pointer (some ⟨g, 0, none⟩)] 59) (.cells #[.int .i64 0, .int .i64 0, .int .i64 0, .int .i64 0, .int .i64 0, .int .i64 0, .int .i64 0, .int .i64 0, .int .i64 0, .int .i64 0, .int .i64 0, .int .i64 0, .int .i64 0] 103)
  obtain ⟨y0, hy0⟩ : ∃ y0, (w.alloc (.cells #[.pointer (some ⟨g, 0, none⟩)] 59)).alloc (.cells #[.int .i64 0, .int .i64 0, .int .i64 0, .int .i64 0, .int .i64 0, .int .i64 0, .int .i64 0, .int .i64 0, .int .i64 0, .int .i64 0, .int .i64 0, .int .i64 0, .int .i64 0] 103) = y0 := ⟨_, rfl⟩
  rw [hy0] at hR HUx ⊢
  clear hy0
  have HP0 := Lib.hid (HPw.out.new HUx)
  have hz0 := HUx.size
  have HU0 := Lib.hid (Aft.of (g := g) (base := w.heap.size) HUx)
  clear HUx
  obtain ⟨hr0_0, hr0_1⟩ := hR
  go_cut [3] (fun s3 wx => ∃ gs : Nat, s3 = .pointer (some ⟨gs, 0, none⟩) ∧ w.heap.size + 1 < gs ∧ wx.heap[gs]? = some (.cells #[.int .i64 va0, .int .i64 va1, .int .i64 0, .int .i64 va2, .int .i64 va3, .int .i64 va4, .int .i64 0, .int .i64 0, .int .i64 0, .int .i64 0, .int .i64 0, .int .i64 0, .int .i64 0] 103 (0, 0)) ∧ wx.heap[w.heap.size]? = some (.cells #[.pointer (some ⟨g, 0, none⟩)] 59 (0, 0)) ∧ wx.heap[w.heap.size + 1]? = some (.cells #[.int .i64 0, .int .i64 0, .int .i64 0, .int .i64 0, .int .i64 0, .int .i64 0, .int .i64 0, .int .i64 0, .int .i64 0, .int .i64 0, .int .i64 0, .int .i64 0, .int .i64 0] 103 (0, 0)) ∧ Hid (RP (.pointer (some ⟨g, 0, none⟩)) g B t3 wx) ∧ Hid (Aft g w.heap.size w wx))
  case first =>
    refine wp_region_held_drew (S := fun y => y.heap[w.heap.size]? = some (.cells #[.pointer (some ⟨g, 0, none⟩)] 59 (0, 0))) (by kernel_rfl) (hr0_0) (fun hS0 => ?_)
    obtain ⟨y1, hy1⟩ : ∃ y, y0.drew = y := ⟨_, rfl⟩
    have HU1 := Lib.hid (show Aft g w.heap.size w y1 by rw [← hy1]; exact HU0.out.drew)
    have HP1 := Lib.hid (show RP (.pointer (some ⟨g, 0, none⟩)) g B _ y1 by rw [← hy1]; exact rp_drew HP0.out)
    have hz1 := HU1.out.size
    have hr1_0 : y1.heap[w.heap.size]? = some (.cells #[.pointer (some ⟨g, 0, none⟩)] 59 (0, 0)) := by rw [← hy1]; exact hr0_0
    have hr1_1 : y1.heap[w.heap.size + 1]? = some (.cells #[.int .i64 0, .int .i64 0, .int .i64 0, .int .i64 0, .int .i64 0, .int .i64 0, .int .i64 0, .int .i64 0, .int .i64 0, .int .i64 0, .int .i64 0, .int .i64 0, .int .i64 0] 103 (0, 0)) := by rw [← hy1]; exact hr0_1
    have hl1_0 := lt_heap hr1_0
    have hl1_1 := lt_heap hr1_1
    rw [hy1] at hS0 ⊢
    clear hy1
    refine wpAnyH_take (i := 0) (v := .agg #[.pointer (some ⟨g, 0, none⟩)]) rfl (by kernel_rfl) (by kernel_rfl) (by kernel_rfl) (fun _ _ _ h => h) (Lr.yieldsIf_load_row (by kernel_rfl) 59 (.tmp 1) rfl (w.heap.size) rfl 59 #[.pointer (some ⟨g, 0, none⟩)] _ (fun yy hh => hh) Tryz.underlying59 rfl (by kernel_rfl)) hS0 ?_
    go_simp
    refine wpAnyH_take (i := 2) (v := ?_) rfl (by kernel_rfl) (by kernel_rfl) (by kernel_rfl) (fun _ _ _ h => h) (Or.inl ⟨by kernel_rfl, by (intro wz hSz; go_simp; try with_reducible rfl)⟩) hS0 ?_
    go_simp
    refine wpAnyH_take (i := 3) (v := ?_) rfl (by kernel_rfl) (by kernel_rfl) (by kernel_rfl) (fun _ _ _ h => h) (Or.inl ⟨by kernel_rfl, by (intro wz hSz; have c0_0 := cell_of_row _ _ 0 _ _ _ hSz; simp at c0_0; go_simp; try with_reducible rfl)⟩) hS0 ?_
    go_simp
    refine wpAnyH_take (i := 5) (v := ?_) rfl (by kernel_rfl) (by kernel_rfl) (by kernel_rfl) (fun _ _ _ h => h) (Or.inl ⟨by kernel_rfl, by (intro wz hSz; go_simp; try with_reducible rfl)⟩) hS0 ?_
    go_simp
    refine wpAnyH_take (i := 6) (v := ?_) rfl (by kernel_rfl) (by kernel_rfl) (by kernel_rfl) (fun _ _ _ h => h) (Or.inl ⟨by kernel_rfl, by (intro wz hSz; have c0_0 := cell_of_row _ _ 0 _ _ _ hSz; simp at c0_0; go_simp; try with_reducible rfl)⟩) hS0 ?_
    go_simp
    refine wpAnyH_ready (rs := [1, 9]) (by kernel_rfl) (by simp) ?_
    refine AllReadyH.cons rfl (fun K hK => ?_) (AllReadyH.cons rfl (fun K hK => ?_) AllReadyH.nil)
    · skip
      go_simp
      go_wp2_with (go_at_call 68; refine (HC1.out _ HP1.out (by omega) (by omega)).mono ?_; rintro e y2 ⟨rfl, hp2, hb2⟩)
      have HP2 := Lib.hid hp2
      have hz2 := hb2.size
      have hr2_0 := (hb2.block _ (lt_heap hr1_0) (lt_heap hr1_0) (by omega)).trans hr1_0
      have hr2_1 := (hb2.block _ (lt_heap hr1_1) (lt_heap hr1_1) (by omega)).trans hr1_1
      have HU2 := Lib.hid (HU1.out.trans (hb2.mono HU1.out.size))
      refine hK.out _ _ ((hb2.block _ (lt_heap hS0) (lt_heap hS0) (by omega)).trans hS0) (fun hS2c => ?_)
      clear hK K
      refine wpAnyH_ready (rs := [4, 9]) (by kernel_rfl) (by simp) ?_
      refine AllReadyH.cons rfl (fun K hK => ?_) (AllReadyH.cons rfl (fun K hK => ?_) AllReadyH.nil)
      · skip
        go_simp
        go_wp2_with (go_at_call 60; refine (HC2.out _ HP2.out (by omega) (by omega)).mono ?_; rintro e y3 ⟨rfl, hp3, hb3⟩)
        have HP3 := Lib.hid hp3
        have hz3 := hb3.size
        have hr3_0 := (hb3.block _ (lt_heap hr2_0) (lt_heap hr2_0) (by omega)).trans hr2_0
        have hr3_1 := (hb3.block _ (lt_heap hr2_1) (lt_heap hr2_1) (by omega)).trans hr2_1
        have HU3 := Lib.hid (HU2.out.trans (hb3.mono HU2.out.size))
        refine hK.out _ _ ((hb3.block _ (lt_heap hS2c) (lt_heap hS2c) (by omega)).trans hS2c) (fun hS3c => ?_)
        clear hK K
        refine wpAnyH_ready (rs := [7, 9]) (by kernel_rfl) (by simp) ?_
        refine AllReadyH.cons rfl (fun K hK => ?_) (AllReadyH.cons rfl (fun K hK => ?_) AllReadyH.nil)
        · skip
          go_simp
          go_wp2_with (go_at_call 69; refine (HC3.out _ HP3.out (by omega) (by omega)).mono ?_; rintro e y4 ⟨rfl, hp4, hb4⟩)
          have HP4 := Lib.hid hp4
          have hz4 := hb4.size
          have hr4_0 := (hb4.block _ (lt_heap hr3_0) (lt_heap hr3_0) (by omega)).trans hr3_0
          have hr4_1 := (hb4.block _ (lt_heap hr3_1) (lt_heap hr3_1) (by omega)).trans hr3_1
          have HU4 := Lib.hid (HU3.out.trans (hb4.mono HU3.out.size))
          refine hK.out _ _ ((hb4.block _ (lt_heap hS3c) (lt_heap hS3c) (by omega)).trans hS3c) (fun hS4c => ?_)
          clear hK K
          refine wpAnyH_take (i := 8) (v := ?_) rfl (by kernel_rfl) (by kernel_rfl) (by kernel_rfl) (fun _ _ _ h => h) (Or.inl ⟨by kernel_rfl, by (intro wz hSz; go_simp; try with_reducible rfl)⟩) hS4c ?_
          go_simp
          refine wpAnyH_ready (rs := [9]) (by kernel_rfl) (by simp) ?_
          refine AllReadyH.cons rfl (fun K hK => ?_) AllReadyH.nil
          go_simp
          have hb5 := Ve.below_n1 y4 (.cells #[.int .i64 0, .int .i64 0, .int .i64 0, .int .i64 0, .int .i64 0, .int .i64 0, .int .i64 0, .int .i64 0, .int .i64 0, .int .i64 0, .int .i64 0, .int .i64 0, .int .i64 0] 103)
          have hp5 := HP4.out.new hb5
          have hb5 := Aft.of (g := g) (base := y4.heap.size) hb5
          have hN := heap_alloc_last y4 (.cells #[.int .i64 0, .int .i64 0, .int .i64 0, .int .i64 0, .int .i64 0, .int .i64 0, .int .i64 0, .int .i64 0, .int .i64 0, .int .i64 0, .int .i64 0, .int .i64 0, .int .i64 0] 103)
          obtain ⟨y5, hy5⟩ : ∃ y, y4.alloc (.cells #[.int .i64 0, .int .i64 0, .int .i64 0, .int .i64 0, .int .i64 0, .int .i64 0, .int .i64 0, .int .i64 0, .int .i64 0, .int .i64 0, .int .i64 0, .int .i64 0, .int .i64 0] 103) = y := ⟨_, rfl⟩
          rw [hy5] at hb5 hN hp5 ⊢
          clear hy5
          have HP5 := Lib.hid hp5
          have hz5 := hb5.size
          have hl5_0 := lt_heap hr4_0
          have hr5_0 := (hb5.block _ (lt_heap hr4_0) (lt_heap hr4_0) (by omega)).trans hr4_0
          have hl5_1 := lt_heap hr4_1
          have hr5_1 := (hb5.block _ (lt_heap hr4_1) (lt_heap hr4_1) (by omega)).trans hr4_1
          have hr5_2 := hN
          clear hN
          have HU5 := Lib.hid (HU4.out.trans (hb5.mono HU4.out.size))
          refine hK.out _ _ ((hb5.block _ (lt_heap hS4c) (lt_heap hS4c) (by omega)).trans hS4c) (fun hS5a => ?_)
          clear hK K
          refine wpAnyH_ready (rs := [10]) (by kernel_rfl) (by simp) ?_
          refine AllReadyH.cons rfl (fun K hK => ?_) AllReadyH.nil
          refine step_store_row rfl 103 (.tmp 3) (.tmp 12) rfl #[.int .i64 0, .int .i64 0, .int .i64 0, .int .i64 0, .int .i64 0, .int .i64 0, .int .i64 0, .int .i64 0, .int .i64 0, .int .i64 0, .int .i64 0, .int .i64 0, .int .i64 0] #[.int .i64 va0, .int .i64 va1, .int .i64 0, .int .i64 va2, .int .i64 va3, .int .i64 va4, .int .i64 0, .int .i64 0, .int .i64 0, .int .i64 0, .int .i64 0, .int .i64 0, .int .i64 0] _ 103 hr5_2 rfl (by first | rfl | (go_simp; done) | (go_simp; rfl)) (by kernel_rfl) rfl (by simp [Value.oneCell']) ?_
          have hN := setRow_heap _ (y4.heap.size) _ #[.int .i64 va0, .int .i64 va1, .int .i64 0, .int .i64 va2, .int .i64 va3, .int .i64 va4, .int .i64 0, .int .i64 0, .int .i64 0, .int .i64 0, .int .i64 0, .int .i64 0, .int .i64 0] _ _ hr5_2
          have hsz := HU5.out.size
          have HUx := aft_setRow (k := y4.heap.size) HU5.out (by omega) (by omega) #[.int .i64 va0, .int .i64 va1, .int .i64 0, .int .i64 va2, .int .i64 va3, .int .i64 va4, .int .i64 0, .int .i64 0, .int .i64 0, .int .i64 0, .int .i64 0, .int .i64 0, .int .i64 0]
          have hPx := rp_setRow (k := y4.heap.size) HP5.out (by omega) #[.int .i64 va0, .int .i64 va1, .int .i64 0, .int .i64 va2, .int .i64 va3, .int .i64 va4, .int .i64 0, .int .i64 0, .int .i64 0, .int .i64 0, .int .i64 0, .int .i64 0, .int .i64 0]
          obtain ⟨y6, hy6⟩ : ∃ y, y5.setRow (y4.heap.size) #[.int .i64 va0, .int .i64 va1, .int .i64 0, .int .i64 va2, .int .i64 va3, .int .i64 va4, .int .i64 0, .int .i64 0, .int .i64 0, .int .i64 0, .int .i64 0, .int .i64 0, .int .i64 0] = y := ⟨_, rfl⟩
          have hO : ∀ k, k ≠ y4.heap.size → y6.heap[k]? = y5.heap[k]? := fun k hk => by rw [← hy6]; exact setRow_other _ _ _ _ hk
          rw [hy6] at hN HUx hPx ⊢
          clear hy6
          have HU6 := Lib.hid HUx
          clear HUx
          have HP6 := Lib.hid hPx
          have hz6 := HU6.out.size
          have hr6_0 := (hO _ (by omega)).trans hr5_0
          have hr6_1 := (hO _ (by omega)).trans hr5_1
          have hr6_2 := hN
          clear hN
          refine hK.out _ _ ((hO _ (by omega)).trans hS5a) (fun hS6s => ?_)
          clear hK K
          refine wpAnyH_done (by kernel_rfl) ?_ _
          go_wp2_with fail
          go_meet
          exact ⟨_, rfl, by omega, hr6_2, hr6_0, hr6_1, HP6, HU6⟩
        · skip
          go_simp
          have hb4 := Ve.below_n1 y3 (.cells #[.int .i64 0, .int .i64 0, .int .i64 0, .int .i64 0, .int .i64 0, .int .i64 0, .int .i64 0, .int .i64 0, .int .i64 0, .int .i64 0, .int .i64 0, .int .i64 0, .int .i64 0] 103)
          have hp4 := HP3.out.new hb4
          have hb4 := Aft.of (g := g) (base := y3.heap.size) hb4
          have hN := heap_alloc_last y3 (.cells #[.int .i64 0, .int .i64 0, .int .i64 0, .int .i64 0, .int .i64 0, .int .i64 0, .int .i64 0, .int .i64 0, .int .i64 0, .int .i64 0, .int .i64 0, .int .i64 0, .int .i64 0] 103)
          obtain ⟨y4, hy4⟩ : ∃ y, y3.alloc (.cells #[.int .i64 0, .int .i64 0, .int .i64 0, .int .i64 0, .int .i64 0, .int .i64 0, .int .i64 0, .int .i64 0, .int .i64 0, .int .i64 0, .int .i64 0, .int .i64 0, .int .i64 0] 103) = y := ⟨_, rfl⟩
          rw [hy4] at hb4 hN hp4 ⊢
          clear hy4
          have HP4 := Lib.hid hp4
          have hz4 := hb4.size
          have hl4_0 := lt_heap hr3_0
          have hr4_0 := (hb4.block _ (lt_heap hr3_0) (lt_heap hr3_0) (by omega)).trans hr3_0
          have hl4_1 := lt_heap hr3_1
          have hr4_1 := (hb4.block _ (lt_heap hr3_1) (lt_heap hr3_1) (by omega)).trans hr3_1
          have hr4_2 := hN
          clear hN
          have HU4 := Lib.hid (HU3.out.trans (hb4.mono HU3.out.size))
          refine hK.out _ _ ((hb4.block _ (lt_heap hS3c) (lt_heap hS3c) (by omega)).trans hS3c) (fun hS4a => ?_)
          clear hK K
          refine wpAnyH_ready (rs := [7]) (by kernel_rfl) (by simp) ?_
          refine AllReadyH.cons rfl (fun K hK => ?_) AllReadyH.nil
          go_simp
          go_wp2_with (go_at_call 69; refine (HC3.out _ HP4.out (by omega) (by omega)).mono ?_; rintro e y5 ⟨rfl, hp5, hb5⟩)
          have HP5 := Lib.hid hp5
          have hz5 := hb5.size
          have hr5_0 := (hb5.block _ (lt_heap hr4_0) (lt_heap hr4_0) (by omega)).trans hr4_0
          have hr5_1 := (hb5.block _ (lt_heap hr4_1) (lt_heap hr4_1) (by omega)).trans hr4_1
          have hr5_2 := (hb5.block _ (lt_heap hr4_2) (lt_heap hr4_2) (by omega)).trans hr4_2
          have HU5 := Lib.hid (HU4.out.trans (hb5.mono HU4.out.size))
          refine hK.out _ _ ((hb5.block _ (lt_heap hS4a) (lt_heap hS4a) (by omega)).trans hS4a) (fun hS5c => ?_)
          clear hK K
          refine wpAnyH_take (i := 8) (v := ?_) rfl (by kernel_rfl) (by kernel_rfl) (by kernel_rfl) (fun _ _ _ h => h) (Or.inl ⟨by kernel_rfl, by (intro wz hSz; go_simp; try with_reducible rfl)⟩) hS5c ?_
          go_simp
          refine wpAnyH_ready (rs := [10]) (by kernel_rfl) (by simp) ?_
          refine AllReadyH.cons rfl (fun K hK => ?_) AllReadyH.nil
          refine step_store_row rfl 103 (.tmp 3) (.tmp 12) rfl #[.int .i64 0, .int .i64 0, .int .i64 0, .int .i64 0, .int .i64 0, .int .i64 0, .int .i64 0, .int .i64 0, .int .i64 0, .int .i64 0, .int .i64 0, .int .i64 0, .int .i64 0] #[.int .i64 va0, .int .i64 va1, .int .i64 0, .int .i64 va2, .int .i64 va3, .int .i64 va4, .int .i64 0, .int .i64 0, .int .i64 0, .int .i64 0, .int .i64 0, .int .i64 0, .int .i64 0] _ 103 hr5_2 rfl (by first | rfl | (go_simp; done) | (go_simp; rfl)) (by kernel_rfl) rfl (by simp [Value.oneCell']) ?_
          have hN := setRow_heap _ (y3.heap.size) _ #[.int .i64 va0, .int .i64 va1, .int .i64 0, .int .i64 va2, .int .i64 va3, .int .i64 va4, .int .i64 0, .int .i64 0, .int .i64 0, .int .i64 0, .int .i64 0, .int .i64 0, .int .i64 0] _ _ hr5_2
          have hsz := HU5.out.size
          have HUx := aft_setRow (k := y3.heap.size) HU5.out (by omega) (by omega) #[.int .i64 va0, .int .i64 va1, .int .i64 0, .int .i64 va2, .int .i64 va3, .int .i64 va4, .int .i64 0, .int .i64 0, .int .i64 0, .int .i64 0, .int .i64 0, .int .i64 0, .int .i64 0]
          have hPx := rp_setRow (k := y3.heap.size) HP5.out (by omega) #[.int .i64 va0, .int .i64 va1, .int .i64 0, .int .i64 va2, .int .i64 va3, .int .i64 va4, .int .i64 0, .int .i64 0, .int .i64 0, .int .i64 0, .int .i64 0, .int .i64 0, .int .i64 0]
          obtain ⟨y6, hy6⟩ : ∃ y, y5.setRow (y3.heap.size) #[.int .i64 va0, .int .i64 va1, .int .i64 0, .int .i64 va2, .int .i64 va3, .int .i64 va4, .int .i64 0, .int .i64 0, .int .i64 0, .int .i64 0, .int .i64 0, .int .i64 0, .int .i64 0] = y := ⟨_, rfl⟩
          have hO : ∀ k, k ≠ y3.heap.size → y6.heap[k]? = y5.heap[k]? := fun k hk => by rw [← hy6]; exact setRow_other _ _ _ _ hk
          rw [hy6] at hN HUx hPx ⊢
          clear hy6
          have HU6 := Lib.hid HUx
          clear HUx
          have HP6 := Lib.hid hPx
          have hz6 := HU6.out.size
          have hr6_0 := (hO _ (by omega)).trans hr5_0
          have hr6_1 := (hO _ (by omega)).trans hr5_1
          have hr6_2 := hN
          clear hN
          refine hK.out _ _ ((hO _ (by omega)).trans hS5c) (fun hS6s => ?_)
          clear hK K
          refine wpAnyH_done (by kernel_rfl) ?_ _
          go_wp2_with fail
          go_meet
          exact ⟨_, rfl, by omega, hr6_2, hr6_0, hr6_1, HP6, HU6⟩
      · skip
        go_simp
        have hb3 := Ve.below_n1 y2 (.cells #[.int .i64 0, .int .i64 0, .int .i64 0, .int .i64 0, .int .i64 0, .int .i64 0, .int .i64 0, .int .i64 0, .int .i64 0, .int .i64 0, .int .i64 0, .int .i64 0, .int .i64 0] 103)
        have hp3 := HP2.out.new hb3
        have hb3 := Aft.of (g := g) (base := y2.heap.size) hb3
        have hN := heap_alloc_last y2 (.cells #[.int .i64 0, .int .i64 0, .int .i64 0, .int .i64 0, .int .i64 0, .int .i64 0, .int .i64 0, .int .i64 0, .int .i64 0, .int .i64 0, .int .i64 0, .int .i64 0, .int .i64 0] 103)
        obtain ⟨y3, hy3⟩ : ∃ y, y2.alloc (.cells #[.int .i64 0, .int .i64 0, .int .i64 0, .int .i64 0, .int .i64 0, .int .i64 0, .int .i64 0, .int .i64 0, .int .i64 0, .int .i64 0, .int .i64 0, .int .i64 0, .int .i64 0] 103) = y := ⟨_, rfl⟩
        rw [hy3] at hb3 hN hp3 ⊢
        clear hy3
        have HP3 := Lib.hid hp3
        have hz3 := hb3.size
        have hl3_0 := lt_heap hr2_0
        have hr3_0 := (hb3.block _ (lt_heap hr2_0) (lt_heap hr2_0) (by omega)).trans hr2_0
        have hl3_1 := lt_heap hr2_1
        have hr3_1 := (hb3.block _ (lt_heap hr2_1) (lt_heap hr2_1) (by omega)).trans hr2_1
        have hr3_2 := hN
        clear hN
        have HU3 := Lib.hid (HU2.out.trans (hb3.mono HU2.out.size))
        refine hK.out _ _ ((hb3.block _ (lt_heap hS2c) (lt_heap hS2c) (by omega)).trans hS2c) (fun hS3a => ?_)
        clear hK K
        refine wpAnyH_ready (rs := [4]) (by kernel_rfl) (by simp) ?_
        refine AllReadyH.cons rfl (fun K hK => ?_) AllReadyH.nil
        go_simp
        go_wp2_with (go_at_call 60; refine (HC2.out _ HP3.out (by omega) (by omega)).mono ?_; rintro e y4 ⟨rfl, hp4, hb4⟩)
        have HP4 := Lib.hid hp4
        have hz4 := hb4.size
        have hr4_0 := (hb4.block _ (lt_heap hr3_0) (lt_heap hr3_0) (by omega)).trans hr3_0
        have hr4_1 := (hb4.block _ (lt_heap hr3_1) (lt_heap hr3_1) (by omega)).trans hr3_1
        have hr4_2 := (hb4.block _ (lt_heap hr3_2) (lt_heap hr3_2) (by omega)).trans hr3_2
        have HU4 := Lib.hid (HU3.out.trans (hb4.mono HU3.out.size))
        refine hK.out _ _ ((hb4.block _ (lt_heap hS3a) (lt_heap hS3a) (by omega)).trans hS3a) (fun hS4c => ?_)
        clear hK K
        refine wpAnyH_ready (rs := [7]) (by kernel_rfl) (by simp) ?_
        refine AllReadyH.cons rfl (fun K hK => ?_) AllReadyH.nil
        go_simp
        go_wp2_with (go_at_call 69; refine (HC3.out _ HP4.out (by omega) (by omega)).mono ?_; rintro e y5 ⟨rfl, hp5, hb5⟩)
        have HP5 := Lib.hid hp5
        have hz5 := hb5.size
        have hr5_0 := (hb5.block _ (lt_heap hr4_0) (lt_heap hr4_0) (by omega)).trans hr4_0
        have hr5_1 := (hb5.block _ (lt_heap hr4_1) (lt_heap hr4_1) (by omega)).trans hr4_1
        have hr5_2 := (hb5.block _ (lt_heap hr4_2) (lt_heap hr4_2) (by omega)).trans hr4_2
        have HU5 := Lib.hid (HU4.out.trans (hb5.mono HU4.out.size))
        refine hK.out _ _ ((hb5.block _ (lt_heap hS4c) (lt_heap hS4c) (by omega)).trans hS4c) (fun hS5c => ?_)
        clear hK K
        refine wpAnyH_take (i := 8) (v := ?_) rfl (by kernel_rfl) (by kernel_rfl) (by kernel_rfl) (fun _ _ _ h => h) (Or.inl ⟨by kernel_rfl, by (intro wz hSz; go_simp; try with_reducible rfl)⟩) hS5c ?_
        go_simp
        refine wpAnyH_ready (rs := [10]) (by kernel_rfl) (by simp) ?_
        refine AllReadyH.cons rfl (fun K hK => ?_) AllReadyH.nil
        refine step_store_row rfl 103 (.tmp 3) (.tmp 12) rfl #[.int .i64 0, .int .i64 0, .int .i64 0, .int .i64 0, .int .i64 0, .int .i64 0, .int .i64 0, .int .i64 0, .int .i64 0, .int .i64 0, .int .i64 0, .int .i64 0, .int .i64 0] #[.int .i64 va0, .int .i64 va1, .int .i64 0, .int .i64 va2, .int .i64 va3, .int .i64 va4, .int .i64 0, .int .i64 0, .int .i64 0, .int .i64 0, .int .i64 0, .int .i64 0, .int .i64 0] _ 103 hr5_2 rfl (by first | rfl | (go_simp; done) | (go_simp; rfl)) (by kernel_rfl) rfl (by simp [Value.oneCell']) ?_
        have hN := setRow_heap _ (y2.heap.size) _ #[.int .i64 va0, .int .i64 va1, .int .i64 0, .int .i64 va2, .int .i64 va3, .int .i64 va4, .int .i64 0, .int .i64 0, .int .i64 0, .int .i64 0, .int .i64 0, .int .i64 0, .int .i64 0] _ _ hr5_2
        have hsz := HU5.out.size
        have HUx := aft_setRow (k := y2.heap.size) HU5.out (by omega) (by omega) #[.int .i64 va0, .int .i64 va1, .int .i64 0, .int .i64 va2, .int .i64 va3, .int .i64 va4, .int .i64 0, .int .i64 0, .int .i64 0, .int .i64 0, .int .i64 0, .int .i64 0, .int .i64 0]
        have hPx := rp_setRow (k := y2.heap.size) HP5.out (by omega) #[.int .i64 va0, .int .i64 va1, .int .i64 0, .int .i64 va2, .int .i64 va3, .int .i64 va4, .int .i64 0, .int .i64 0, .int .i64 0, .int .i64 0, .int .i64 0, .int .i64 0, .int .i64 0]
        obtain ⟨y6, hy6⟩ : ∃ y, y5.setRow (y2.heap.size) #[.int .i64 va0, .int .i64 va1, .int .i64 0, .int .i64 va2, .int .i64 va3, .int .i64 va4, .int .i64 0, .int .i64 0, .int .i64 0, .int .i64 0, .int .i64 0, .int .i64 0, .int .i64 0] = y := ⟨_, rfl⟩
        have hO : ∀ k, k ≠ y2.heap.size → y6.heap[k]? = y5.heap[k]? := fun k hk => by rw [← hy6]; exact setRow_other _ _ _ _ hk
        rw [hy6] at hN HUx hPx ⊢
        clear hy6
        have HU6 := Lib.hid HUx
        clear HUx
        have HP6 := Lib.hid hPx
        have hz6 := HU6.out.size
        have hr6_0 := (hO _ (by omega)).trans hr5_0
        have hr6_1 := (hO _ (by omega)).trans hr5_1
        have hr6_2 := hN
        clear hN
        refine hK.out _ _ ((hO _ (by omega)).trans hS5c) (fun hS6s => ?_)
        clear hK K
        refine wpAnyH_done (by kernel_rfl) ?_ _
        go_wp2_with fail
        go_meet
        exact ⟨_, rfl, by omega, hr6_2, hr6_0, hr6_1, HP6, HU6⟩
    · skip
      go_simp
      have hb2 := Ve.below_n1 y1 (.cells #[.int .i64 0, .int .i64 0, .int .i64 0, .int .i64 0, .int .i64 0, .int .i64 0, .int .i64 0, .int .i64 0, .int .i64 0, .int .i64 0, .int .i64 0, .int .i64 0, .int .i64 0] 103)
      have hp2 := HP1.out.new hb2
      have hb2 := Aft.of (g := g) (base := y1.heap.size) hb2
      have hN := heap_alloc_last y1 (.cells #[.int .i64 0, .int .i64 0, .int .i64 0, .int .i64 0, .int .i64 0, .int .i64 0, .int .i64 0, .int .i64 0, .int .i64 0, .int .i64 0, .int .i64 0, .int .i64 0, .int .i64 0] 103)
      obtain ⟨y2, hy2⟩ : ∃ y, y1.alloc (.cells #[.int .i64 0, .int .i64 0, .int .i64 0, .int .i64 0, .int .i64 0, .int .i64 0, .int .i64 0, .int .i64 0, .int .i64 0, .int .i64 0, .int .i64 0, .int .i64 0, .int .i64 0] 103) = y := ⟨_, rfl⟩
      rw [hy2] at hb2 hN hp2 ⊢
      clear hy2
      have HP2 := Lib.hid hp2
      have hz2 := hb2.size
      have hl2_0 := lt_heap hr1_0
      have hr2_0 := (hb2.block _ (lt_heap hr1_0) (lt_heap hr1_0) (by omega)).trans hr1_0
      have hl2_1 := lt_heap hr1_1
      have hr2_1 := (hb2.block _ (lt_heap hr1_1) (lt_heap hr1_1) (by omega)).trans hr1_1
      have hr2_2 := hN
      clear hN
      have HU2 := Lib.hid (HU1.out.trans (hb2.mono HU1.out.size))
      refine hK.out _ _ ((hb2.block _ (lt_heap hS0) (lt_heap hS0) (by omega)).trans hS0) (fun hS2a => ?_)
      clear hK K
      refine wpAnyH_ready (rs := [1]) (by kernel_rfl) (by simp) ?_
      refine AllReadyH.cons rfl (fun K hK => ?_) AllReadyH.nil
      go_simp
      go_wp2_with (go_at_call 68; refine (HC1.out _ HP2.out (by omega) (by omega)).mono ?_; rintro e y3 ⟨rfl, hp3, hb3⟩)
      have HP3 := Lib.hid hp3
      have hz3 := hb3.size
      have hr3_0 := (hb3.block _ (lt_heap hr2_0) (lt_heap hr2_0) (by omega)).trans hr2_0
      have hr3_1 := (hb3.block _ (lt_heap hr2_1) (lt_heap hr2_1) (by omega)).trans hr2_1
      have hr3_2 := (hb3.block _ (lt_heap hr2_2) (lt_heap hr2_2) (by omega)).trans hr2_2
      have HU3 := Lib.hid (HU2.out.trans (hb3.mono HU2.out.size))
      refine hK.out _ _ ((hb3.block _ (lt_heap hS2a) (lt_heap hS2a) (by omega)).trans hS2a) (fun hS3c => ?_)
      clear hK K
      refine wpAnyH_ready (rs := [4]) (by kernel_rfl) (by simp) ?_
      refine AllReadyH.cons rfl (fun K hK => ?_) AllReadyH.nil
      go_simp
      go_wp2_with (go_at_call 60; refine (HC2.out _ HP3.out (by omega) (by omega)).mono ?_; rintro e y4 ⟨rfl, hp4, hb4⟩)
      have HP4 := Lib.hid hp4
      have hz4 := hb4.size
      have hr4_0 := (hb4.block _ (lt_heap hr3_0) (lt_heap hr3_0) (by omega)).trans hr3_0
      have hr4_1 := (hb4.block _ (lt_heap hr3_1) (lt_heap hr3_1) (by omega)).trans hr3_1
      have hr4_2 := (hb4.block _ (lt_heap hr3_2) (lt_heap hr3_2) (by omega)).trans hr3_2
      have HU4 := Lib.hid (HU3.out.trans (hb4.mono HU3.out.size))
      refine hK.out _ _ ((hb4.block _ (lt_heap hS3c) (lt_heap hS3c) (by omega)).trans hS3c) (fun hS4c => ?_)
      clear hK K
      refine wpAnyH_ready (rs := [7]) (by kernel_rfl) (by simp) ?_
      refine AllReadyH.cons rfl (fun K hK => ?_) AllReadyH.nil
      go_simp
      go_wp2_with (go_at_call 69; refine (HC3.out _ HP4.out (by omega) (by omega)).mono ?_; rintro e y5 ⟨rfl, hp5, hb5⟩)
      have HP5 := Lib.hid hp5
      have hz5 := hb5.size
      have hr5_0 := (hb5.block _ (lt_heap hr4_0) (lt_heap hr4_0) (by omega)).trans hr4_0
      have hr5_1 := (hb5.block _ (lt_heap hr4_1) (lt_heap hr4_1) (by omega)).trans hr4_1
      have hr5_2 := (hb5.block _ (lt_heap hr4_2) (lt_heap hr4_2) (by omega)).trans hr4_2
      have HU5 := Lib.hid (HU4.out.trans (hb5.mono HU4.out.size))
      refine hK.out _ _ ((hb5.block _ (lt_heap hS4c) (lt_heap hS4c) (by omega)).trans hS4c) (fun hS5c => ?_)
      clear hK K
      refine wpAnyH_take (i := 8) (v := ?_) rfl (by kernel_rfl) (by kernel_rfl) (by kernel_rfl) (fun _ _ _ h => h) (Or.inl ⟨by kernel_rfl, by (intro wz hSz; go_simp; try with_reducible rfl)⟩) hS5c ?_
      go_simp
      refine wpAnyH_ready (rs := [10]) (by kernel_rfl) (by simp) ?_
      refine AllReadyH.cons rfl (fun K hK => ?_) AllReadyH.nil
      refine step_store_row rfl 103 (.tmp 3) (.tmp 12) rfl #[.int .i64 0, .int .i64 0, .int .i64 0, .int .i64 0, .int .i64 0, .int .i64 0, .int .i64 0, .int .i64 0, .int .i64 0, .int .i64 0, .int .i64 0, .int .i64 0, .int .i64 0] #[.int .i64 va0, .int .i64 va1, .int .i64 0, .int .i64 va2, .int .i64 va3, .int .i64 va4, .int .i64 0, .int .i64 0, .int .i64 0, .int .i64 0, .int .i64 0, .int .i64 0, .int .i64 0] _ 103 hr5_2 rfl (by first | rfl | (go_simp; done) | (go_simp; rfl)) (by kernel_rfl) rfl (by simp [Value.oneCell']) ?_
      have hN := setRow_heap _ (y1.heap.size) _ #[.int .i64 va0, .int .i64 va1, .int .i64 0, .int .i64 va2, .int .i64 va3, .int .i64 va4, .int .i64 0, .int .i64 0, .int .i64 0, .int .i64 0, .int .i64 0, .int .i64 0, .int .i64 0] _ _ hr5_2
      have hsz := HU5.out.size
      have HUx := aft_setRow (k := y1.heap.size) HU5.out (by omega) (by omega) #[.int .i64 va0, .int .i64 va1, .int .i64 0, .int .i64 va2, .int .i64 va3, .int .i64 va4, .int .i64 0, .int .i64 0, .int .i64 0, .int .i64 0, .int .i64 0, .int .i64 0, .int .i64 0]
      have hPx := rp_setRow (k := y1.heap.size) HP5.out (by omega) #[.int .i64 va0, .int .i64 va1, .int .i64 0, .int .i64 va2, .int .i64 va3, .int .i64 va4, .int .i64 0, .int .i64 0, .int .i64 0, .int .i64 0, .int .i64 0, .int .i64 0, .int .i64 0]
      obtain ⟨y6, hy6⟩ : ∃ y, y5.setRow (y1.heap.size) #[.int .i64 va0, .int .i64 va1, .int .i64 0, .int .i64 va2, .int .i64 va3, .int .i64 va4, .int .i64 0, .int .i64 0, .int .i64 0, .int .i64 0, .int .i64 0, .int .i64 0, .int .i64 0] = y := ⟨_, rfl⟩
      have hO : ∀ k, k ≠ y1.heap.size → y6.heap[k]? = y5.heap[k]? := fun k hk => by rw [← hy6]; exact setRow_other _ _ _ _ hk
      rw [hy6] at hN HUx hPx ⊢
      clear hy6
      have HU6 := Lib.hid HUx
      clear HUx
      have HP6 := Lib.hid hPx
      have hz6 := HU6.out.size
      have hr6_0 := (hO _ (by omega)).trans hr5_0
      have hr6_1 := (hO _ (by omega)).trans hr5_1
      have hr6_2 := hN
      clear hN
      refine hK.out _ _ ((hO _ (by omega)).trans hS5c) (fun hS6s => ?_)
      clear hK K
      refine wpAnyH_done (by kernel_rfl) ?_ _
      go_wp2_with fail
      go_meet
      exact ⟨_, rfl, by omega, hr6_2, hr6_0, hr6_1, HP6, HU6⟩
  case rest =>
    obtain ⟨gs, rfl, hgs, hr9_2, hr9_0, hr9_1, HP9, HU9⟩ := hcut
    rename World => y9
    have hz9 := HU9.out.size
    have c0_0 := cell_of_row _ _ 0 _ _ _ hr9_0
    simp at c0_0
    have kk := cell_of_row _ _ 2 _ _ _ hr9_2
    simp at kk
    go_wp2_with fail
    clear kk
    refine (HC4.out _ HP9.out (by omega) (by omega)).mono ?_
    rintro e y10 ⟨rfl, hp10, hb10⟩
    have HP10 := Lib.hid hp10
    have hz10 := hb10.size
    clear c0_0
    have hr10_0 := (hb10.block _ (lt_heap hr9_0) (lt_heap hr9_0) (by omega)).trans hr9_0
    have hr10_1 := (hb10.block _ (lt_heap hr9_1) (lt_heap hr9_1) (by omega)).trans hr9_1
    have hr10_2 := (hb10.block _ (lt_heap hr9_2) (lt_heap hr9_2) (by omega)).trans hr9_2
    have HU10 := Lib.hid (HU9.out.trans (hb10.mono HU9.out.size))
    clear hr9_0 hr9_1 hr9_2 HU9
    have c0_0 := cell_of_row _ _ 0 _ _ _ hr10_0
    have c2_0 := cell_of_row _ _ 0 _ _ _ hr10_2
    have c2_1 := cell_of_row _ _ 1 _ _ _ hr10_2
    have c2_2 := cell_of_row _ _ 2 _ _ _ hr10_2
    have c2_3 := cell_of_row _ _ 3 _ _ _ hr10_2
    have c2_4 := cell_of_row _ _ 4 _ _ _ hr10_2
    have c2_5 := cell_of_row _ _ 5 _ _ _ hr10_2
    have c2_6 := cell_of_row _ _ 6 _ _ _ hr10_2
    have c2_7 := cell_of_row _ _ 7 _ _ _ hr10_2
    have c2_8 := cell_of_row _ _ 8 _ _ _ hr10_2
    have c2_9 := cell_of_row _ _ 9 _ _ _ hr10_2
    have c2_10 := cell_of_row _ _ 10 _ _ _ hr10_2
    have c2_11 := cell_of_row _ _ 11 _ _ _ hr10_2
    have c2_12 := cell_of_row _ _ 12 _ _ _ hr10_2
    simp at c0_0 c2_0 c2_1 c2_2 c2_3 c2_4 c2_5 c2_6 c2_7 c2_8 c2_9 c2_10 c2_11 c2_12
    have fz : ∀ j, y10.frozen? ⟨gs, j, none⟩ = false := fun j => by simp [World.frozen?, hr10_2]
    go_upto_region 8 with fail
    clear fz
    clear c0_0 c2_0 c2_1 c2_2 c2_3 c2_4 c2_5 c2_6 c2_7 c2_8 c2_9 c2_10 c2_11 c2_12
    have hN : (y10.setCell ⟨gs, 12, none⟩ (.int .i64 va5)).heap[gs]? = some (.cells #[.int .i64 va0, .int .i64 va1, .int .i64 0, .int .i64 va2, .int .i64 va3, .int .i64 va4, .int .i64 0, .int .i64 0, .int .i64 0, .int .i64 0, .int .i64 0, .int .i64 0, .int .i64 va5] 103 (0, 0)) := heap_setCell_same _ _ 12 _ _ _ hr10_2
    have hO : ∀ kk, kk ≠ gs → (y10.setCell ⟨gs, 12, none⟩ (.int .i64 va5)).heap[kk]? = y10.heap[kk]? := fun kk hk => Below.heap_setCell _ _ _ _ hk
    have HUx := HU10.out.setNew (b := gs) (by omega) (by omega) 12 (.int .i64 va5)
    have hPx := HP10.out.set (b := gs) (by omega) 12 (.int .i64 va5)
    obtain ⟨y11, hy11⟩ : ∃ y, y10.setCell ⟨gs, 12, none⟩ (.int .i64 va5) = y := ⟨_, rfl⟩
    rw [hy11] at hN hO HUx hPx ⊢
    clear hy11
    have HU11 := Lib.hid HUx
    have HP11 := Lib.hid hPx
    have hz11 := HU11.out.size
    have hr11_0 := (hO _ (by omega)).trans hr10_0
    have hr11_1 := (hO _ (by omega)).trans hr10_1
    have hr11_2 := hN
    clear hN hO HUx
    clear hr10_0 hr10_1 hr10_2 HU10
    have HWL := Lib.hid hr11_2
    have HWZ := Lib.hid (show (Tryz.prog.info? 103).map (·.size) = some (#[.int .i64 va0, .int .i64 va1, .int .i64 0, .int .i64 va2, .int .i64 va3, .int .i64 va4, .int .i64 0, .int .i64 0, .int .i64 0, .int .i64 0, .int .i64 0, .int .i64 0, .int .i64 va5] : Array Value).size by kernel_rfl)
    have hHr := Lib.hid hr11_1
    have hHi := Lib.hid (show (Tryz.prog.info? 103).map (·.size) = some (#[.int .i64 va0, .int .i64 va1, .int .i64 0, .int .i64 va2, .int .i64 va3, .int .i64 va4, .int .i64 0, .int .i64 0, .int .i64 0, .int .i64 0, .int .i64 0, .int .i64 0, .int .i64 va5] : Array Value).size by kernel_rfl)
    have hHz := Lib.hid (show (#[.int .i64 0, .int .i64 0, .int .i64 0, .int .i64 0, .int .i64 0, .int .i64 0, .int .i64 0, .int .i64 0, .int .i64 0, .int .i64 0, .int .i64 0, .int .i64 0, .int .i64 0] : Array Value).size = (#[.int .i64 va0, .int .i64 va1, .int .i64 0, .int .i64 va2, .int .i64 va3, .int .i64 va4, .int .i64 0, .int .i64 0, .int .i64 0, .int .i64 0, .int .i64 0, .int .i64 0, .int .i64 va5] : Array Value).size from rfl)
    have hHo := Lib.hid (show (#[.int .i64 va0, .int .i64 va1, .int .i64 0, .int .i64 va2, .int .i64 va3, .int .i64 va4, .int .i64 0, .int .i64 0, .int .i64 0, .int .i64 0, .int .i64 0, .int .i64 0, .int .i64 va5] : Array Value).all (·.oneCell') = true by simp [Value.oneCell'])
    go_wp2_with (first | (with_reducible refine wpList_load_row rfl 103 (.tmp 3) rfl gs rfl 103 #[.int .i64 va0, .int .i64 va1, .int .i64 0, .int .i64 va2, .int .i64 va3, .int .i64 va4, .int .i64 0, .int .i64 0, .int .i64 0, .int .i64 0, .int .i64 0, .int .i64 0, .int .i64 va5] (0, 0) _ HWL.out Tryz.underlying103 rfl HWZ.out ?_) | (refine Au.wpList_store_row rfl 103 (.tmp 2) (.tmp 34) rfl y11 #[.int .i64 0, .int .i64 0, .int .i64 0, .int .i64 0, .int .i64 0, .int .i64 0, .int .i64 0, .int .i64 0, .int .i64 0, .int .i64 0, .int .i64 0, .int .i64 0, .int .i64 0] #[.int .i64 va0, .int .i64 va1, .int .i64 0, .int .i64 va2, .int .i64 va3, .int .i64 va4, .int .i64 0, .int .i64 0, .int .i64 0, .int .i64 0, .int .i64 0, .int .i64 0, .int .i64 va5] (w.heap.size + 1) 103 hHr.out rfl rfl hHi.out hHz.out hHo.out ?_))
    clear hHr hHi hHz hHo
    have hN := setRow_heap _ (w.heap.size + 1) _ #[.int .i64 va0, .int .i64 va1, .int .i64 0, .int .i64 va2, .int .i64 va3, .int .i64 va4, .int .i64 0, .int .i64 0, .int .i64 0, .int .i64 0, .int .i64 0, .int .i64 0, .int .i64 va5] _ _ hr11_1
    have hsz := HU11.out.size
    have HUx := aft_setRow (k := w.heap.size + 1) HU11.out (by omega) (by omega) #[.int .i64 va0, .int .i64 va1, .int .i64 0, .int .i64 va2, .int .i64 va3, .int .i64 va4, .int .i64 0, .int .i64 0, .int .i64 0, .int .i64 0, .int .i64 0, .int .i64 0, .int .i64 va5]
    have hPx := rp_setRow (k := w.heap.size + 1) HP11.out (by omega) #[.int .i64 va0, .int .i64 va1, .int .i64 0, .int .i64 va2, .int .i64 va3, .int .i64 va4, .int .i64 0, .int .i64 0, .int .i64 0, .int .i64 0, .int .i64 0, .int .i64 0, .int .i64 va5]
    have hO : ∀ kk, kk ≠ w.heap.size + 1 → (y11.setRow (w.heap.size + 1) #[.int .i64 va0, .int .i64 va1, .int .i64 0, .int .i64 va2, .int .i64 va3, .int .i64 va4, .int .i64 0, .int .i64 0, .int .i64 0, .int .i64 0, .int .i64 0, .int .i64 0, .int .i64 va5]).heap[kk]? = y11.heap[kk]? := fun kk hk => setRow_other _ _ _ _ hk
    obtain ⟨y12, hy12⟩ : ∃ y, y11.setRow (w.heap.size + 1) #[.int .i64 va0, .int .i64 va1, .int .i64 0, .int .i64 va2, .int .i64 va3, .int .i64 va4, .int .i64 0, .int .i64 0, .int .i64 0, .int .i64 0, .int .i64 0, .int .i64 0, .int .i64 va5] = y := ⟨_, rfl⟩
    rw [hy12] at hN HUx hO hPx ⊢
    clear hy12 hsz
    have HU12 := Lib.hid HUx
    clear HUx
    have HP12 := Lib.hid hPx
    have hz12 := HU12.out.size
    have hr12_0 := (hO _ (by omega)).trans hr11_0
    have hr12_1 := hN
    have hr12_2 := (hO _ (by omega)).trans hr11_2
    clear hN hO
    clear hr11_0 hr11_1 hr11_2 HU11
    clear HWL HWZ
    go_wp2
    all_goals exact bodyPost_ret (v := .agg #[.int .i64 va0, .int .i64 va1, .int .i64 0, .int .i64 va2, .int .i64 va3, .int .i64 va4, .int .i64 0, .int .i64 0, .int .i64 0, .int .i64 0, .int .i64 0, .int .i64 0, .int .i64 va5]) (results_row (t := 103) Tryz.results36 rfl hr12_1 Tryz.underlying103 rfl (by kernel_rfl)) rfl ⟨rfl, HP12.out, HU12.out⟩

set_option maxHeartbeats 8000000 in
set_option maxRecDepth 100000 in
theorem jshape_face (g : Nat) {B : Nat} (t0 t1 t2 t3 t4 t5 : St) (va0 va1 va2 va3 va4 va5 va6 va7 va8 va9 va10 : Int) (C1 : ∀ W : World, RP (.pointer (some ⟨g, 0, none⟩)) g B t0 W → g < W.heap.size → B ≤ W.heap.size → Calls Tryz.prog 68 #[.agg #[.pointer (some ⟨g, 0, none⟩)]] W fun e' w' => e' = .returned (.agg #[.int .i64 va0, .int .i64 va1]) ∧ RP (.pointer (some ⟨g, 0, none⟩)) g B t1 w' ∧ Aft g W.heap.size W w') (C2 : ∀ W : World, RP (.pointer (some ⟨g, 0, none⟩)) g B t1 W → g < W.heap.size → B ≤ W.heap.size → Calls Tryz.prog 60 #[.pointer (some ⟨g, 0, none⟩)] W fun e' w' => e' = .returned (.int .i64 1) ∧ RP (.pointer (some ⟨g, 0, none⟩)) g B t2 w' ∧ Aft g W.heap.size W w') (C3 : ∀ W : World, RP (.pointer (some ⟨g, 0, none⟩)) g B t2 W → g < W.heap.size → B ≤ W.heap.size → Calls Tryz.prog 69 #[.pointer (some ⟨g, 0, none⟩)] W fun e' w' => e' = .returned (.agg #[.int .i64 va2, .int .i64 va3, .int .i64 va4]) ∧ RP (.pointer (some ⟨g, 0, none⟩)) g B t3 w' ∧ Aft g W.heap.size W w') (C4 : ∀ W : World, RP (.pointer (some ⟨g, 0, none⟩)) g B t3 W → g < W.heap.size → B ≤ W.heap.size → Calls Tryz.prog 69 #[.pointer (some ⟨g, 0, none⟩)] W fun e' w' => e' = .returned (.agg #[.int .i64 va5, .int .i64 va6, .int .i64 va7]) ∧ RP (.pointer (some ⟨g, 0, none⟩)) g B t4 w' ∧ Aft g W.heap.size W w') (C5 : ∀ W : World, RP (.pointer (some ⟨g, 0, none⟩)) g B t4 W → g < W.heap.size → B ≤ W.heap.size → Calls Tryz.prog 69 #[.pointer (some ⟨g, 0, none⟩)] W fun e' w' => e' = .returned (.agg #[.int .i64 va8, .int .i64 va9, .int .i64 va10]) ∧ RP (.pointer (some ⟨g, 0, none⟩)) g B t5 w' ∧ Aft g W.heap.size W w') (w : World) (hw : RP (.pointer (some ⟨g, 0, none⟩)) g B t0 w) (hg : g < w.heap.size) (hB : B ≤ w.heap.size) : Calls Tryz.prog 36 #[.agg #[.pointer (some ⟨g, 0, none⟩)]] w fun e' w' => e' = .returned (.agg #[.int .i64 va0, .int .i64 va1, .int .i64 1, .int .i64 va2, .int .i64 va3, .int .i64 va4, .int .i64 va5, .int .i64 va6, .int .i64 va7, .int .i64 va8, .int .i64 va9, .int .i64 va10, .int .i64 0]) ∧ RP (.pointer (some ⟨g, 0, none⟩)) g B (t5) w' ∧ Aft g w.heap.size w w' := by
  have HPw := Lib.hid hw
  clear hw
  have HC1 := Lib.hid C1
  clear C1
  have HC2 := Lib.hid C2
  clear C2
  have HC3 := Lib.hid C3
  clear C3
  have HC4 := Lib.hid C4
  clear C4
  have HC5 := Lib.hid C5
  clear C5
  go_enter Tryz.func36, Tryz.ntmps36
  go_upto_region 1 with fail
  have hR := Au.rows2 w (.cells #[.pointer (some ⟨g, 0, none⟩)] 59) (.cells #[.int .i64 0, .int .i64 0, .int .i64 0, .int .i64 0, .int .i64 0, .int .i64 0, .int .i64 0, .int .i64 0, .int .i64 0, .int .i64 0, .int .i64 0, .int .i64 0, .int .i64 0] 103)
  have HUx := Ve.below_n2 w (.cells #[.pointer (some ⟨g, 0, none⟩)] 59) (.cells #[.int .i64 0, .int .i64 0, .int .i64 0, .int .i64 0, .int .i64 0, .int .i64 0, .int .i64 0, .int .i64 0, .int .i64 0, .int .i64 0, .int .i64 0, .int .i64 0, .int .i64 0] 103)
  obtain ⟨y0, hy0⟩ : ∃ y0, (w.alloc (.cells #[.pointer (some ⟨g, 0, none⟩)] 59)).alloc (.cells #[.int .i64 0, .int .i64 0, .int .i64 0, .int .i64 0, .int .i64 0, .int .i64 0, .int .i64 0, .int .i64 0, .int .i64 0, .int .i64 0, .int .i64 0, .int .i64 0, .int .i64 0] 103) = y0 := ⟨_, rfl⟩
  rw [hy0] at hR HUx ⊢
  clear hy0
  have HP0 := Lib.hid (HPw.out.new HUx)
  have hz0 := HUx.size
  have HU0 := Lib.hid (Aft.of (g := g) (base := w.heap.size) HUx)
  clear HUx
  obtain ⟨hr0_0, hr0_1⟩ := hR
  go_cut [3] (fun s3 wx => ∃ gs : Nat, s3 = .pointer (some ⟨gs, 0, none⟩) ∧ w.heap.size + 1 < gs ∧ wx.heap[gs]? = some (.cells #[.int .i64 va0, .int .i64 va1, .int .i64 1, .int .i64 va2, .int .i64 va3, .int .i64 va4, .int .i64 0, .int .i64 0, .int .i64 0, .int .i64 0, .int .i64 0, .int .i64 0, .int .i64 0] 103 (0, 0)) ∧ wx.heap[w.heap.size]? = some (.cells #[.pointer (some ⟨g, 0, none⟩)] 59 (0, 0)) ∧ wx.heap[w.heap.size + 1]? = some (.cells #[.int .i64 0, .int .i64 0, .int .i64 0, .int .i64 0, .int .i64 0, .int .i64 0, .int .i64 0, .int .i64 0, .int .i64 0, .int .i64 0, .int .i64 0, .int .i64 0, .int .i64 0] 103 (0, 0)) ∧ Hid (RP (.pointer (some ⟨g, 0, none⟩)) g B t3 wx) ∧ Hid (Aft g w.heap.size w wx))
  case first =>
    refine wp_region_held_drew (S := fun y => y.heap[w.heap.size]? = some (.cells #[.pointer (some ⟨g, 0, none⟩)] 59 (0, 0))) (by kernel_rfl) (hr0_0) (fun hS0 => ?_)
    obtain ⟨y1, hy1⟩ : ∃ y, y0.drew = y := ⟨_, rfl⟩
    have HU1 := Lib.hid (show Aft g w.heap.size w y1 by rw [← hy1]; exact HU0.out.drew)
    have HP1 := Lib.hid (show RP (.pointer (some ⟨g, 0, none⟩)) g B _ y1 by rw [← hy1]; exact rp_drew HP0.out)
    have hz1 := HU1.out.size
    have hr1_0 : y1.heap[w.heap.size]? = some (.cells #[.pointer (some ⟨g, 0, none⟩)] 59 (0, 0)) := by rw [← hy1]; exact hr0_0
    have hr1_1 : y1.heap[w.heap.size + 1]? = some (.cells #[.int .i64 0, .int .i64 0, .int .i64 0, .int .i64 0, .int .i64 0, .int .i64 0, .int .i64 0, .int .i64 0, .int .i64 0, .int .i64 0, .int .i64 0, .int .i64 0, .int .i64 0] 103 (0, 0)) := by rw [← hy1]; exact hr0_1
    have hl1_0 := lt_heap hr1_0
    have hl1_1 := lt_heap hr1_1
    rw [hy1] at hS0 ⊢
    clear hy1
    refine wpAnyH_take (i := 0) (v := .agg #[.pointer (some ⟨g, 0, none⟩)]) rfl (by kernel_rfl) (by kernel_rfl) (by kernel_rfl) (fun _ _ _ h => h) (Lr.yieldsIf_load_row (by kernel_rfl) 59 (.tmp 1) rfl (w.heap.size) rfl 59 #[.pointer (some ⟨g, 0, none⟩)] _ (fun yy hh => hh) Tryz.underlying59 rfl (by kernel_rfl)) hS0 ?_
    go_simp
    refine wpAnyH_take (i := 2) (v := ?_) rfl (by kernel_rfl) (by kernel_rfl) (by kernel_rfl) (fun _ _ _ h => h) (Or.inl ⟨by kernel_rfl, by (intro wz hSz; go_simp; try with_reducible rfl)⟩) hS0 ?_
    go_simp
    refine wpAnyH_take (i := 3) (v := ?_) rfl (by kernel_rfl) (by kernel_rfl) (by kernel_rfl) (fun _ _ _ h => h) (Or.inl ⟨by kernel_rfl, by (intro wz hSz; have c0_0 := cell_of_row _ _ 0 _ _ _ hSz; simp at c0_0; go_simp; try with_reducible rfl)⟩) hS0 ?_
    go_simp
    refine wpAnyH_take (i := 5) (v := ?_) rfl (by kernel_rfl) (by kernel_rfl) (by kernel_rfl) (fun _ _ _ h => h) (Or.inl ⟨by kernel_rfl, by (intro wz hSz; go_simp; try with_reducible rfl)⟩) hS0 ?_
    go_simp
    refine wpAnyH_take (i := 6) (v := ?_) rfl (by kernel_rfl) (by kernel_rfl) (by kernel_rfl) (fun _ _ _ h => h) (Or.inl ⟨by kernel_rfl, by (intro wz hSz; have c0_0 := cell_of_row _ _ 0 _ _ _ hSz; simp at c0_0; go_simp; try with_reducible rfl)⟩) hS0 ?_
    go_simp
    refine wpAnyH_ready (rs := [1, 9]) (by kernel_rfl) (by simp) ?_
    refine AllReadyH.cons rfl (fun K hK => ?_) (AllReadyH.cons rfl (fun K hK => ?_) AllReadyH.nil)
    · skip
      go_simp
      go_wp2_with (go_at_call 68; refine (HC1.out _ HP1.out (by omega) (by omega)).mono ?_; rintro e y2 ⟨rfl, hp2, hb2⟩)
      have HP2 := Lib.hid hp2
      have hz2 := hb2.size
      have hr2_0 := (hb2.block _ (lt_heap hr1_0) (lt_heap hr1_0) (by omega)).trans hr1_0
      have hr2_1 := (hb2.block _ (lt_heap hr1_1) (lt_heap hr1_1) (by omega)).trans hr1_1
      have HU2 := Lib.hid (HU1.out.trans (hb2.mono HU1.out.size))
      refine hK.out _ _ ((hb2.block _ (lt_heap hS0) (lt_heap hS0) (by omega)).trans hS0) (fun hS2c => ?_)
      clear hK K
      refine wpAnyH_ready (rs := [4, 9]) (by kernel_rfl) (by simp) ?_
      refine AllReadyH.cons rfl (fun K hK => ?_) (AllReadyH.cons rfl (fun K hK => ?_) AllReadyH.nil)
      · skip
        go_simp
        go_wp2_with (go_at_call 60; refine (HC2.out _ HP2.out (by omega) (by omega)).mono ?_; rintro e y3 ⟨rfl, hp3, hb3⟩)
        have HP3 := Lib.hid hp3
        have hz3 := hb3.size
        have hr3_0 := (hb3.block _ (lt_heap hr2_0) (lt_heap hr2_0) (by omega)).trans hr2_0
        have hr3_1 := (hb3.block _ (lt_heap hr2_1) (lt_heap hr2_1) (by omega)).trans hr2_1
        have HU3 := Lib.hid (HU2.out.trans (hb3.mono HU2.out.size))
        refine hK.out _ _ ((hb3.block _ (lt_heap hS2c) (lt_heap hS2c) (by omega)).trans hS2c) (fun hS3c => ?_)
        clear hK K
        refine wpAnyH_ready (rs := [7, 9]) (by kernel_rfl) (by simp) ?_
        refine AllReadyH.cons rfl (fun K hK => ?_) (AllReadyH.cons rfl (fun K hK => ?_) AllReadyH.nil)
        · skip
          go_simp
          go_wp2_with (go_at_call 69; refine (HC3.out _ HP3.out (by omega) (by omega)).mono ?_; rintro e y4 ⟨rfl, hp4, hb4⟩)
          have HP4 := Lib.hid hp4
          have hz4 := hb4.size
          have hr4_0 := (hb4.block _ (lt_heap hr3_0) (lt_heap hr3_0) (by omega)).trans hr3_0
          have hr4_1 := (hb4.block _ (lt_heap hr3_1) (lt_heap hr3_1) (by omega)).trans hr3_1
          have HU4 := Lib.hid (HU3.out.trans (hb4.mono HU3.out.size))
          refine hK.out _ _ ((hb4.block _ (lt_heap hS3c) (lt_heap hS3c) (by omega)).trans hS3c) (fun hS4c => ?_)
          clear hK K
          refine wpAnyH_take (i := 8) (v := ?_) rfl (by kernel_rfl) (by kernel_rfl) (by kernel_rfl) (fun _ _ _ h => h) (Or.inl ⟨by kernel_rfl, by (intro wz hSz; go_simp; try with_reducible rfl)⟩) hS4c ?_
          go_simp
          refine wpAnyH_ready (rs := [9]) (by kernel_rfl) (by simp) ?_
          refine AllReadyH.cons rfl (fun K hK => ?_) AllReadyH.nil
          go_simp
          have hb5 := Ve.below_n1 y4 (.cells #[.int .i64 0, .int .i64 0, .int .i64 0, .int .i64 0, .int .i64 0, .int .i64 0, .int .i64 0, .int .i64 0, .int .i64 0, .int .i64 0, .int .i64 0, .int .i64 0, .int .i64 0] 103)
          have hp5 := HP4.out.new hb5
          have hb5 := Aft.of (g := g) (base := y4.heap.size) hb5
          have hN := heap_alloc_last y4 (.cells #[.int .i64 0, .int .i64 0, .int .i64 0, .int .i64 0, .int .i64 0, .int .i64 0, .int .i64 0, .int .i64 0, .int .i64 0, .int .i64 0, .int .i64 0, .int .i64 0, .int .i64 0] 103)
          obtain ⟨y5, hy5⟩ : ∃ y, y4.alloc (.cells #[.int .i64 0, .int .i64 0, .int .i64 0, .int .i64 0, .int .i64 0, .int .i64 0, .int .i64 0, .int .i64 0, .int .i64 0, .int .i64 0, .int .i64 0, .int .i64 0, .int .i64 0] 103) = y := ⟨_, rfl⟩
          rw [hy5] at hb5 hN hp5 ⊢
          clear hy5
          have HP5 := Lib.hid hp5
          have hz5 := hb5.size
          have hl5_0 := lt_heap hr4_0
          have hr5_0 := (hb5.block _ (lt_heap hr4_0) (lt_heap hr4_0) (by omega)).trans hr4_0
          have hl5_1 := lt_heap hr4_1
          have hr5_1 := (hb5.block _ (lt_heap hr4_1) (lt_heap hr4_1) (by omega)).trans hr4_1
          have hr5_2 := hN
          clear hN
          have HU5 := Lib.hid (HU4.out.trans (hb5.mono HU4.out.size))
          refine hK.out _ _ ((hb5.block _ (lt_heap hS4c) (lt_heap hS4c) (by omega)).trans hS4c) (fun hS5a => ?_)
          clear hK K
          refine wpAnyH_ready (rs := [10]) (by kernel_rfl) (by simp) ?_
          refine AllReadyH.cons rfl (fun K hK => ?_) AllReadyH.nil
          refine step_store_row rfl 103 (.tmp 3) (.tmp 12) rfl #[.int .i64 0, .int .i64 0, .int .i64 0, .int .i64 0, .int .i64 0, .int .i64 0, .int .i64 0, .int .i64 0, .int .i64 0, .int .i64 0, .int .i64 0, .int .i64 0, .int .i64 0] #[.int .i64 va0, .int .i64 va1, .int .i64 1, .int .i64 va2, .int .i64 va3, .int .i64 va4, .int .i64 0, .int .i64 0, .int .i64 0, .int .i64 0, .int .i64 0, .int .i64 0, .int .i64 0] _ 103 hr5_2 rfl (by first | rfl | (go_simp; done) | (go_simp; rfl)) (by kernel_rfl) rfl (by simp [Value.oneCell']) ?_
          have hN := setRow_heap _ (y4.heap.size) _ #[.int .i64 va0, .int .i64 va1, .int .i64 1, .int .i64 va2, .int .i64 va3, .int .i64 va4, .int .i64 0, .int .i64 0, .int .i64 0, .int .i64 0, .int .i64 0, .int .i64 0, .int .i64 0] _ _ hr5_2
          have hsz := HU5.out.size
          have HUx := aft_setRow (k := y4.heap.size) HU5.out (by omega) (by omega) #[.int .i64 va0, .int .i64 va1, .int .i64 1, .int .i64 va2, .int .i64 va3, .int .i64 va4, .int .i64 0, .int .i64 0, .int .i64 0, .int .i64 0, .int .i64 0, .int .i64 0, .int .i64 0]
          have hPx := rp_setRow (k := y4.heap.size) HP5.out (by omega) #[.int .i64 va0, .int .i64 va1, .int .i64 1, .int .i64 va2, .int .i64 va3, .int .i64 va4, .int .i64 0, .int .i64 0, .int .i64 0, .int .i64 0, .int .i64 0, .int .i64 0, .int .i64 0]
          obtain ⟨y6, hy6⟩ : ∃ y, y5.setRow (y4.heap.size) #[.int .i64 va0, .int .i64 va1, .int .i64 1, .int .i64 va2, .int .i64 va3, .int .i64 va4, .int .i64 0, .int .i64 0, .int .i64 0, .int .i64 0, .int .i64 0, .int .i64 0, .int .i64 0] = y := ⟨_, rfl⟩
          have hO : ∀ k, k ≠ y4.heap.size → y6.heap[k]? = y5.heap[k]? := fun k hk => by rw [← hy6]; exact setRow_other _ _ _ _ hk
          rw [hy6] at hN HUx hPx ⊢
          clear hy6
          have HU6 := Lib.hid HUx
          clear HUx
          have HP6 := Lib.hid hPx
          have hz6 := HU6.out.size
          have hr6_0 := (hO _ (by omega)).trans hr5_0
          have hr6_1 := (hO _ (by omega)).trans hr5_1
          have hr6_2 := hN
          clear hN
          refine hK.out _ _ ((hO _ (by omega)).trans hS5a) (fun hS6s => ?_)
          clear hK K
          refine wpAnyH_done (by kernel_rfl) ?_ _
          go_wp2_with fail
          go_meet
          exact ⟨_, rfl, by omega, hr6_2, hr6_0, hr6_1, HP6, HU6⟩
        · skip
          go_simp
          have hb4 := Ve.below_n1 y3 (.cells #[.int .i64 0, .int .i64 0, .int .i64 0, .int .i64 0, .int .i64 0, .int .i64 0, .int .i64 0, .int .i64 0, .int .i64 0, .int .i64 0, .int .i64 0, .int .i64 0, .int .i64 0] 103)
          have hp4 := HP3.out.new hb4
          have hb4 := Aft.of (g := g) (base := y3.heap.size) hb4
          have hN := heap_alloc_last y3 (.cells #[.int .i64 0, .int .i64 0, .int .i64 0, .int .i64 0, .int .i64 0, .int .i64 0, .int .i64 0, .int .i64 0, .int .i64 0, .int .i64 0, .int .i64 0, .int .i64 0, .int .i64 0] 103)
          obtain ⟨y4, hy4⟩ : ∃ y, y3.alloc (.cells #[.int .i64 0, .int .i64 0, .int .i64 0, .int .i64 0, .int .i64 0, .int .i64 0, .int .i64 0, .int .i64 0, .int .i64 0, .int .i64 0, .int .i64 0, .int .i64 0, .int .i64 0] 103) = y := ⟨_, rfl⟩
          rw [hy4] at hb4 hN hp4 ⊢
          clear hy4
          have HP4 := Lib.hid hp4
          have hz4 := hb4.size
          have hl4_0 := lt_heap hr3_0
          have hr4_0 := (hb4.block _ (lt_heap hr3_0) (lt_heap hr3_0) (by omega)).trans hr3_0
          have hl4_1 := lt_heap hr3_1
          have hr4_1 := (hb4.block _ (lt_heap hr3_1) (lt_heap hr3_1) (by omega)).trans hr3_1
          have hr4_2 := hN
          clear hN
          have HU4 := Lib.hid (HU3.out.trans (hb4.mono HU3.out.size))
          refine hK.out _ _ ((hb4.block _ (lt_heap hS3c) (lt_heap hS3c) (by omega)).trans hS3c) (fun hS4a => ?_)
          clear hK K
          refine wpAnyH_ready (rs := [7]) (by kernel_rfl) (by simp) ?_
          refine AllReadyH.cons rfl (fun K hK => ?_) AllReadyH.nil
          go_simp
          go_wp2_with (go_at_call 69; refine (HC3.out _ HP4.out (by omega) (by omega)).mono ?_; rintro e y5 ⟨rfl, hp5, hb5⟩)
          have HP5 := Lib.hid hp5
          have hz5 := hb5.size
          have hr5_0 := (hb5.block _ (lt_heap hr4_0) (lt_heap hr4_0) (by omega)).trans hr4_0
          have hr5_1 := (hb5.block _ (lt_heap hr4_1) (lt_heap hr4_1) (by omega)).trans hr4_1
          have hr5_2 := (hb5.block _ (lt_heap hr4_2) (lt_heap hr4_2) (by omega)).trans hr4_2
          have HU5 := Lib.hid (HU4.out.trans (hb5.mono HU4.out.size))
          refine hK.out _ _ ((hb5.block _ (lt_heap hS4a) (lt_heap hS4a) (by omega)).trans hS4a) (fun hS5c => ?_)
          clear hK K
          refine wpAnyH_take (i := 8) (v := ?_) rfl (by kernel_rfl) (by kernel_rfl) (by kernel_rfl) (fun _ _ _ h => h) (Or.inl ⟨by kernel_rfl, by (intro wz hSz; go_simp; try with_reducible rfl)⟩) hS5c ?_
          go_simp
          refine wpAnyH_ready (rs := [10]) (by kernel_rfl) (by simp) ?_
          refine AllReadyH.cons rfl (fun K hK => ?_) AllReadyH.nil
          refine step_store_row rfl 103 (.tmp 3) (.tmp 12) rfl #[.int .i64 0, .int .i64 0, .int .i64 0, .int .i64 0, .int .i64 0, .int .i64 0, .int .i64 0, .int .i64 0, .int .i64 0, .int .i64 0, .int .i64 0, .int .i64 0, .int .i64 0] #[.int .i64 va0, .int .i64 va1, .int .i64 1, .int .i64 va2, .int .i64 va3, .int .i64 va4, .int .i64 0, .int .i64 0, .int .i64 0, .int .i64 0, .int .i64 0, .int .i64 0, .int .i64 0] _ 103 hr5_2 rfl (by first | rfl | (go_simp; done) | (go_simp; rfl)) (by kernel_rfl) rfl (by simp [Value.oneCell']) ?_
          have hN := setRow_heap _ (y3.heap.size) _ #[.int .i64 va0, .int .i64 va1, .int .i64 1, .int .i64 va2, .int .i64 va3, .int .i64 va4, .int .i64 0, .int .i64 0, .int .i64 0, .int .i64 0, .int .i64 0, .int .i64 0, .int .i64 0] _ _ hr5_2
          have hsz := HU5.out.size
          have HUx := aft_setRow (k := y3.heap.size) HU5.out (by omega) (by omega) #[.int .i64 va0, .int .i64 va1, .int .i64 1, .int .i64 va2, .int .i64 va3, .int .i64 va4, .int .i64 0, .int .i64 0, .int .i64 0, .int .i64 0, .int .i64 0, .int .i64 0, .int .i64 0]
          have hPx := rp_setRow (k := y3.heap.size) HP5.out (by omega) #[.int .i64 va0, .int .i64 va1, .int .i64 1, .int .i64 va2, .int .i64 va3, .int .i64 va4, .int .i64 0, .int .i64 0, .int .i64 0, .int .i64 0, .int .i64 0, .int .i64 0, .int .i64 0]
          obtain ⟨y6, hy6⟩ : ∃ y, y5.setRow (y3.heap.size) #[.int .i64 va0, .int .i64 va1, .int .i64 1, .int .i64 va2, .int .i64 va3, .int .i64 va4, .int .i64 0, .int .i64 0, .int .i64 0, .int .i64 0, .int .i64 0, .int .i64 0, .int .i64 0] = y := ⟨_, rfl⟩
          have hO : ∀ k, k ≠ y3.heap.size → y6.heap[k]? = y5.heap[k]? := fun k hk => by rw [← hy6]; exact setRow_other _ _ _ _ hk
          rw [hy6] at hN HUx hPx ⊢
          clear hy6
          have HU6 := Lib.hid HUx
          clear HUx
          have HP6 := Lib.hid hPx
          have hz6 := HU6.out.size
          have hr6_0 := (hO _ (by omega)).trans hr5_0
          have hr6_1 := (hO _ (by omega)).trans hr5_1
          have hr6_2 := hN
          clear hN
          refine hK.out _ _ ((hO _ (by omega)).trans hS5c) (fun hS6s => ?_)
          clear hK K
          refine wpAnyH_done (by kernel_rfl) ?_ _
          go_wp2_with fail
          go_meet
          exact ⟨_, rfl, by omega, hr6_2, hr6_0, hr6_1, HP6, HU6⟩
      · skip
        go_simp
        have hb3 := Ve.below_n1 y2 (.cells #[.int .i64 0, .int .i64 0, .int .i64 0, .int .i64 0, .int .i64 0, .int .i64 0, .int .i64 0, .int .i64 0, .int .i64 0, .int .i64 0, .int .i64 0, .int .i64 0, .int .i64 0] 103)
        have hp3 := HP2.out.new hb3
        have hb3 := Aft.of (g := g) (base := y2.heap.size) hb3
        have hN := heap_alloc_last y2 (.cells #[.int .i64 0, .int .i64 0, .int .i64 0, .int .i64 0, .int .i64 0, .int .i64 0, .int .i64 0, .int .i64 0, .int .i64 0, .int .i64 0, .int .i64 0, .int .i64 0, .int .i64 0] 103)
        obtain ⟨y3, hy3⟩ : ∃ y, y2.alloc (.cells #[.int .i64 0, .int .i64 0, .int .i64 0, .int .i64 0, .int .i64 0, .int .i64 0, .int .i64 0, .int .i64 0, .int .i64 0, .int .i64 0, .int .i64 0, .int .i64 0, .int .i64 0] 103) = y := ⟨_, rfl⟩
        rw [hy3] at hb3 hN hp3 ⊢
        clear hy3
        have HP3 := Lib.hid hp3
        have hz3 := hb3.size
        have hl3_0 := lt_heap hr2_0
        have hr3_0 := (hb3.block _ (lt_heap hr2_0) (lt_heap hr2_0) (by omega)).trans hr2_0
        have hl3_1 := lt_heap hr2_1
        have hr3_1 := (hb3.block _ (lt_heap hr2_1) (lt_heap hr2_1) (by omega)).trans hr2_1
        have hr3_2 := hN
        clear hN
        have HU3 := Lib.hid (HU2.out.trans (hb3.mono HU2.out.size))
        refine hK.out _ _ ((hb3.block _ (lt_heap hS2c) (lt_heap hS2c) (by omega)).trans hS2c) (fun hS3a => ?_)
        clear hK K
        refine wpAnyH_ready (rs := [4]) (by kernel_rfl) (by simp) ?_
        refine AllReadyH.cons rfl (fun K hK => ?_) AllReadyH.nil
        go_simp
        go_wp2_with (go_at_call 60; refine (HC2.out _ HP3.out (by omega) (by omega)).mono ?_; rintro e y4 ⟨rfl, hp4, hb4⟩)
        have HP4 := Lib.hid hp4
        have hz4 := hb4.size
        have hr4_0 := (hb4.block _ (lt_heap hr3_0) (lt_heap hr3_0) (by omega)).trans hr3_0
        have hr4_1 := (hb4.block _ (lt_heap hr3_1) (lt_heap hr3_1) (by omega)).trans hr3_1
        have hr4_2 := (hb4.block _ (lt_heap hr3_2) (lt_heap hr3_2) (by omega)).trans hr3_2
        have HU4 := Lib.hid (HU3.out.trans (hb4.mono HU3.out.size))
        refine hK.out _ _ ((hb4.block _ (lt_heap hS3a) (lt_heap hS3a) (by omega)).trans hS3a) (fun hS4c => ?_)
        clear hK K
        refine wpAnyH_ready (rs := [7]) (by kernel_rfl) (by simp) ?_
        refine AllReadyH.cons rfl (fun K hK => ?_) AllReadyH.nil
        go_simp
        go_wp2_with (go_at_call 69; refine (HC3.out _ HP4.out (by omega) (by omega)).mono ?_; rintro e y5 ⟨rfl, hp5, hb5⟩)
        have HP5 := Lib.hid hp5
        have hz5 := hb5.size
        have hr5_0 := (hb5.block _ (lt_heap hr4_0) (lt_heap hr4_0) (by omega)).trans hr4_0
        have hr5_1 := (hb5.block _ (lt_heap hr4_1) (lt_heap hr4_1) (by omega)).trans hr4_1
        have hr5_2 := (hb5.block _ (lt_heap hr4_2) (lt_heap hr4_2) (by omega)).trans hr4_2
        have HU5 := Lib.hid (HU4.out.trans (hb5.mono HU4.out.size))
        refine hK.out _ _ ((hb5.block _ (lt_heap hS4c) (lt_heap hS4c) (by omega)).trans hS4c) (fun hS5c => ?_)
        clear hK K
        refine wpAnyH_take (i := 8) (v := ?_) rfl (by kernel_rfl) (by kernel_rfl) (by kernel_rfl) (fun _ _ _ h => h) (Or.inl ⟨by kernel_rfl, by (intro wz hSz; go_simp; try with_reducible rfl)⟩) hS5c ?_
        go_simp
        refine wpAnyH_ready (rs := [10]) (by kernel_rfl) (by simp) ?_
        refine AllReadyH.cons rfl (fun K hK => ?_) AllReadyH.nil
        refine step_store_row rfl 103 (.tmp 3) (.tmp 12) rfl #[.int .i64 0, .int .i64 0, .int .i64 0, .int .i64 0, .int .i64 0, .int .i64 0, .int .i64 0, .int .i64 0, .int .i64 0, .int .i64 0, .int .i64 0, .int .i64 0, .int .i64 0] #[.int .i64 va0, .int .i64 va1, .int .i64 1, .int .i64 va2, .int .i64 va3, .int .i64 va4, .int .i64 0, .int .i64 0, .int .i64 0, .int .i64 0, .int .i64 0, .int .i64 0, .int .i64 0] _ 103 hr5_2 rfl (by first | rfl | (go_simp; done) | (go_simp; rfl)) (by kernel_rfl) rfl (by simp [Value.oneCell']) ?_
        have hN := setRow_heap _ (y2.heap.size) _ #[.int .i64 va0, .int .i64 va1, .int .i64 1, .int .i64 va2, .int .i64 va3, .int .i64 va4, .int .i64 0, .int .i64 0, .int .i64 0, .int .i64 0, .int .i64 0, .int .i64 0, .int .i64 0] _ _ hr5_2
        have hsz := HU5.out.size
        have HUx := aft_setRow (k := y2.heap.size) HU5.out (by omega) (by omega) #[.int .i64 va0, .int .i64 va1, .int .i64 1, .int .i64 va2, .int .i64 va3, .int .i64 va4, .int .i64 0, .int .i64 0, .int .i64 0, .int .i64 0, .int .i64 0, .int .i64 0, .int .i64 0]
        have hPx := rp_setRow (k := y2.heap.size) HP5.out (by omega) #[.int .i64 va0, .int .i64 va1, .int .i64 1, .int .i64 va2, .int .i64 va3, .int .i64 va4, .int .i64 0, .int .i64 0, .int .i64 0, .int .i64 0, .int .i64 0, .int .i64 0, .int .i64 0]
        obtain ⟨y6, hy6⟩ : ∃ y, y5.setRow (y2.heap.size) #[.int .i64 va0, .int .i64 va1, .int .i64 1, .int .i64 va2, .int .i64 va3, .int .i64 va4, .int .i64 0, .int .i64 0, .int .i64 0, .int .i64 0, .int .i64 0, .int .i64 0, .int .i64 0] = y := ⟨_, rfl⟩
        have hO : ∀ k, k ≠ y2.heap.size → y6.heap[k]? = y5.heap[k]? := fun k hk => by rw [← hy6]; exact setRow_other _ _ _ _ hk
        rw [hy6] at hN HUx hPx ⊢
        clear hy6
        have HU6 := Lib.hid HUx
        clear HUx
        have HP6 := Lib.hid hPx
        have hz6 := HU6.out.size
        have hr6_0 := (hO _ (by omega)).trans hr5_0
        have hr6_1 := (hO _ (by omega)).trans hr5_1
        have hr6_2 := hN
        clear hN
        refine hK.out _ _ ((hO _ (by omega)).trans hS5c) (fun hS6s => ?_)
        clear hK K
        refine wpAnyH_done (by kernel_rfl) ?_ _
        go_wp2_with fail
        go_meet
        exact ⟨_, rfl, by omega, hr6_2, hr6_0, hr6_1, HP6, HU6⟩
    · skip
      go_simp
      have hb2 := Ve.below_n1 y1 (.cells #[.int .i64 0, .int .i64 0, .int .i64 0, .int .i64 0, .int .i64 0, .int .i64 0, .int .i64 0, .int .i64 0, .int .i64 0, .int .i64 0, .int .i64 0, .int .i64 0, .int .i64 0] 103)
      have hp2 := HP1.out.new hb2
      have hb2 := Aft.of (g := g) (base := y1.heap.size) hb2
      have hN := heap_alloc_last y1 (.cells #[.int .i64 0, .int .i64 0, .int .i64 0, .int .i64 0, .int .i64 0, .int .i64 0, .int .i64 0, .int .i64 0, .int .i64 0, .int .i64 0, .int .i64 0, .int .i64 0, .int .i64 0] 103)
      obtain ⟨y2, hy2⟩ : ∃ y, y1.alloc (.cells #[.int .i64 0, .int .i64 0, .int .i64 0, .int .i64 0, .int .i64 0, .int .i64 0, .int .i64 0, .int .i64 0, .int .i64 0, .int .i64 0, .int .i64 0, .int .i64 0, .int .i64 0] 103) = y := ⟨_, rfl⟩
      rw [hy2] at hb2 hN hp2 ⊢
      clear hy2
      have HP2 := Lib.hid hp2
      have hz2 := hb2.size
      have hl2_0 := lt_heap hr1_0
      have hr2_0 := (hb2.block _ (lt_heap hr1_0) (lt_heap hr1_0) (by omega)).trans hr1_0
      have hl2_1 := lt_heap hr1_1
      have hr2_1 := (hb2.block _ (lt_heap hr1_1) (lt_heap hr1_1) (by omega)).trans hr1_1
      have hr2_2 := hN
      clear hN
      have HU2 := Lib.hid (HU1.out.trans (hb2.mono HU1.out.size))
      refine hK.out _ _ ((hb2.block _ (lt_heap hS0) (lt_heap hS0) (by omega)).trans hS0) (fun hS2a => ?_)
      clear hK K
      refine wpAnyH_ready (rs := [1]) (by kernel_rfl) (by simp) ?_
      refine AllReadyH.cons rfl (fun K hK => ?_) AllReadyH.nil
      go_simp
      go_wp2_with (go_at_call 68; refine (HC1.out _ HP2.out (by omega) (by omega)).mono ?_; rintro e y3 ⟨rfl, hp3, hb3⟩)
      have HP3 := Lib.hid hp3
      have hz3 := hb3.size
      have hr3_0 := (hb3.block _ (lt_heap hr2_0) (lt_heap hr2_0) (by omega)).trans hr2_0
      have hr3_1 := (hb3.block _ (lt_heap hr2_1) (lt_heap hr2_1) (by omega)).trans hr2_1
      have hr3_2 := (hb3.block _ (lt_heap hr2_2) (lt_heap hr2_2) (by omega)).trans hr2_2
      have HU3 := Lib.hid (HU2.out.trans (hb3.mono HU2.out.size))
      refine hK.out _ _ ((hb3.block _ (lt_heap hS2a) (lt_heap hS2a) (by omega)).trans hS2a) (fun hS3c => ?_)
      clear hK K
      refine wpAnyH_ready (rs := [4]) (by kernel_rfl) (by simp) ?_
      refine AllReadyH.cons rfl (fun K hK => ?_) AllReadyH.nil
      go_simp
      go_wp2_with (go_at_call 60; refine (HC2.out _ HP3.out (by omega) (by omega)).mono ?_; rintro e y4 ⟨rfl, hp4, hb4⟩)
      have HP4 := Lib.hid hp4
      have hz4 := hb4.size
      have hr4_0 := (hb4.block _ (lt_heap hr3_0) (lt_heap hr3_0) (by omega)).trans hr3_0
      have hr4_1 := (hb4.block _ (lt_heap hr3_1) (lt_heap hr3_1) (by omega)).trans hr3_1
      have hr4_2 := (hb4.block _ (lt_heap hr3_2) (lt_heap hr3_2) (by omega)).trans hr3_2
      have HU4 := Lib.hid (HU3.out.trans (hb4.mono HU3.out.size))
      refine hK.out _ _ ((hb4.block _ (lt_heap hS3c) (lt_heap hS3c) (by omega)).trans hS3c) (fun hS4c => ?_)
      clear hK K
      refine wpAnyH_ready (rs := [7]) (by kernel_rfl) (by simp) ?_
      refine AllReadyH.cons rfl (fun K hK => ?_) AllReadyH.nil
      go_simp
      go_wp2_with (go_at_call 69; refine (HC3.out _ HP4.out (by omega) (by omega)).mono ?_; rintro e y5 ⟨rfl, hp5, hb5⟩)
      have HP5 := Lib.hid hp5
      have hz5 := hb5.size
      have hr5_0 := (hb5.block _ (lt_heap hr4_0) (lt_heap hr4_0) (by omega)).trans hr4_0
      have hr5_1 := (hb5.block _ (lt_heap hr4_1) (lt_heap hr4_1) (by omega)).trans hr4_1
      have hr5_2 := (hb5.block _ (lt_heap hr4_2) (lt_heap hr4_2) (by omega)).trans hr4_2
      have HU5 := Lib.hid (HU4.out.trans (hb5.mono HU4.out.size))
      refine hK.out _ _ ((hb5.block _ (lt_heap hS4c) (lt_heap hS4c) (by omega)).trans hS4c) (fun hS5c => ?_)
      clear hK K
      refine wpAnyH_take (i := 8) (v := ?_) rfl (by kernel_rfl) (by kernel_rfl) (by kernel_rfl) (fun _ _ _ h => h) (Or.inl ⟨by kernel_rfl, by (intro wz hSz; go_simp; try with_reducible rfl)⟩) hS5c ?_
      go_simp
      refine wpAnyH_ready (rs := [10]) (by kernel_rfl) (by simp) ?_
      refine AllReadyH.cons rfl (fun K hK => ?_) AllReadyH.nil
      refine step_store_row rfl 103 (.tmp 3) (.tmp 12) rfl #[.int .i64 0, .int .i64 0, .int .i64 0, .int .i64 0, .int .i64 0, .int .i64 0, .int .i64 0, .int .i64 0, .int .i64 0, .int .i64 0, .int .i64 0, .int .i64 0, .int .i64 0] #[.int .i64 va0, .int .i64 va1, .int .i64 1, .int .i64 va2, .int .i64 va3, .int .i64 va4, .int .i64 0, .int .i64 0, .int .i64 0, .int .i64 0, .int .i64 0, .int .i64 0, .int .i64 0] _ 103 hr5_2 rfl (by first | rfl | (go_simp; done) | (go_simp; rfl)) (by kernel_rfl) rfl (by simp [Value.oneCell']) ?_
      have hN := setRow_heap _ (y1.heap.size) _ #[.int .i64 va0, .int .i64 va1, .int .i64 1, .int .i64 va2, .int .i64 va3, .int .i64 va4, .int .i64 0, .int .i64 0, .int .i64 0, .int .i64 0, .int .i64 0, .int .i64 0, .int .i64 0] _ _ hr5_2
      have hsz := HU5.out.size
      have HUx := aft_setRow (k := y1.heap.size) HU5.out (by omega) (by omega) #[.int .i64 va0, .int .i64 va1, .int .i64 1, .int .i64 va2, .int .i64 va3, .int .i64 va4, .int .i64 0, .int .i64 0, .int .i64 0, .int .i64 0, .int .i64 0, .int .i64 0, .int .i64 0]
      have hPx := rp_setRow (k := y1.heap.size) HP5.out (by omega) #[.int .i64 va0, .int .i64 va1, .int .i64 1, .int .i64 va2, .int .i64 va3, .int .i64 va4, .int .i64 0, .int .i64 0, .int .i64 0, .int .i64 0, .int .i64 0, .int .i64 0, .int .i64 0]
      obtain ⟨y6, hy6⟩ : ∃ y, y5.setRow (y1.heap.size) #[.int .i64 va0, .int .i64 va1, .int .i64 1, .int .i64 va2, .int .i64 va3, .int .i64 va4, .int .i64 0, .int .i64 0, .int .i64 0, .int .i64 0, .int .i64 0, .int .i64 0, .int .i64 0] = y := ⟨_, rfl⟩
      have hO : ∀ k, k ≠ y1.heap.size → y6.heap[k]? = y5.heap[k]? := fun k hk => by rw [← hy6]; exact setRow_other _ _ _ _ hk
      rw [hy6] at hN HUx hPx ⊢
      clear hy6
      have HU6 := Lib.hid HUx
      clear HUx
      have HP6 := Lib.hid hPx
      have hz6 := HU6.out.size
      have hr6_0 := (hO _ (by omega)).trans hr5_0
      have hr6_1 := (hO _ (by omega)).trans hr5_1
      have hr6_2 := hN
      clear hN
      refine hK.out _ _ ((hO _ (by omega)).trans hS5c) (fun hS6s => ?_)
      clear hK K
      refine wpAnyH_done (by kernel_rfl) ?_ _
      go_wp2_with fail
      go_meet
      exact ⟨_, rfl, by omega, hr6_2, hr6_0, hr6_1, HP6, HU6⟩
  case rest =>
    obtain ⟨gs, rfl, hgs, hr9_2, hr9_0, hr9_1, HP9, HU9⟩ := hcut
    rename World => y9
    have hz9 := HU9.out.size
    have kk := cell_of_row _ _ 2 _ _ _ hr9_2
    simp at kk
    go_upto_region 7 with fail
    clear kk
    refine wp_region_held_drew (S := fun y => y.heap[w.heap.size]? = some (.cells #[.pointer (some ⟨g, 0, none⟩)] 59 (0, 0))) (by kernel_rfl) (hr9_0) (fun hS0 => ?_)
    obtain ⟨y10, hy10⟩ : ∃ y, y9.drew = y := ⟨_, rfl⟩
    have HU10 := Lib.hid (show Aft g w.heap.size w y10 by rw [← hy10]; exact HU9.out.drew)
    have HP10 := Lib.hid (show RP (.pointer (some ⟨g, 0, none⟩)) g B _ y10 by rw [← hy10]; exact rp_drew HP9.out)
    have hz10 := HU10.out.size
    have hr10_0 : y10.heap[w.heap.size]? = some (.cells #[.pointer (some ⟨g, 0, none⟩)] 59 (0, 0)) := by rw [← hy10]; exact hr9_0
    have hr10_1 : y10.heap[w.heap.size + 1]? = some (.cells #[.int .i64 0, .int .i64 0, .int .i64 0, .int .i64 0, .int .i64 0, .int .i64 0, .int .i64 0, .int .i64 0, .int .i64 0, .int .i64 0, .int .i64 0, .int .i64 0, .int .i64 0] 103 (0, 0)) := by rw [← hy10]; exact hr9_1
    have hr10_2 : y10.heap[gs]? = some (.cells #[.int .i64 va0, .int .i64 va1, .int .i64 1, .int .i64 va2, .int .i64 va3, .int .i64 va4, .int .i64 0, .int .i64 0, .int .i64 0, .int .i64 0, .int .i64 0, .int .i64 0, .int .i64 0] 103 (0, 0)) := by rw [← hy10]; exact hr9_2
    have hl10_0 := lt_heap hr10_0
    have hl10_1 := lt_heap hr10_1
    have hl10_2 := lt_heap hr10_2
    rw [hy10] at hS0 ⊢
    clear hy10
    refine wpAnyH_take (i := 0) (v := ?_) rfl (by kernel_rfl) (by kernel_rfl) (by kernel_rfl) (fun _ _ _ h => h) (Or.inl ⟨by kernel_rfl, by (intro wz hSz; go_simp; try with_reducible rfl)⟩) hS0 ?_
    go_simp
    refine wpAnyH_take (i := 1) (v := ?_) rfl (by kernel_rfl) (by kernel_rfl) (by kernel_rfl) (fun _ _ _ h => h) (Or.inl ⟨by kernel_rfl, by (intro wz hSz; have c0_0 := cell_of_row _ _ 0 _ _ _ hSz; simp at c0_0; go_simp; try with_reducible rfl)⟩) hS0 ?_
    go_simp
    refine wpAnyH_take (i := 3) (v := ?_) rfl (by kernel_rfl) (by kernel_rfl) (by kernel_rfl) (fun _ _ _ h => h) (Or.inl ⟨by kernel_rfl, by (intro wz hSz; go_simp; try with_reducible rfl)⟩) hS0 ?_
    go_simp
    refine wpAnyH_take (i := 4) (v := ?_) rfl (by kernel_rfl) (by kernel_rfl) (by kernel_rfl) (fun _ _ _ h => h) (Or.inl ⟨by kernel_rfl, by (intro wz hSz; have c0_0 := cell_of_row _ _ 0 _ _ _ hSz; simp at c0_0; go_simp; try with_reducible rfl)⟩) hS0 ?_
    go_simp
    refine wpAnyH_ready (rs := [2]) (by kernel_rfl) (by simp) ?_
    refine AllReadyH.cons rfl (fun K hK => ?_) AllReadyH.nil
    go_simp
    go_wp2_with (go_at_call 69; refine (HC4.out _ HP10.out (by omega) (by omega)).mono ?_; rintro e y11 ⟨rfl, hp11, hb11⟩)
    have HP11 := Lib.hid hp11
    have hz11 := hb11.size
    have hr11_0 := (hb11.block _ (lt_heap hr10_0) (lt_heap hr10_0) (by omega)).trans hr10_0
    have hr11_1 := (hb11.block _ (lt_heap hr10_1) (lt_heap hr10_1) (by omega)).trans hr10_1
    have hr11_2 := (hb11.block _ (lt_heap hr10_2) (lt_heap hr10_2) (by omega)).trans hr10_2
    have HU11 := Lib.hid (HU10.out.trans (hb11.mono HU10.out.size))
    refine hK.out _ _ ((hb11.block _ (lt_heap hS0) (lt_heap hS0) (by omega)).trans hS0) (fun hS11c => ?_)
    clear hK K
    refine wpAnyH_take (i := 6) (v := ?_) rfl (by kernel_rfl) (by kernel_rfl) (by kernel_rfl) (fun _ _ _ h => h) (Or.inl ⟨by kernel_rfl, by (intro wz hSz; go_simp; try with_reducible rfl)⟩) hS11c ?_
    go_simp
    refine wpAnyH_ready (rs := [5]) (by kernel_rfl) (by simp) ?_
    refine AllReadyH.cons rfl (fun K hK => ?_) AllReadyH.nil
    go_simp
    go_wp2_with (go_at_call 69; refine (HC5.out _ HP11.out (by omega) (by omega)).mono ?_; rintro e y12 ⟨rfl, hp12, hb12⟩)
    have HP12 := Lib.hid hp12
    have hz12 := hb12.size
    have hr12_0 := (hb12.block _ (lt_heap hr11_0) (lt_heap hr11_0) (by omega)).trans hr11_0
    have hr12_1 := (hb12.block _ (lt_heap hr11_1) (lt_heap hr11_1) (by omega)).trans hr11_1
    have hr12_2 := (hb12.block _ (lt_heap hr11_2) (lt_heap hr11_2) (by omega)).trans hr11_2
    have HU12 := Lib.hid (HU11.out.trans (hb12.mono HU11.out.size))
    refine hK.out _ _ ((hb12.block _ (lt_heap hS11c) (lt_heap hS11c) (by omega)).trans hS11c) (fun hS12c => ?_)
    clear hK K
    refine wpAnyH_ready (rs := [7]) (by kernel_rfl) (by simp) ?_
    refine AllReadyH.cons rfl (fun K hK => ?_) AllReadyH.nil
    have p0 := cell_of_row _ _ 0 _ _ _ hr12_2
    have p1 := cell_of_row _ _ 1 _ _ _ hr12_2
    have p2 := cell_of_row _ _ 2 _ _ _ hr12_2
    have p3 := cell_of_row _ _ 3 _ _ _ hr12_2
    have p4 := cell_of_row _ _ 4 _ _ _ hr12_2
    have p5 := cell_of_row _ _ 5 _ _ _ hr12_2
    have p6 := cell_of_row _ _ 6 _ _ _ hr12_2
    have p7 := cell_of_row _ _ 7 _ _ _ hr12_2
    have p8 := cell_of_row _ _ 8 _ _ _ hr12_2
    have p9 := cell_of_row _ _ 9 _ _ _ hr12_2
    have p10 := cell_of_row _ _ 10 _ _ _ hr12_2
    have p11 := cell_of_row _ _ 11 _ _ _ hr12_2
    have p12 := cell_of_row _ _ 12 _ _ _ hr12_2
    simp at p0 p1 p2 p3 p4 p5 p6 p7 p8 p9 p10 p11 p12
    have fz : ∀ j, y12.frozen? ⟨gs, j, none⟩ = false := fun j => by simp [World.frozen?, hr12_2]
    go_simp
    clear fz p0 p1 p2 p3 p4 p5 p6 p7 p8 p9 p10 p11 p12
    have hN : (((y12.setCell ⟨gs, 6, none⟩ (.int .i64 va5)).setCell ⟨gs, 7, none⟩ (.int .i64 va6)).setCell ⟨gs, 8, none⟩ (.int .i64 va7)).heap[gs]? = some (.cells #[.int .i64 va0, .int .i64 va1, .int .i64 1, .int .i64 va2, .int .i64 va3, .int .i64 va4, .int .i64 va5, .int .i64 va6, .int .i64 va7, .int .i64 0, .int .i64 0, .int .i64 0, .int .i64 0] 103 (0, 0)) := part3 hr12_2 _ _ _ rfl
    have hsz := HU12.out.size
    have HUx := aft_put3 (k := gs) (o := 6) HU12.out (by omega) (by omega) (.int .i64 va5) (.int .i64 va6) (.int .i64 va7)
    have hPx := rp_put3 (k := gs) (o := 6) HP12.out (by omega) (.int .i64 va5) (.int .i64 va6) (.int .i64 va7)
    have hO : ∀ kk, kk ≠ gs → (((y12.setCell ⟨gs, 6, none⟩ (.int .i64 va5)).setCell ⟨gs, 7, none⟩ (.int .i64 va6)).setCell ⟨gs, 8, none⟩ (.int .i64 va7)).heap[kk]? = y12.heap[kk]? := fun kk hk => put3_other _ _ _ _ _ hk
    obtain ⟨y13, hy13⟩ : ∃ y, ((y12.setCell ⟨gs, 6, none⟩ (.int .i64 va5)).setCell ⟨gs, 7, none⟩ (.int .i64 va6)).setCell ⟨gs, 8, none⟩ (.int .i64 va7) = y := ⟨_, rfl⟩
    rw [hy13] at hN HUx hO hPx ⊢
    clear hy13
    have HU13 := Lib.hid HUx
    clear HUx
    have HP13 := Lib.hid hPx
    have hz13 := HU13.out.size
    have hr13_0 := (hO _ (by omega)).trans hr12_0
    have hr13_1 := (hO _ (by omega)).trans hr12_1
    have hr13_2 := hN
    clear hN
    refine hK.out _ _ ((hO _ (by omega)).trans hS12c) (fun hS13p => ?_)
    clear hK K
    refine wpAnyH_take (i := 8) (v := ?_) rfl (by kernel_rfl) (by kernel_rfl) (by kernel_rfl) (fun _ _ _ h => h) (Or.inl ⟨by kernel_rfl, by (intro wz hSz; go_simp; try with_reducible rfl)⟩) hS13p ?_
    go_simp
    refine wpAnyH_ready (rs := [9]) (by kernel_rfl) (by simp) ?_
    refine AllReadyH.cons rfl (fun K hK => ?_) AllReadyH.nil
    have p0 := cell_of_row _ _ 0 _ _ _ hr13_2
    have p1 := cell_of_row _ _ 1 _ _ _ hr13_2
    have p2 := cell_of_row _ _ 2 _ _ _ hr13_2
    have p3 := cell_of_row _ _ 3 _ _ _ hr13_2
    have p4 := cell_of_row _ _ 4 _ _ _ hr13_2
    have p5 := cell_of_row _ _ 5 _ _ _ hr13_2
    have p6 := cell_of_row _ _ 6 _ _ _ hr13_2
    have p7 := cell_of_row _ _ 7 _ _ _ hr13_2
    have p8 := cell_of_row _ _ 8 _ _ _ hr13_2
    have p9 := cell_of_row _ _ 9 _ _ _ hr13_2
    have p10 := cell_of_row _ _ 10 _ _ _ hr13_2
    have p11 := cell_of_row _ _ 11 _ _ _ hr13_2
    have p12 := cell_of_row _ _ 12 _ _ _ hr13_2
    simp at p0 p1 p2 p3 p4 p5 p6 p7 p8 p9 p10 p11 p12
    have fz : ∀ j, y13.frozen? ⟨gs, j, none⟩ = false := fun j => by simp [World.frozen?, hr13_2]
    go_simp
    clear fz p0 p1 p2 p3 p4 p5 p6 p7 p8 p9 p10 p11 p12
    have hN : (((y13.setCell ⟨gs, 9, none⟩ (.int .i64 va8)).setCell ⟨gs, 10, none⟩ (.int .i64 va9)).setCell ⟨gs, 11, none⟩ (.int .i64 va10)).heap[gs]? = some (.cells #[.int .i64 va0, .int .i64 va1, .int .i64 1, .int .i64 va2, .int .i64 va3, .int .i64 va4, .int .i64 va5, .int .i64 va6, .int .i64 va7, .int .i64 va8, .int .i64 va9, .int .i64 va10, .int .i64 0] 103 (0, 0)) := part3 hr13_2 _ _ _ rfl
    have hsz := HU13.out.size
    have HUx := aft_put3 (k := gs) (o := 9) HU13.out (by omega) (by omega) (.int .i64 va8) (.int .i64 va9) (.int .i64 va10)
    have hPx := rp_put3 (k := gs) (o := 9) HP13.out (by omega) (.int .i64 va8) (.int .i64 va9) (.int .i64 va10)
    have hO : ∀ kk, kk ≠ gs → (((y13.setCell ⟨gs, 9, none⟩ (.int .i64 va8)).setCell ⟨gs, 10, none⟩ (.int .i64 va9)).setCell ⟨gs, 11, none⟩ (.int .i64 va10)).heap[kk]? = y13.heap[kk]? := fun kk hk => put3_other _ _ _ _ _ hk
    obtain ⟨y14, hy14⟩ : ∃ y, ((y13.setCell ⟨gs, 9, none⟩ (.int .i64 va8)).setCell ⟨gs, 10, none⟩ (.int .i64 va9)).setCell ⟨gs, 11, none⟩ (.int .i64 va10) = y := ⟨_, rfl⟩
    rw [hy14] at hN HUx hO hPx ⊢
    clear hy14
    have HU14 := Lib.hid HUx
    clear HUx
    have HP14 := Lib.hid hPx
    have hz14 := HU14.out.size
    have hr14_0 := (hO _ (by omega)).trans hr13_0
    have hr14_1 := (hO _ (by omega)).trans hr13_1
    have hr14_2 := hN
    clear hN
    refine hK.out _ _ ((hO _ (by omega)).trans hS13p) (fun hS14p => ?_)
    clear hK K
    refine wpAnyH_done (by kernel_rfl) ?_ _
    go_upto_region 8 with fail
    have HWL := Lib.hid hr14_2
    have HWZ := Lib.hid (show (Tryz.prog.info? 103).map (·.size) = some (#[.int .i64 va0, .int .i64 va1, .int .i64 1, .int .i64 va2, .int .i64 va3, .int .i64 va4, .int .i64 va5, .int .i64 va6, .int .i64 va7, .int .i64 va8, .int .i64 va9, .int .i64 va10, .int .i64 0] : Array Value).size by kernel_rfl)
    have hHr := Lib.hid hr14_1
    have hHi := Lib.hid (show (Tryz.prog.info? 103).map (·.size) = some (#[.int .i64 va0, .int .i64 va1, .int .i64 1, .int .i64 va2, .int .i64 va3, .int .i64 va4, .int .i64 va5, .int .i64 va6, .int .i64 va7, .int .i64 va8, .int .i64 va9, .int .i64 va10, .int .i64 0] : Array Value).size by kernel_rfl)
    have hHz := Lib.hid (show (#[.int .i64 0, .int .i64 0, .int .i64 0, .int .i64 0, .int .i64 0, .int .i64 0, .int .i64 0, .int .i64 0, .int .i64 0, .int .i64 0, .int .i64 0, .int .i64 0, .int .i64 0] : Array Value).size = (#[.int .i64 va0, .int .i64 va1, .int .i64 1, .int .i64 va2, .int .i64 va3, .int .i64 va4, .int .i64 va5, .int .i64 va6, .int .i64 va7, .int .i64 va8, .int .i64 va9, .int .i64 va10, .int .i64 0] : Array Value).size from rfl)
    have hHo := Lib.hid (show (#[.int .i64 va0, .int .i64 va1, .int .i64 1, .int .i64 va2, .int .i64 va3, .int .i64 va4, .int .i64 va5, .int .i64 va6, .int .i64 va7, .int .i64 va8, .int .i64 va9, .int .i64 va10, .int .i64 0] : Array Value).all (·.oneCell') = true by simp [Value.oneCell'])
    go_wp2_with (first | (with_reducible refine wpList_load_row rfl 103 (.tmp 3) rfl gs rfl 103 #[.int .i64 va0, .int .i64 va1, .int .i64 1, .int .i64 va2, .int .i64 va3, .int .i64 va4, .int .i64 va5, .int .i64 va6, .int .i64 va7, .int .i64 va8, .int .i64 va9, .int .i64 va10, .int .i64 0] (0, 0) _ HWL.out Tryz.underlying103 rfl HWZ.out ?_) | (refine Au.wpList_store_row rfl 103 (.tmp 2) (.tmp 34) rfl y14 #[.int .i64 0, .int .i64 0, .int .i64 0, .int .i64 0, .int .i64 0, .int .i64 0, .int .i64 0, .int .i64 0, .int .i64 0, .int .i64 0, .int .i64 0, .int .i64 0, .int .i64 0] #[.int .i64 va0, .int .i64 va1, .int .i64 1, .int .i64 va2, .int .i64 va3, .int .i64 va4, .int .i64 va5, .int .i64 va6, .int .i64 va7, .int .i64 va8, .int .i64 va9, .int .i64 va10, .int .i64 0] (w.heap.size + 1) 103 hHr.out rfl rfl hHi.out hHz.out hHo.out ?_))
    clear hHr hHi hHz hHo
    have hN := setRow_heap _ (w.heap.size + 1) _ #[.int .i64 va0, .int .i64 va1, .int .i64 1, .int .i64 va2, .int .i64 va3, .int .i64 va4, .int .i64 va5, .int .i64 va6, .int .i64 va7, .int .i64 va8, .int .i64 va9, .int .i64 va10, .int .i64 0] _ _ hr14_1
    have hsz := HU14.out.size
    have HUx := aft_setRow (k := w.heap.size + 1) HU14.out (by omega) (by omega) #[.int .i64 va0, .int .i64 va1, .int .i64 1, .int .i64 va2, .int .i64 va3, .int .i64 va4, .int .i64 va5, .int .i64 va6, .int .i64 va7, .int .i64 va8, .int .i64 va9, .int .i64 va10, .int .i64 0]
    have hPx := rp_setRow (k := w.heap.size + 1) HP14.out (by omega) #[.int .i64 va0, .int .i64 va1, .int .i64 1, .int .i64 va2, .int .i64 va3, .int .i64 va4, .int .i64 va5, .int .i64 va6, .int .i64 va7, .int .i64 va8, .int .i64 va9, .int .i64 va10, .int .i64 0]
    have hO : ∀ kk, kk ≠ w.heap.size + 1 → (y14.setRow (w.heap.size + 1) #[.int .i64 va0, .int .i64 va1, .int .i64 1, .int .i64 va2, .int .i64 va3, .int .i64 va4, .int .i64 va5, .int .i64 va6, .int .i64 va7, .int .i64 va8, .int .i64 va9, .int .i64 va10, .int .i64 0]).heap[kk]? = y14.heap[kk]? := fun kk hk => setRow_other _ _ _ _ hk
    obtain ⟨y15, hy15⟩ : ∃ y, y14.setRow (w.heap.size + 1) #[.int .i64 va0, .int .i64 va1, .int .i64 1, .int .i64 va2, .int .i64 va3, .int .i64 va4, .int .i64 va5, .int .i64 va6, .int .i64 va7, .int .i64 va8, .int .i64 va9, .int .i64 va10, .int .i64 0] = y := ⟨_, rfl⟩
    rw [hy15] at hN HUx hO hPx ⊢
    clear hy15 hsz
    have HU15 := Lib.hid HUx
    clear HUx
    have HP15 := Lib.hid hPx
    have hz15 := HU15.out.size
    have hr15_0 := (hO _ (by omega)).trans hr14_0
    have hr15_1 := hN
    have hr15_2 := (hO _ (by omega)).trans hr14_2
    clear hN hO
    clear hr14_0 hr14_1 hr14_2 HU14
    clear HWL HWZ
    go_wp2
    all_goals exact bodyPost_ret (v := .agg #[.int .i64 va0, .int .i64 va1, .int .i64 1, .int .i64 va2, .int .i64 va3, .int .i64 va4, .int .i64 va5, .int .i64 va6, .int .i64 va7, .int .i64 va8, .int .i64 va9, .int .i64 va10, .int .i64 0]) (results_row (t := 103) Tryz.results36 rfl hr15_1 Tryz.underlying103 rfl (by kernel_rfl)) rfl ⟨rfl, HP15.out, HU15.out⟩

set_option maxHeartbeats 8000000 in
set_option maxRecDepth 100000 in
theorem jshape_other (g : Nat) {B : Nat} (t0 t1 t2 t3 : St) (va0 va1 va2 va3 va4 : Int) (z : Int) (h0 : ¬ z = 0) (h1 : ¬ z = 1) (C1 : ∀ W : World, RP (.pointer (some ⟨g, 0, none⟩)) g B t0 W → g < W.heap.size → B ≤ W.heap.size → Calls Tryz.prog 68 #[.agg #[.pointer (some ⟨g, 0, none⟩)]] W fun e' w' => e' = .returned (.agg #[.int .i64 va0, .int .i64 va1]) ∧ RP (.pointer (some ⟨g, 0, none⟩)) g B t1 w' ∧ Aft g W.heap.size W w') (C2 : ∀ W : World, RP (.pointer (some ⟨g, 0, none⟩)) g B t1 W → g < W.heap.size → B ≤ W.heap.size → Calls Tryz.prog 60 #[.pointer (some ⟨g, 0, none⟩)] W fun e' w' => e' = .returned (.int .i64 z) ∧ RP (.pointer (some ⟨g, 0, none⟩)) g B t2 w' ∧ Aft g W.heap.size W w') (C3 : ∀ W : World, RP (.pointer (some ⟨g, 0, none⟩)) g B t2 W → g < W.heap.size → B ≤ W.heap.size → Calls Tryz.prog 69 #[.pointer (some ⟨g, 0, none⟩)] W fun e' w' => e' = .returned (.agg #[.int .i64 va2, .int .i64 va3, .int .i64 va4]) ∧ RP (.pointer (some ⟨g, 0, none⟩)) g B t3 w' ∧ Aft g W.heap.size W w') (w : World) (hw : RP (.pointer (some ⟨g, 0, none⟩)) g B t0 w) (hg : g < w.heap.size) (hB : B ≤ w.heap.size) : Calls Tryz.prog 36 #[.agg #[.pointer (some ⟨g, 0, none⟩)]] w fun e' w' => e' = .returned (.agg #[.int .i64 va0, .int .i64 va1, .int .i64 z, .int .i64 va2, .int .i64 va3, .int .i64 va4, .int .i64 0, .int .i64 0, .int .i64 0, .int .i64 0, .int .i64 0, .int .i64 0, .int .i64 0]) ∧ RP (.pointer (some ⟨g, 0, none⟩)) g B (failS t3 25) w' ∧ Aft g w.heap.size w w' := by
  have HPw := Lib.hid hw
  clear hw
  have HC1 := Lib.hid C1
  clear C1
  have HC2 := Lib.hid C2
  clear C2
  have HC3 := Lib.hid C3
  clear C3
  have d0 : (z == 0) = false := by simpa using h0
  have d1 : (z == 1) = false := by simpa using h1
  have e0 := decide_eq_false h0
  have e1 := decide_eq_false h1
  clear h0 h1
  go_enter Tryz.func36, Tryz.ntmps36
  go_upto_region 1 with fail
  have hR := Au.rows2 w (.cells #[.pointer (some ⟨g, 0, none⟩)] 59) (.cells #[.int .i64 0, .int .i64 0, .int .i64 0, .int .i64 0, .int .i64 0, .int .i64 0, .int .i64 0, .int .i64 0, .int .i64 0, .int .i64 0, .int .i64 0, .int .i64 0, .int .i64 0] 103)
  have HUx := Ve.below_n2 w (.cells #[.pointer (some ⟨g, 0, none⟩)] 59) (.cells #[.int .i64 0, .int .i64 0, .int .i64 0, .int .i64 0, .int .i64 0, .int .i64 0, .int .i64 0, .int .i64 0, .int .i64 0, .int .i64 0, .int .i64 0, .int .i64 0, .int .i64 0] 103)
  obtain ⟨y0, hy0⟩ : ∃ y0, (w.alloc (.cells #[.pointer (some ⟨g, 0, none⟩)] 59)).alloc (.cells #[.int .i64 0, .int .i64 0, .int .i64 0, .int .i64 0, .int .i64 0, .int .i64 0, .int .i64 0, .int .i64 0, .int .i64 0, .int .i64 0, .int .i64 0, .int .i64 0, .int .i64 0] 103) = y0 := ⟨_, rfl⟩
  rw [hy0] at hR HUx ⊢
  clear hy0
  have HP0 := Lib.hid (HPw.out.new HUx)
  have hz0 := HUx.size
  have HU0 := Lib.hid (Aft.of (g := g) (base := w.heap.size) HUx)
  clear HUx
  obtain ⟨hr0_0, hr0_1⟩ := hR
  go_cut [3] (fun s3 wx => ∃ gs : Nat, s3 = .pointer (some ⟨gs, 0, none⟩) ∧ w.heap.size + 1 < gs ∧ wx.heap[gs]? = some (.cells #[.int .i64 va0, .int .i64 va1, .int .i64 z, .int .i64 va2, .int .i64 va3, .int .i64 va4, .int .i64 0, .int .i64 0, .int .i64 0, .int .i64 0, .int .i64 0, .int .i64 0, .int .i64 0] 103 (0, 0)) ∧ wx.heap[w.heap.size]? = some (.cells #[.pointer (some ⟨g, 0, none⟩)] 59 (0, 0)) ∧ wx.heap[w.heap.size + 1]? = some (.cells #[.int .i64 0, .int .i64 0, .int .i64 0, .int .i64 0, .int .i64 0, .int .i64 0, .int .i64 0, .int .i64 0, .int .i64 0, .int .i64 0, .int .i64 0, .int .i64 0, .int .i64 0] 103 (0, 0)) ∧ Hid (RP (.pointer (some ⟨g, 0, none⟩)) g B t3 wx) ∧ Hid (Aft g w.heap.size w wx))
  case first =>
    refine wp_region_held_drew (S := fun y => y.heap[w.heap.size]? = some (.cells #[.pointer (some ⟨g, 0, none⟩)] 59 (0, 0))) (by kernel_rfl) (hr0_0) (fun hS0 => ?_)
    obtain ⟨y1, hy1⟩ : ∃ y, y0.drew = y := ⟨_, rfl⟩
    have HU1 := Lib.hid (show Aft g w.heap.size w y1 by rw [← hy1]; exact HU0.out.drew)
    have HP1 := Lib.hid (show RP (.pointer (some ⟨g, 0, none⟩)) g B _ y1 by rw [← hy1]; exact rp_drew HP0.out)
    have hz1 := HU1.out.size
    have hr1_0 : y1.heap[w.heap.size]? = some (.cells #[.pointer (some ⟨g, 0, none⟩)] 59 (0, 0)) := by rw [← hy1]; exact hr0_0
    have hr1_1 : y1.heap[w.heap.size + 1]? = some (.cells #[.int .i64 0, .int .i64 0, .int .i64 0, .int .i64 0, .int .i64 0, .int .i64 0, .int .i64 0, .int .i64 0, .int .i64 0, .int .i64 0, .int .i64 0, .int .i64 0, .int .i64 0] 103 (0, 0)) := by rw [← hy1]; exact hr0_1
    have hl1_0 := lt_heap hr1_0
    have hl1_1 := lt_heap hr1_1
    rw [hy1] at hS0 ⊢
    clear hy1
    refine wpAnyH_take (i := 0) (v := .agg #[.pointer (some ⟨g, 0, none⟩)]) rfl (by kernel_rfl) (by kernel_rfl) (by kernel_rfl) (fun _ _ _ h => h) (Lr.yieldsIf_load_row (by kernel_rfl) 59 (.tmp 1) rfl (w.heap.size) rfl 59 #[.pointer (some ⟨g, 0, none⟩)] _ (fun yy hh => hh) Tryz.underlying59 rfl (by kernel_rfl)) hS0 ?_
    go_simp
    refine wpAnyH_take (i := 2) (v := ?_) rfl (by kernel_rfl) (by kernel_rfl) (by kernel_rfl) (fun _ _ _ h => h) (Or.inl ⟨by kernel_rfl, by (intro wz hSz; go_simp; try with_reducible rfl)⟩) hS0 ?_
    go_simp
    refine wpAnyH_take (i := 3) (v := ?_) rfl (by kernel_rfl) (by kernel_rfl) (by kernel_rfl) (fun _ _ _ h => h) (Or.inl ⟨by kernel_rfl, by (intro wz hSz; have c0_0 := cell_of_row _ _ 0 _ _ _ hSz; simp at c0_0; go_simp; try with_reducible rfl)⟩) hS0 ?_
    go_simp
    refine wpAnyH_take (i := 5) (v := ?_) rfl (by kernel_rfl) (by kernel_rfl) (by kernel_rfl) (fun _ _ _ h => h) (Or.inl ⟨by kernel_rfl, by (intro wz hSz; go_simp; try with_reducible rfl)⟩) hS0 ?_
    go_simp
    refine wpAnyH_take (i := 6) (v := ?_) rfl (by kernel_rfl) (by kernel_rfl) (by kernel_rfl) (fun _ _ _ h => h) (Or.inl ⟨by kernel_rfl, by (intro wz hSz; have c0_0 := cell_of_row _ _ 0 _ _ _ hSz; simp at c0_0; go_simp; try with_reducible rfl)⟩) hS0 ?_
    go_simp
    refine wpAnyH_ready (rs := [1, 9]) (by kernel_rfl) (by simp) ?_
    refine AllReadyH.cons rfl (fun K hK => ?_) (AllReadyH.cons rfl (fun K hK => ?_) AllReadyH.nil)
    · skip
      go_simp
      go_wp2_with (go_at_call 68; refine (HC1.out _ HP1.out (by omega) (by omega)).mono ?_; rintro e y2 ⟨rfl, hp2, hb2⟩)
      have HP2 := Lib.hid hp2
      have hz2 := hb2.size
      have hr2_0 := (hb2.block _ (lt_heap hr1_0) (lt_heap hr1_0) (by omega)).trans hr1_0
      have hr2_1 := (hb2.block _ (lt_heap hr1_1) (lt_heap hr1_1) (by omega)).trans hr1_1
      have HU2 := Lib.hid (HU1.out.trans (hb2.mono HU1.out.size))
      refine hK.out _ _ ((hb2.block _ (lt_heap hS0) (lt_heap hS0) (by omega)).trans hS0) (fun hS2c => ?_)
      clear hK K
      refine wpAnyH_ready (rs := [4, 9]) (by kernel_rfl) (by simp) ?_
      refine AllReadyH.cons rfl (fun K hK => ?_) (AllReadyH.cons rfl (fun K hK => ?_) AllReadyH.nil)
      · skip
        go_simp
        go_wp2_with (go_at_call 60; refine (HC2.out _ HP2.out (by omega) (by omega)).mono ?_; rintro e y3 ⟨rfl, hp3, hb3⟩)
        have HP3 := Lib.hid hp3
        have hz3 := hb3.size
        have hr3_0 := (hb3.block _ (lt_heap hr2_0) (lt_heap hr2_0) (by omega)).trans hr2_0
        have hr3_1 := (hb3.block _ (lt_heap hr2_1) (lt_heap hr2_1) (by omega)).trans hr2_1
        have HU3 := Lib.hid (HU2.out.trans (hb3.mono HU2.out.size))
        refine hK.out _ _ ((hb3.block _ (lt_heap hS2c) (lt_heap hS2c) (by omega)).trans hS2c) (fun hS3c => ?_)
        clear hK K
        refine wpAnyH_ready (rs := [7, 9]) (by kernel_rfl) (by simp) ?_
        refine AllReadyH.cons rfl (fun K hK => ?_) (AllReadyH.cons rfl (fun K hK => ?_) AllReadyH.nil)
        · skip
          go_simp
          go_wp2_with (go_at_call 69; refine (HC3.out _ HP3.out (by omega) (by omega)).mono ?_; rintro e y4 ⟨rfl, hp4, hb4⟩)
          have HP4 := Lib.hid hp4
          have hz4 := hb4.size
          have hr4_0 := (hb4.block _ (lt_heap hr3_0) (lt_heap hr3_0) (by omega)).trans hr3_0
          have hr4_1 := (hb4.block _ (lt_heap hr3_1) (lt_heap hr3_1) (by omega)).trans hr3_1
          have HU4 := Lib.hid (HU3.out.trans (hb4.mono HU3.out.size))
          refine hK.out _ _ ((hb4.block _ (lt_heap hS3c) (lt_heap hS3c) (by omega)).trans hS3c) (fun hS4c => ?_)
          clear hK K
          refine wpAnyH_take (i := 8) (v := ?_) rfl (by kernel_rfl) (by kernel_rfl) (by kernel_rfl) (fun _ _ _ h => h) (Or.inl ⟨by kernel_rfl, by (intro wz hSz; go_simp; try with_reducible rfl)⟩) hS4c ?_
          go_simp
          refine wpAnyH_ready (rs := [9]) (by kernel_rfl) (by simp) ?_
          refine AllReadyH.cons rfl (fun K hK => ?_) AllReadyH.nil
          go_simp
          have hb5 := Ve.below_n1 y4 (.cells #[.int .i64 0, .int .i64 0, .int .i64 0, .int .i64 0, .int .i64 0, .int .i64 0, .int .i64 0, .int .i64 0, .int .i64 0, .int .i64 0, .int .i64 0, .int .i64 0, .int .i64 0] 103)
          have hp5 := HP4.out.new hb5
          have hb5 := Aft.of (g := g) (base := y4.heap.size) hb5
          have hN := heap_alloc_last y4 (.cells #[.int .i64 0, .int .i64 0, .int .i64 0, .int .i64 0, .int .i64 0, .int .i64 0, .int .i64 0, .int .i64 0, .int .i64 0, .int .i64 0, .int .i64 0, .int .i64 0, .int .i64 0] 103)
          obtain ⟨y5, hy5⟩ : ∃ y, y4.alloc (.cells #[.int .i64 0, .int .i64 0, .int .i64 0, .int .i64 0, .int .i64 0, .int .i64 0, .int .i64 0, .int .i64 0, .int .i64 0, .int .i64 0, .int .i64 0, .int .i64 0, .int .i64 0] 103) = y := ⟨_, rfl⟩
          rw [hy5] at hb5 hN hp5 ⊢
          clear hy5
          have HP5 := Lib.hid hp5
          have hz5 := hb5.size
          have hl5_0 := lt_heap hr4_0
          have hr5_0 := (hb5.block _ (lt_heap hr4_0) (lt_heap hr4_0) (by omega)).trans hr4_0
          have hl5_1 := lt_heap hr4_1
          have hr5_1 := (hb5.block _ (lt_heap hr4_1) (lt_heap hr4_1) (by omega)).trans hr4_1
          have hr5_2 := hN
          clear hN
          have HU5 := Lib.hid (HU4.out.trans (hb5.mono HU4.out.size))
          refine hK.out _ _ ((hb5.block _ (lt_heap hS4c) (lt_heap hS4c) (by omega)).trans hS4c) (fun hS5a => ?_)
          clear hK K
          refine wpAnyH_ready (rs := [10]) (by kernel_rfl) (by simp) ?_
          refine AllReadyH.cons rfl (fun K hK => ?_) AllReadyH.nil
          refine step_store_row rfl 103 (.tmp 3) (.tmp 12) rfl #[.int .i64 0, .int .i64 0, .int .i64 0, .int .i64 0, .int .i64 0, .int .i64 0, .int .i64 0, .int .i64 0, .int .i64 0, .int .i64 0, .int .i64 0, .int .i64 0, .int .i64 0] #[.int .i64 va0, .int .i64 va1, .int .i64 z, .int .i64 va2, .int .i64 va3, .int .i64 va4, .int .i64 0, .int .i64 0, .int .i64 0, .int .i64 0, .int .i64 0, .int .i64 0, .int .i64 0] _ 103 hr5_2 rfl (by first | rfl | (go_simp; done) | (go_simp; rfl)) (by kernel_rfl) rfl (by simp [Value.oneCell']) ?_
          have hN := setRow_heap _ (y4.heap.size) _ #[.int .i64 va0, .int .i64 va1, .int .i64 z, .int .i64 va2, .int .i64 va3, .int .i64 va4, .int .i64 0, .int .i64 0, .int .i64 0, .int .i64 0, .int .i64 0, .int .i64 0, .int .i64 0] _ _ hr5_2
          have hsz := HU5.out.size
          have HUx := aft_setRow (k := y4.heap.size) HU5.out (by omega) (by omega) #[.int .i64 va0, .int .i64 va1, .int .i64 z, .int .i64 va2, .int .i64 va3, .int .i64 va4, .int .i64 0, .int .i64 0, .int .i64 0, .int .i64 0, .int .i64 0, .int .i64 0, .int .i64 0]
          have hPx := rp_setRow (k := y4.heap.size) HP5.out (by omega) #[.int .i64 va0, .int .i64 va1, .int .i64 z, .int .i64 va2, .int .i64 va3, .int .i64 va4, .int .i64 0, .int .i64 0, .int .i64 0, .int .i64 0, .int .i64 0, .int .i64 0, .int .i64 0]
          obtain ⟨y6, hy6⟩ : ∃ y, y5.setRow (y4.heap.size) #[.int .i64 va0, .int .i64 va1, .int .i64 z, .int .i64 va2, .int .i64 va3, .int .i64 va4, .int .i64 0, .int .i64 0, .int .i64 0, .int .i64 0, .int .i64 0, .int .i64 0, .int .i64 0] = y := ⟨_, rfl⟩
          have hO : ∀ k, k ≠ y4.heap.size → y6.heap[k]? = y5.heap[k]? := fun k hk => by rw [← hy6]; exact setRow_other _ _ _ _ hk
          rw [hy6] at hN HUx hPx ⊢
          clear hy6
          have HU6 := Lib.hid HUx
          clear HUx
          have HP6 := Lib.hid hPx
          have hz6 := HU6.out.size
          have hr6_0 := (hO _ (by omega)).trans hr5_0
          have hr6_1 := (hO _ (by omega)).trans hr5_1
          have hr6_2 := hN
          clear hN
          refine hK.out _ _ ((hO _ (by omega)).trans hS5a) (fun hS6s => ?_)
          clear hK K
          refine wpAnyH_done (by kernel_rfl) ?_ _
          go_wp2_with fail
          go_meet
          exact ⟨_, rfl, by omega, hr6_2, hr6_0, hr6_1, HP6, HU6⟩
        · skip
          go_simp
          have hb4 := Ve.below_n1 y3 (.cells #[.int .i64 0, .int .i64 0, .int .i64 0, .int .i64 0, .int .i64 0, .int .i64 0, .int .i64 0, .int .i64 0, .int .i64 0, .int .i64 0, .int .i64 0, .int .i64 0, .int .i64 0] 103)
          have hp4 := HP3.out.new hb4
          have hb4 := Aft.of (g := g) (base := y3.heap.size) hb4
          have hN := heap_alloc_last y3 (.cells #[.int .i64 0, .int .i64 0, .int .i64 0, .int .i64 0, .int .i64 0, .int .i64 0, .int .i64 0, .int .i64 0, .int .i64 0, .int .i64 0, .int .i64 0, .int .i64 0, .int .i64 0] 103)
          obtain ⟨y4, hy4⟩ : ∃ y, y3.alloc (.cells #[.int .i64 0, .int .i64 0, .int .i64 0, .int .i64 0, .int .i64 0, .int .i64 0, .int .i64 0, .int .i64 0, .int .i64 0, .int .i64 0, .int .i64 0, .int .i64 0, .int .i64 0] 103) = y := ⟨_, rfl⟩
          rw [hy4] at hb4 hN hp4 ⊢
          clear hy4
          have HP4 := Lib.hid hp4
          have hz4 := hb4.size
          have hl4_0 := lt_heap hr3_0
          have hr4_0 := (hb4.block _ (lt_heap hr3_0) (lt_heap hr3_0) (by omega)).trans hr3_0
          have hl4_1 := lt_heap hr3_1
          have hr4_1 := (hb4.block _ (lt_heap hr3_1) (lt_heap hr3_1) (by omega)).trans hr3_1
          have hr4_2 := hN
          clear hN
          have HU4 := Lib.hid (HU3.out.trans (hb4.mono HU3.out.size))
          refine hK.out _ _ ((hb4.block _ (lt_heap hS3c) (lt_heap hS3c) (by omega)).trans hS3c) (fun hS4a => ?_)
          clear hK K
          refine wpAnyH_ready (rs := [7]) (by kernel_rfl) (by simp) ?_
          refine AllReadyH.cons rfl (fun K hK => ?_) AllReadyH.nil
          go_simp
          go_wp2_with (go_at_call 69; refine (HC3.out _ HP4.out (by omega) (by omega)).mono ?_; rintro e y5 ⟨rfl, hp5, hb5⟩)
          have HP5 := Lib.hid hp5
          have hz5 := hb5.size
          have hr5_0 := (hb5.block _ (lt_heap hr4_0) (lt_heap hr4_0) (by omega)).trans hr4_0
          have hr5_1 := (hb5.block _ (lt_heap hr4_1) (lt_heap hr4_1) (by omega)).trans hr4_1
          have hr5_2 := (hb5.block _ (lt_heap hr4_2) (lt_heap hr4_2) (by omega)).trans hr4_2
          have HU5 := Lib.hid (HU4.out.trans (hb5.mono HU4.out.size))
          refine hK.out _ _ ((hb5.block _ (lt_heap hS4a) (lt_heap hS4a) (by omega)).trans hS4a) (fun hS5c => ?_)
          clear hK K
          refine wpAnyH_take (i := 8) (v := ?_) rfl (by kernel_rfl) (by kernel_rfl) (by kernel_rfl) (fun _ _ _ h => h) (Or.inl ⟨by kernel_rfl, by (intro wz hSz; go_simp; try with_reducible rfl)⟩) hS5c ?_
          go_simp
          refine wpAnyH_ready (rs := [10]) (by kernel_rfl) (by simp) ?_
          refine AllReadyH.cons rfl (fun K hK => ?_) AllReadyH.nil
          refine step_store_row rfl 103 (.tmp 3) (.tmp 12) rfl #[.int .i64 0, .int .i64 0, .int .i64 0, .int .i64 0, .int .i64 0, .int .i64 0, .int .i64 0, .int .i64 0, .int .i64 0, .int .i64 0, .int .i64 0, .int .i64 0, .int .i64 0] #[.int .i64 va0, .int .i64 va1, .int .i64 z, .int .i64 va2, .int .i64 va3, .int .i64 va4, .int .i64 0, .int .i64 0, .int .i64 0, .int .i64 0, .int .i64 0, .int .i64 0, .int .i64 0] _ 103 hr5_2 rfl (by first | rfl | (go_simp; done) | (go_simp; rfl)) (by kernel_rfl) rfl (by simp [Value.oneCell']) ?_
          have hN := setRow_heap _ (y3.heap.size) _ #[.int .i64 va0, .int .i64 va1, .int .i64 z, .int .i64 va2, .int .i64 va3, .int .i64 va4, .int .i64 0, .int .i64 0, .int .i64 0, .int .i64 0, .int .i64 0, .int .i64 0, .int .i64 0] _ _ hr5_2
          have hsz := HU5.out.size
          have HUx := aft_setRow (k := y3.heap.size) HU5.out (by omega) (by omega) #[.int .i64 va0, .int .i64 va1, .int .i64 z, .int .i64 va2, .int .i64 va3, .int .i64 va4, .int .i64 0, .int .i64 0, .int .i64 0, .int .i64 0, .int .i64 0, .int .i64 0, .int .i64 0]
          have hPx := rp_setRow (k := y3.heap.size) HP5.out (by omega) #[.int .i64 va0, .int .i64 va1, .int .i64 z, .int .i64 va2, .int .i64 va3, .int .i64 va4, .int .i64 0, .int .i64 0, .int .i64 0, .int .i64 0, .int .i64 0, .int .i64 0, .int .i64 0]
          obtain ⟨y6, hy6⟩ : ∃ y, y5.setRow (y3.heap.size) #[.int .i64 va0, .int .i64 va1, .int .i64 z, .int .i64 va2, .int .i64 va3, .int .i64 va4, .int .i64 0, .int .i64 0, .int .i64 0, .int .i64 0, .int .i64 0, .int .i64 0, .int .i64 0] = y := ⟨_, rfl⟩
          have hO : ∀ k, k ≠ y3.heap.size → y6.heap[k]? = y5.heap[k]? := fun k hk => by rw [← hy6]; exact setRow_other _ _ _ _ hk
          rw [hy6] at hN HUx hPx ⊢
          clear hy6
          have HU6 := Lib.hid HUx
          clear HUx
          have HP6 := Lib.hid hPx
          have hz6 := HU6.out.size
          have hr6_0 := (hO _ (by omega)).trans hr5_0
          have hr6_1 := (hO _ (by omega)).trans hr5_1
          have hr6_2 := hN
          clear hN
          refine hK.out _ _ ((hO _ (by omega)).trans hS5c) (fun hS6s => ?_)
          clear hK K
          refine wpAnyH_done (by kernel_rfl) ?_ _
          go_wp2_with fail
          go_meet
          exact ⟨_, rfl, by omega, hr6_2, hr6_0, hr6_1, HP6, HU6⟩
      · skip
        go_simp
        have hb3 := Ve.below_n1 y2 (.cells #[.int .i64 0, .int .i64 0, .int .i64 0, .int .i64 0, .int .i64 0, .int .i64 0, .int .i64 0, .int .i64 0, .int .i64 0, .int .i64 0, .int .i64 0, .int .i64 0, .int .i64 0] 103)
        have hp3 := HP2.out.new hb3
        have hb3 := Aft.of (g := g) (base := y2.heap.size) hb3
        have hN := heap_alloc_last y2 (.cells #[.int .i64 0, .int .i64 0, .int .i64 0, .int .i64 0, .int .i64 0, .int .i64 0, .int .i64 0, .int .i64 0, .int .i64 0, .int .i64 0, .int .i64 0, .int .i64 0, .int .i64 0] 103)
        obtain ⟨y3, hy3⟩ : ∃ y, y2.alloc (.cells #[.int .i64 0, .int .i64 0, .int .i64 0, .int .i64 0, .int .i64 0, .int .i64 0, .int .i64 0, .int .i64 0, .int .i64 0, .int .i64 0, .int .i64 0, .int .i64 0, .int .i64 0] 103) = y := ⟨_, rfl⟩
        rw [hy3] at hb3 hN hp3 ⊢
        clear hy3
        have HP3 := Lib.hid hp3
        have hz3 := hb3.size
        have hl3_0 := lt_heap hr2_0
        have hr3_0 := (hb3.block _ (lt_heap hr2_0) (lt_heap hr2_0) (by omega)).trans hr2_0
        have hl3_1 := lt_heap hr2_1
        have hr3_1 := (hb3.block _ (lt_heap hr2_1) (lt_heap hr2_1) (by omega)).trans hr2_1
        have hr3_2 := hN
        clear hN
        have HU3 := Lib.hid (HU2.out.trans (hb3.mono HU2.out.size))
        refine hK.out _ _ ((hb3.block _ (lt_heap hS2c) (lt_heap hS2c) (by omega)).trans hS2c) (fun hS3a => ?_)
        clear hK K
        refine wpAnyH_ready (rs := [4]) (by kernel_rfl) (by simp) ?_
        refine AllReadyH.cons rfl (fun K hK => ?_) AllReadyH.nil
        go_simp
        go_wp2_with (go_at_call 60; refine (HC2.out _ HP3.out (by omega) (by omega)).mono ?_; rintro e y4 ⟨rfl, hp4, hb4⟩)
        have HP4 := Lib.hid hp4
        have hz4 := hb4.size
        have hr4_0 := (hb4.block _ (lt_heap hr3_0) (lt_heap hr3_0) (by omega)).trans hr3_0
        have hr4_1 := (hb4.block _ (lt_heap hr3_1) (lt_heap hr3_1) (by omega)).trans hr3_1
        have hr4_2 := (hb4.block _ (lt_heap hr3_2) (lt_heap hr3_2) (by omega)).trans hr3_2
        have HU4 := Lib.hid (HU3.out.trans (hb4.mono HU3.out.size))
        refine hK.out _ _ ((hb4.block _ (lt_heap hS3a) (lt_heap hS3a) (by omega)).trans hS3a) (fun hS4c => ?_)
        clear hK K
        refine wpAnyH_ready (rs := [7]) (by kernel_rfl) (by simp) ?_
        refine AllReadyH.cons rfl (fun K hK => ?_) AllReadyH.nil
        go_simp
        go_wp2_with (go_at_call 69; refine (HC3.out _ HP4.out (by omega) (by omega)).mono ?_; rintro e y5 ⟨rfl, hp5, hb5⟩)
        have HP5 := Lib.hid hp5
        have hz5 := hb5.size
        have hr5_0 := (hb5.block _ (lt_heap hr4_0) (lt_heap hr4_0) (by omega)).trans hr4_0
        have hr5_1 := (hb5.block _ (lt_heap hr4_1) (lt_heap hr4_1) (by omega)).trans hr4_1
        have hr5_2 := (hb5.block _ (lt_heap hr4_2) (lt_heap hr4_2) (by omega)).trans hr4_2
        have HU5 := Lib.hid (HU4.out.trans (hb5.mono HU4.out.size))
        refine hK.out _ _ ((hb5.block _ (lt_heap hS4c) (lt_heap hS4c) (by omega)).trans hS4c) (fun hS5c => ?_)
        clear hK K
        refine wpAnyH_take (i := 8) (v := ?_) rfl (by kernel_rfl) (by kernel_rfl) (by kernel_rfl) (fun _ _ _ h => h) (Or.inl ⟨by kernel_rfl, by (intro wz hSz; go_simp; try with_reducible rfl)⟩) hS5c ?_
        go_simp
        refine wpAnyH_ready (rs := [10]) (by kernel_rfl) (by simp) ?_
        refine AllReadyH.cons rfl (fun K hK => ?_) AllReadyH.nil
        refine step_store_row rfl 103 (.tmp 3) (.tmp 12) rfl #[.int .i64 0, .int .i64 0, .int .i64 0, .int .i64 0, .int .i64 0, .int .i64 0, .int .i64 0, .int .i64 0, .int .i64 0, .int .i64 0, .int .i64 0, .int .i64 0, .int .i64 0] #[.int .i64 va0, .int .i64 va1, .int .i64 z, .int .i64 va2, .int .i64 va3, .int .i64 va4, .int .i64 0, .int .i64 0, .int .i64 0, .int .i64 0, .int .i64 0, .int .i64 0, .int .i64 0] _ 103 hr5_2 rfl (by first | rfl | (go_simp; done) | (go_simp; rfl)) (by kernel_rfl) rfl (by simp [Value.oneCell']) ?_
        have hN := setRow_heap _ (y2.heap.size) _ #[.int .i64 va0, .int .i64 va1, .int .i64 z, .int .i64 va2, .int .i64 va3, .int .i64 va4, .int .i64 0, .int .i64 0, .int .i64 0, .int .i64 0, .int .i64 0, .int .i64 0, .int .i64 0] _ _ hr5_2
        have hsz := HU5.out.size
        have HUx := aft_setRow (k := y2.heap.size) HU5.out (by omega) (by omega) #[.int .i64 va0, .int .i64 va1, .int .i64 z, .int .i64 va2, .int .i64 va3, .int .i64 va4, .int .i64 0, .int .i64 0, .int .i64 0, .int .i64 0, .int .i64 0, .int .i64 0, .int .i64 0]
        have hPx := rp_setRow (k := y2.heap.size) HP5.out (by omega) #[.int .i64 va0, .int .i64 va1, .int .i64 z, .int .i64 va2, .int .i64 va3, .int .i64 va4, .int .i64 0, .int .i64 0, .int .i64 0, .int .i64 0, .int .i64 0, .int .i64 0, .int .i64 0]
        obtain ⟨y6, hy6⟩ : ∃ y, y5.setRow (y2.heap.size) #[.int .i64 va0, .int .i64 va1, .int .i64 z, .int .i64 va2, .int .i64 va3, .int .i64 va4, .int .i64 0, .int .i64 0, .int .i64 0, .int .i64 0, .int .i64 0, .int .i64 0, .int .i64 0] = y := ⟨_, rfl⟩
        have hO : ∀ k, k ≠ y2.heap.size → y6.heap[k]? = y5.heap[k]? := fun k hk => by rw [← hy6]; exact setRow_other _ _ _ _ hk
        rw [hy6] at hN HUx hPx ⊢
        clear hy6
        have HU6 := Lib.hid HUx
        clear HUx
        have HP6 := Lib.hid hPx
        have hz6 := HU6.out.size
        have hr6_0 := (hO _ (by omega)).trans hr5_0
        have hr6_1 := (hO _ (by omega)).trans hr5_1
        have hr6_2 := hN
        clear hN
        refine hK.out _ _ ((hO _ (by omega)).trans hS5c) (fun hS6s => ?_)
        clear hK K
        refine wpAnyH_done (by kernel_rfl) ?_ _
        go_wp2_with fail
        go_meet
        exact ⟨_, rfl, by omega, hr6_2, hr6_0, hr6_1, HP6, HU6⟩
    · skip
      go_simp
      have hb2 := Ve.below_n1 y1 (.cells #[.int .i64 0, .int .i64 0, .int .i64 0, .int .i64 0, .int .i64 0, .int .i64 0, .int .i64 0, .int .i64 0, .int .i64 0, .int .i64 0, .int .i64 0, .int .i64 0, .int .i64 0] 103)
      have hp2 := HP1.out.new hb2
      have hb2 := Aft.of (g := g) (base := y1.heap.size) hb2
      have hN := heap_alloc_last y1 (.cells #[.int .i64 0, .int .i64 0, .int .i64 0, .int .i64 0, .int .i64 0, .int .i64 0, .int .i64 0, .int .i64 0, .int .i64 0, .int .i64 0, .int .i64 0, .int .i64 0, .int .i64 0] 103)
      obtain ⟨y2, hy2⟩ : ∃ y, y1.alloc (.cells #[.int .i64 0, .int .i64 0, .int .i64 0, .int .i64 0, .int .i64 0, .int .i64 0, .int .i64 0, .int .i64 0, .int .i64 0, .int .i64 0, .int .i64 0, .int .i64 0, .int .i64 0] 103) = y := ⟨_, rfl⟩
      rw [hy2] at hb2 hN hp2 ⊢
      clear hy2
      have HP2 := Lib.hid hp2
      have hz2 := hb2.size
      have hl2_0 := lt_heap hr1_0
      have hr2_0 := (hb2.block _ (lt_heap hr1_0) (lt_heap hr1_0) (by omega)).trans hr1_0
      have hl2_1 := lt_heap hr1_1
      have hr2_1 := (hb2.block _ (lt_heap hr1_1) (lt_heap hr1_1) (by omega)).trans hr1_1
      have hr2_2 := hN
      clear hN
      have HU2 := Lib.hid (HU1.out.trans (hb2.mono HU1.out.size))
      refine hK.out _ _ ((hb2.block _ (lt_heap hS0) (lt_heap hS0) (by omega)).trans hS0) (fun hS2a => ?_)
      clear hK K
      refine wpAnyH_ready (rs := [1]) (by kernel_rfl) (by simp) ?_
      refine AllReadyH.cons rfl (fun K hK => ?_) AllReadyH.nil
      go_simp
      go_wp2_with (go_at_call 68; refine (HC1.out _ HP2.out (by omega) (by omega)).mono ?_; rintro e y3 ⟨rfl, hp3, hb3⟩)
      have HP3 := Lib.hid hp3
      have hz3 := hb3.size
      have hr3_0 := (hb3.block _ (lt_heap hr2_0) (lt_heap hr2_0) (by omega)).trans hr2_0
      have hr3_1 := (hb3.block _ (lt_heap hr2_1) (lt_heap hr2_1) (by omega)).trans hr2_1
      have hr3_2 := (hb3.block _ (lt_heap hr2_2) (lt_heap hr2_2) (by omega)).trans hr2_2
      have HU3 := Lib.hid (HU2.out.trans (hb3.mono HU2.out.size))
      refine hK.out _ _ ((hb3.block _ (lt_heap hS2a) (lt_heap hS2a) (by omega)).trans hS2a) (fun hS3c => ?_)
      clear hK K
      refine wpAnyH_ready (rs := [4]) (by kernel_rfl) (by simp) ?_
      refine AllReadyH.cons rfl (fun K hK => ?_) AllReadyH.nil
      go_simp
      go_wp2_with (go_at_call 60; refine (HC2.out _ HP3.out (by omega) (by omega)).mono ?_; rintro e y4 ⟨rfl, hp4, hb4⟩)
      have HP4 := Lib.hid hp4
      have hz4 := hb4.size
      have hr4_0 := (hb4.block _ (lt_heap hr3_0) (lt_heap hr3_0) (by omega)).trans hr3_0
      have hr4_1 := (hb4.block _ (lt_heap hr3_1) (lt_heap hr3_1) (by omega)).trans hr3_1
      have hr4_2 := (hb4.block _ (lt_heap hr3_2) (lt_heap hr3_2) (by omega)).trans hr3_2
      have HU4 := Lib.hid (HU3.out.trans (hb4.mono HU3.out.size))
      refine hK.out _ _ ((hb4.block _ (lt_heap hS3c) (lt_heap hS3c) (by omega)).trans hS3c) (fun hS4c => ?_)
      clear hK K
      refine wpAnyH_ready (rs := [7]) (by kernel_rfl) (by simp) ?_
      refine AllReadyH.cons rfl (fun K hK => ?_) AllReadyH.nil
      go_simp
      go_wp2_with (go_at_call 69; refine (HC3.out _ HP4.out (by omega) (by omega)).mono ?_; rintro e y5 ⟨rfl, hp5, hb5⟩)
      have HP5 := Lib.hid hp5
      have hz5 := hb5.size
      have hr5_0 := (hb5.block _ (lt_heap hr4_0) (lt_heap hr4_0) (by omega)).trans hr4_0
      have hr5_1 := (hb5.block _ (lt_heap hr4_1) (lt_heap hr4_1) (by omega)).trans hr4_1
      have hr5_2 := (hb5.block _ (lt_heap hr4_2) (lt_heap hr4_2) (by omega)).trans hr4_2
      have HU5 := Lib.hid (HU4.out.trans (hb5.mono HU4.out.size))
      refine hK.out _ _ ((hb5.block _ (lt_heap hS4c) (lt_heap hS4c) (by omega)).trans hS4c) (fun hS5c => ?_)
      clear hK K
      refine wpAnyH_take (i := 8) (v := ?_) rfl (by kernel_rfl) (by kernel_rfl) (by kernel_rfl) (fun _ _ _ h => h) (Or.inl ⟨by kernel_rfl, by (intro wz hSz; go_simp; try with_reducible rfl)⟩) hS5c ?_
      go_simp
      refine wpAnyH_ready (rs := [10]) (by kernel_rfl) (by simp) ?_
      refine AllReadyH.cons rfl (fun K hK => ?_) AllReadyH.nil
      refine step_store_row rfl 103 (.tmp 3) (.tmp 12) rfl #[.int .i64 0, .int .i64 0, .int .i64 0, .int .i64 0, .int .i64 0, .int .i64 0, .int .i64 0, .int .i64 0, .int .i64 0, .int .i64 0, .int .i64 0, .int .i64 0, .int .i64 0] #[.int .i64 va0, .int .i64 va1, .int .i64 z, .int .i64 va2, .int .i64 va3, .int .i64 va4, .int .i64 0, .int .i64 0, .int .i64 0, .int .i64 0, .int .i64 0, .int .i64 0, .int .i64 0] _ 103 hr5_2 rfl (by first | rfl | (go_simp; done) | (go_simp; rfl)) (by kernel_rfl) rfl (by simp [Value.oneCell']) ?_
      have hN := setRow_heap _ (y1.heap.size) _ #[.int .i64 va0, .int .i64 va1, .int .i64 z, .int .i64 va2, .int .i64 va3, .int .i64 va4, .int .i64 0, .int .i64 0, .int .i64 0, .int .i64 0, .int .i64 0, .int .i64 0, .int .i64 0] _ _ hr5_2
      have hsz := HU5.out.size
      have HUx := aft_setRow (k := y1.heap.size) HU5.out (by omega) (by omega) #[.int .i64 va0, .int .i64 va1, .int .i64 z, .int .i64 va2, .int .i64 va3, .int .i64 va4, .int .i64 0, .int .i64 0, .int .i64 0, .int .i64 0, .int .i64 0, .int .i64 0, .int .i64 0]
      have hPx := rp_setRow (k := y1.heap.size) HP5.out (by omega) #[.int .i64 va0, .int .i64 va1, .int .i64 z, .int .i64 va2, .int .i64 va3, .int .i64 va4, .int .i64 0, .int .i64 0, .int .i64 0, .int .i64 0, .int .i64 0, .int .i64 0, .int .i64 0]
      obtain ⟨y6, hy6⟩ : ∃ y, y5.setRow (y1.heap.size) #[.int .i64 va0, .int .i64 va1, .int .i64 z, .int .i64 va2, .int .i64 va3, .int .i64 va4, .int .i64 0, .int .i64 0, .int .i64 0, .int .i64 0, .int .i64 0, .int .i64 0, .int .i64 0] = y := ⟨_, rfl⟩
      have hO : ∀ k, k ≠ y1.heap.size → y6.heap[k]? = y5.heap[k]? := fun k hk => by rw [← hy6]; exact setRow_other _ _ _ _ hk
      rw [hy6] at hN HUx hPx ⊢
      clear hy6
      have HU6 := Lib.hid HUx
      clear HUx
      have HP6 := Lib.hid hPx
      have hz6 := HU6.out.size
      have hr6_0 := (hO _ (by omega)).trans hr5_0
      have hr6_1 := (hO _ (by omega)).trans hr5_1
      have hr6_2 := hN
      clear hN
      refine hK.out _ _ ((hO _ (by omega)).trans hS5c) (fun hS6s => ?_)
      clear hK K
      refine wpAnyH_done (by kernel_rfl) ?_ _
      go_wp2_with fail
      go_meet
      exact ⟨_, rfl, by omega, hr6_2, hr6_0, hr6_1, HP6, HU6⟩
  case rest =>
    obtain ⟨gs, rfl, hgs, hr9_2, hr9_0, hr9_1, HP9, HU9⟩ := hcut
    rename World => y9
    have hz9 := HU9.out.size
    have c0_0 := cell_of_row _ _ 0 _ _ _ hr9_0
    simp at c0_0
    have kk := cell_of_row _ _ 2 _ _ _ hr9_2
    simp at kk
    go_wp2_with fail
    clear kk
    refine (fail_any _ g t3 25 _ HP9.out).mono ?_
    rintro e y10 ⟨rfl, hp10, hb10⟩
    have HP10 := Lib.hid hp10
    have hz10 := hb10.size
    clear c0_0
    have hr10_0 := (hb10.block _ (lt_heap hr9_0) (lt_heap hr9_0) (by omega)).trans hr9_0
    have hr10_1 := (hb10.block _ (lt_heap hr9_1) (lt_heap hr9_1) (by omega)).trans hr9_1
    have hr10_2 := (hb10.block _ (lt_heap hr9_2) (lt_heap hr9_2) (by omega)).trans hr9_2
    have HU10 := Lib.hid (HU9.out.trans (hb10.mono HU9.out.size))
    clear hr9_0 hr9_1 hr9_2 HU9
    go_upto_region 8 with fail
    have HWL := Lib.hid hr10_2
    have HWZ := Lib.hid (show (Tryz.prog.info? 103).map (·.size) = some (#[.int .i64 va0, .int .i64 va1, .int .i64 z, .int .i64 va2, .int .i64 va3, .int .i64 va4, .int .i64 0, .int .i64 0, .int .i64 0, .int .i64 0, .int .i64 0, .int .i64 0, .int .i64 0] : Array Value).size by kernel_rfl)
    have hHr := Lib.hid hr10_1
    have hHi := Lib.hid (show (Tryz.prog.info? 103).map (·.size) = some (#[.int .i64 va0, .int .i64 va1, .int .i64 z, .int .i64 va2, .int .i64 va3, .int .i64 va4, .int .i64 0, .int .i64 0, .int .i64 0, .int .i64 0, .int .i64 0, .int .i64 0, .int .i64 0] : Array Value).size by kernel_rfl)
    have hHz := Lib.hid (show (#[.int .i64 0, .int .i64 0, .int .i64 0, .int .i64 0, .int .i64 0, .int .i64 0, .int .i64 0, .int .i64 0, .int .i64 0, .int .i64 0, .int .i64 0, .int .i64 0, .int .i64 0] : Array Value).size = (#[.int .i64 va0, .int .i64 va1, .int .i64 z, .int .i64 va2, .int .i64 va3, .int .i64 va4, .int .i64 0, .int .i64 0, .int .i64 0, .int .i64 0, .int .i64 0, .int .i64 0, .int .i64 0] : Array Value).size from rfl)
    have hHo := Lib.hid (show (#[.int .i64 va0, .int .i64 va1, .int .i64 z, .int .i64 va2, .int .i64 va3, .int .i64 va4, .int .i64 0, .int .i64 0, .int .i64 0, .int .i64 0, .int .i64 0, .int .i64 0, .int .i64 0] : Array Value).all (·.oneCell') = true by simp [Value.oneCell'])
    go_wp2_with (first | (with_reducible refine wpList_load_row rfl 103 (.tmp 3) rfl gs rfl 103 #[.int .i64 va0, .int .i64 va1, .int .i64 z, .int .i64 va2, .int .i64 va3, .int .i64 va4, .int .i64 0, .int .i64 0, .int .i64 0, .int .i64 0, .int .i64 0, .int .i64 0, .int .i64 0] (0, 0) _ HWL.out Tryz.underlying103 rfl HWZ.out ?_) | (refine Au.wpList_store_row rfl 103 (.tmp 2) (.tmp 34) rfl y10 #[.int .i64 0, .int .i64 0, .int .i64 0, .int .i64 0, .int .i64 0, .int .i64 0, .int .i64 0, .int .i64 0, .int .i64 0, .int .i64 0, .int .i64 0, .int .i64 0, .int .i64 0] #[.int .i64 va0, .int .i64 va1, .int .i64 z, .int .i64 va2, .int .i64 va3, .int .i64 va4, .int .i64 0, .int .i64 0, .int .i64 0, .int .i64 0, .int .i64 0, .int .i64 0, .int .i64 0] (w.heap.size + 1) 103 hHr.out rfl rfl hHi.out hHz.out hHo.out ?_))
    clear hHr hHi hHz hHo
    have hN := setRow_heap _ (w.heap.size + 1) _ #[.int .i64 va0, .int .i64 va1, .int .i64 z, .int .i64 va2, .int .i64 va3, .int .i64 va4, .int .i64 0, .int .i64 0, .int .i64 0, .int .i64 0, .int .i64 0, .int .i64 0, .int .i64 0] _ _ hr10_1
    have hsz := HU10.out.size
    have HUx := aft_setRow (k := w.heap.size + 1) HU10.out (by omega) (by omega) #[.int .i64 va0, .int .i64 va1, .int .i64 z, .int .i64 va2, .int .i64 va3, .int .i64 va4, .int .i64 0, .int .i64 0, .int .i64 0, .int .i64 0, .int .i64 0, .int .i64 0, .int .i64 0]
    have hPx := rp_setRow (k := w.heap.size + 1) HP10.out (by omega) #[.int .i64 va0, .int .i64 va1, .int .i64 z, .int .i64 va2, .int .i64 va3, .int .i64 va4, .int .i64 0, .int .i64 0, .int .i64 0, .int .i64 0, .int .i64 0, .int .i64 0, .int .i64 0]
    have hO : ∀ kk, kk ≠ w.heap.size + 1 → (y10.setRow (w.heap.size + 1) #[.int .i64 va0, .int .i64 va1, .int .i64 z, .int .i64 va2, .int .i64 va3, .int .i64 va4, .int .i64 0, .int .i64 0, .int .i64 0, .int .i64 0, .int .i64 0, .int .i64 0, .int .i64 0]).heap[kk]? = y10.heap[kk]? := fun kk hk => setRow_other _ _ _ _ hk
    obtain ⟨y11, hy11⟩ : ∃ y, y10.setRow (w.heap.size + 1) #[.int .i64 va0, .int .i64 va1, .int .i64 z, .int .i64 va2, .int .i64 va3, .int .i64 va4, .int .i64 0, .int .i64 0, .int .i64 0, .int .i64 0, .int .i64 0, .int .i64 0, .int .i64 0] = y := ⟨_, rfl⟩
    rw [hy11] at hN HUx hO hPx ⊢
    clear hy11 hsz
    have HU11 := Lib.hid HUx
    clear HUx
    have HP11 := Lib.hid hPx
    have hz11 := HU11.out.size
    have hr11_0 := (hO _ (by omega)).trans hr10_0
    have hr11_1 := hN
    have hr11_2 := (hO _ (by omega)).trans hr10_2
    clear hN hO
    clear hr10_0 hr10_1 hr10_2 HU10
    clear HWL HWZ
    go_wp2
    all_goals exact bodyPost_ret (v := .agg #[.int .i64 va0, .int .i64 va1, .int .i64 z, .int .i64 va2, .int .i64 va3, .int .i64 va4, .int .i64 0, .int .i64 0, .int .i64 0, .int .i64 0, .int .i64 0, .int .i64 0, .int .i64 0]) (results_row (t := 103) Tryz.results36 rfl hr11_1 Tryz.underlying103 rfl (by kernel_rfl)) rfl ⟨rfl, HP11.out, HU11.out⟩

/-- what is read of a shape, and the state behind it -/
def shapeV (s : St) (j : Nat) : Int := [(small16 (numS (s) 2).1), (((numS ((numS (s) 2).2) 2).1 : Int)), ((numS ((numS ((numS (s) 2).2) 2).2) 1).1 : Int), ((threeS ((numS ((numS ((numS (s) 2).2) 2).2) 1).2)).1 0), ((threeS ((numS ((numS ((numS (s) 2).2) 2).2) 1).2)).1 1), ((threeS ((numS ((numS ((numS (s) 2).2) 2).2) 1).2)).1 2), if ((numS ((numS ((numS (s) 2).2) 2).2) 1).1 : Int) = 1 then ((threeS ((threeS ((numS ((numS ((numS (s) 2).2) 2).2) 1).2)).2)).1 0) else 0, if ((numS ((numS ((numS (s) 2).2) 2).2) 1).1 : Int) = 1 then ((threeS ((threeS ((numS ((numS ((numS (s) 2).2) 2).2) 1).2)).2)).1 1) else 0, if ((numS ((numS ((numS (s) 2).2) 2).2) 1).1 : Int) = 1 then ((threeS ((threeS ((numS ((numS ((numS (s) 2).2) 2).2) 1).2)).2)).1 2) else 0, if ((numS ((numS ((numS (s) 2).2) 2).2) 1).1 : Int) = 1 then ((threeS ((threeS ((threeS ((numS ((numS ((numS (s) 2).2) 2).2) 1).2)).2)).2)).1 0) else 0, if ((numS ((numS ((numS (s) 2).2) 2).2) 1).1 : Int) = 1 then ((threeS ((threeS ((threeS ((numS ((numS ((numS (s) 2).2) 2).2) 1).2)).2)).2)).1 1) else 0, if ((numS ((numS ((numS (s) 2).2) 2).2) 1).1 : Int) = 1 then ((threeS ((threeS ((threeS ((numS ((numS ((numS (s) 2).2) 2).2) 1).2)).2)).2)).1 2) else 0, if ((numS ((numS ((numS (s) 2).2) 2).2) 1).1 : Int) = 0 then (fixS ((threeS ((numS ((numS ((numS (s) 2).2) 2).2) 1).2)).2)).1 else 0].getD j 0

def shapeE (s : St) : St := if ((numS ((numS ((numS (s) 2).2) 2).2) 1).1 : Int) = 0 then (fixS ((threeS ((numS ((numS ((numS (s) 2).2) 2).2) 1).2)).2)).2 else if ((numS ((numS ((numS (s) 2).2) 2).2) 1).1 : Int) = 1 then (threeS ((threeS ((threeS ((numS ((numS ((numS (s) 2).2) 2).2) 1).2)).2)).2)).2 else failS ((threeS ((numS ((numS ((numS (s) 2).2) 2).2) 1).2)).2) 25

theorem jshapeR (g : Nat) {B : Nat} (s : St) (w : World) (hw : RP (.pointer (some ⟨g, 0, none⟩)) g B s w) (hg : g < w.heap.size) (hB : B ≤ w.heap.size) : Calls Tryz.prog 36 #[.agg #[.pointer (some ⟨g, 0, none⟩)]] w fun e' w' => e' = .returned (.agg #[.int .i64 (shapeV s 0), .int .i64 (shapeV s 1), .int .i64 (shapeV s 2), .int .i64 (shapeV s 3), .int .i64 (shapeV s 4), .int .i64 (shapeV s 5), .int .i64 (shapeV s 6), .int .i64 (shapeV s 7), .int .i64 (shapeV s 8), .int .i64 (shapeV s 9), .int .i64 (shapeV s 10), .int .i64 (shapeV s 11), .int .i64 (shapeV s 12)]) ∧ RP (.pointer (some ⟨g, 0, none⟩)) g B (shapeE s) w' ∧ Aft g w.heap.size w w' := by
  have v0 : shapeV s 0 = (small16 (numS (s) 2).1) := rfl
  have v1 : shapeV s 1 = (((numS ((numS (s) 2).2) 2).1 : Int)) := rfl
  have v2 : shapeV s 2 = ((numS ((numS ((numS (s) 2).2) 2).2) 1).1 : Int) := rfl
  have v3 : shapeV s 3 = ((threeS ((numS ((numS ((numS (s) 2).2) 2).2) 1).2)).1 0) := rfl
  have v4 : shapeV s 4 = ((threeS ((numS ((numS ((numS (s) 2).2) 2).2) 1).2)).1 1) := rfl
  have v5 : shapeV s 5 = ((threeS ((numS ((numS ((numS (s) 2).2) 2).2) 1).2)).1 2) := rfl
  have v6 : shapeV s 6 = if ((numS ((numS ((numS (s) 2).2) 2).2) 1).1 : Int) = 1 then ((threeS ((threeS ((numS ((numS ((numS (s) 2).2) 2).2) 1).2)).2)).1 0) else 0 := rfl
  have v7 : shapeV s 7 = if ((numS ((numS ((numS (s) 2).2) 2).2) 1).1 : Int) = 1 then ((threeS ((threeS ((numS ((numS ((numS (s) 2).2) 2).2) 1).2)).2)).1 1) else 0 := rfl
  have v8 : shapeV s 8 = if ((numS ((numS ((numS (s) 2).2) 2).2) 1).1 : Int) = 1 then ((threeS ((threeS ((numS ((numS ((numS (s) 2).2) 2).2) 1).2)).2)).1 2) else 0 := rfl
  have v9 : shapeV s 9 = if ((numS ((numS ((numS (s) 2).2) 2).2) 1).1 : Int) = 1 then ((threeS ((threeS ((threeS ((numS ((numS ((numS (s) 2).2) 2).2) 1).2)).2)).2)).1 0) else 0 := rfl
  have v10 : shapeV s 10 = if ((numS ((numS ((numS (s) 2).2) 2).2) 1).1 : Int) = 1 then ((threeS ((threeS ((threeS ((numS ((numS ((numS (s) 2).2) 2).2) 1).2)).2)).2)).1 1) else 0 := rfl
  have v11 : shapeV s 11 = if ((numS ((numS ((numS (s) 2).2) 2).2) 1).1 : Int) = 1 then ((threeS ((threeS ((threeS ((numS ((numS ((numS (s) 2).2) 2).2) 1).2)).2)).2)).1 2) else 0 := rfl
  have v12 : shapeV s 12 = if ((numS ((numS ((numS (s) 2).2) 2).2) 1).1 : Int) = 0 then (fixS ((threeS ((numS ((numS ((numS (s) 2).2) 2).2) 1).2)).2)).1 else 0 := rfl
  have hE : shapeE s = if ((numS ((numS ((numS (s) 2).2) 2).2) 1).1 : Int) = 0 then (fixS ((threeS ((numS ((numS ((numS (s) 2).2) 2).2) 1).2)).2)).2 else if ((numS ((numS ((numS (s) 2).2) 2).2) 1).1 : Int) = 1 then (threeS ((threeS ((threeS ((numS ((numS ((numS (s) 2).2) 2).2) 1).2)).2)).2)).2 else failS ((threeS ((numS ((numS ((numS (s) 2).2) 2).2) 1).2)).2) 25 := rfl
  rw [hE, v0, v1, v2, v3, v4, v5, v6, v7, v8, v9, v10, v11, v12]
  by_cases h0 : ((numS ((numS ((numS (s) 2).2) 2).2) 1).1 : Int) = 0
  · have h1 : ¬ ((numS ((numS ((numS (s) 2).2) 2).2) 1).1 : Int) = 1 := by omega
    simp only [if_pos h0, if_neg h1]
    rw [h0]
    exact jshape_ball g s _ _ _ _ _ _ _ _ _ _ (fun W h q1 q2 => jbase g s W h q1 q2) (fun W h _ _ => by have h9 := rbyte_any _ g _ W h; rw [h0] at h9; exact h9) (fun W h q1 q2 => rvec_any _ g _ W h q1 q2) (fun W h _ _ => rfix_any _ g _ W h) w hw hg hB
  · by_cases h1 : ((numS ((numS ((numS (s) 2).2) 2).2) 1).1 : Int) = 1
    · simp only [if_neg h0, if_pos h1]
      rw [h1]
      exact jshape_face g s _ _ _ _ _ _ _ _ _ _ _ _ _ _ _ _ (fun W h q1 q2 => jbase g s W h q1 q2) (fun W h _ _ => by have h9 := rbyte_any _ g _ W h; rw [h1] at h9; exact h9) (fun W h q1 q2 => rvec_any _ g _ W h q1 q2) (fun W h q1 q2 => rvec_any _ g _ W h q1 q2) (fun W h q1 q2 => rvec_any _ g _ W h q1 q2) w hw hg hB
    · simp only [if_neg h0, if_neg h1]
      exact jshape_other g s _ _ _ _ _ _ _ _ _ h0 h1 (fun W h q1 q2 => jbase g s W h q1 q2) (fun W h _ _ => rbyte_any _ g _ W h) (fun W h q1 q2 => rvec_any _ g _ W h q1 q2) w hw hg hB

theorem info_shape : (Tryz.prog.info? 103).map (fun i => (i.zero, i.size, i.bytes)) = some (some (.agg #[.int .i64 0, .int .i64 0, .int .i64 0, .int .i64 0, .int .i64 0, .int .i64 0, .int .i64 0, .int .i64 0, .int .i64 0, .int .i64 0, .int .i64 0, .int .i64 0, .int .i64 0]), 13, 104) := by kernel_rfl

theorem step_shape (s : St) (k : Nat) : flatc 13 (itV shapeE shapeV 13 s) (k + 1) = flatc 13 (itV shapeE shapeV 13 s) k ++ [.int .i64 (shapeV (itS shapeE s k) 0), .int .i64 (shapeV (itS shapeE s k) 1), .int .i64 (shapeV (itS shapeE s k) 2), .int .i64 (shapeV (itS shapeE s k) 3), .int .i64 (shapeV (itS shapeE s k) 4), .int .i64 (shapeV (itS shapeE s k) 5), .int .i64 (shapeV (itS shapeE s k) 6), .int .i64 (shapeV (itS shapeE s k) 7), .int .i64 (shapeV (itS shapeE s k) 8), .int .i64 (shapeV (itS shapeE s k) 9), .int .i64 (shapeV (itS shapeE s k) 10), .int .i64 (shapeV (itS shapeE s k) 11), .int .i64 (shapeV (itS shapeE s k) 12)] := by
  rw [flatc_step]
  congr 1
  simp only [show List.range 13 = [0, 1, 2, 3, 4, 5, 6, 7, 8, 9, 10, 11, 12] from rfl, List.map_cons, List.map_nil]
  rw [itV_at shapeE shapeV 13 s k 0 (by omega), itV_at shapeE shapeV 13 s k 1 (by omega), itV_at shapeE shapeV 13 s k 2 (by omega), itV_at shapeE shapeV 13 s k 3 (by omega), itV_at shapeE shapeV 13 s k 4 (by omega), itV_at shapeE shapeV 13 s k 5 (by omega), itV_at shapeE shapeV 13 s k 6 (by omega), itV_at shapeE shapeV 13 s k 7 (by omega), itV_at shapeE shapeV 13 s k 8 (by omega), itV_at shapeE shapeV 13 s k 9 (by omega), itV_at shapeE shapeV 13 s k 10 (by omega), itV_at shapeE shapeV 13 s k 11 (by omega), itV_at shapeE shapeV 13 s k 12 (by omega)]

set_option maxHeartbeats 4000000 in
set_option maxRecDepth 100000 in
theorem jlist_shape (g : Nat) {B : Nat} (s : St) (n : Nat) (hn : n ≤ 100000) (w : World) (hw : RP (.pointer (some ⟨g, 0, none⟩)) g B s w) (hg : g < w.heap.size) (hB : B ≤ w.heap.size) :
    Calls Tryz.prog 35 #[.int .i64 (n : Int), .func (.func 36) #[.agg #[.pointer (some ⟨g, 0, none⟩)]] #[]] w fun e' w' => (∃ v, e' = .returned v ∧ LA 13 103 w.heap.size w' v n (itV shapeE shapeV 13 s)) ∧ RP (.pointer (some ⟨g, 0, none⟩)) g B (itS shapeE s n) w' ∧ Aft g w.heap.size w w' := by
  obtain ⟨i0, hi, hz0, hz1, hz2⟩ := info_parts info_shape
  have HPw := Lib.hid hw
  clear hw
  go_enter Tryz.func35, Tryz.ntmps35
  go_wp2_with fail
  go_loopw [5, 7] (fun s5 s7 wr => ∃ k : Nat, k ≤ n ∧ s7 = .int .i64 k ∧ wr.ownsRow w.heap.size 103 13 s5 k (flatc 13 (itV shapeE shapeV 13 s) k) ∧ Hid (RP (.pointer (some ⟨g, 0, none⟩)) g B (itS shapeE s k) wr) ∧ Hid (Aft g w.heap.size w wr)) (fun _ s7 _ => n - (intOf s7).toNat)
  case atStart => exact ⟨0, by omega, rfl, by simpa [flatc] using World.ownsRow_nil _ _ _ _, HPw, Lib.hid (Aft.refl _ _ _)⟩
  case round =>
    obtain ⟨k, hk, rfl, hin, HP, HU⟩ := hrel
    obtain ⟨y0, rfl⟩ : ∃ y : World, y = wr := ⟨_, rfl⟩
    have hz := HU.out.size
    by_cases hlt : k < n
    · have hlt' : (k : Int) < n := by omega
      have HI := Lib.hid hin
      clear hin
      go_wp2_with fail
      refine (jshapeR g (itS shapeE s k) _ HP.out (by omega) (by omega)).mono ?_
      rintro e y1 ⟨rfl, hp1, hb1⟩
      have HI1 := Lib.hid (own_aft HI.out hb1 hg)
      have HU1 := Lib.hid (HU.out.trans (hb1.mono HU.out.size))
      have HP1 := Lib.hid hp1
      have hsz := HU1.out.size
      clear HI HU HP hb1 hp1
      go_wp2_with (first | (at_builtin; refine wpList_append_own _ rfl _ _ 34 rfl w.heap.size 103 i0 (.agg #[.int .i64 0, .int .i64 0, .int .i64 0, .int .i64 0, .int .i64 0, .int .i64 0, .int .i64 0, .int .i64 0, .int .i64 0, .int .i64 0, .int .i64 0, .int .i64 0, .int .i64 0]) 13 104 Tryz.underlying34 hi hz0 hz1 hz2 rfl (by decide) _ _ _ rfl (HI1.out.alloc _) ⟨y1.heap.size, 0, none⟩ 1 1 [.int .i64 (shapeV (itS shapeE s k) 0), .int .i64 (shapeV (itS shapeE s k) 1), .int .i64 (shapeV (itS shapeE s k) 2), .int .i64 (shapeV (itS shapeE s k) 3), .int .i64 (shapeV (itS shapeE s k) 4), .int .i64 (shapeV (itS shapeE s k) 5), .int .i64 (shapeV (itS shapeE s k) 6), .int .i64 (shapeV (itS shapeE s k) 7), .int .i64 (shapeV (itS shapeE s k) 8), .int .i64 (shapeV (itS shapeE s k) 9), .int .i64 (shapeV (itS shapeE s k) 10), .int .i64 (shapeV (itS shapeE s k) 11), .int .i64 (shapeV (itS shapeE s k) 12)] rfl rfl ?c1 ?c2 ?c3 ?c4 ?c5 ?_))
      case c1 =>
        intro j u hj
        match j, hj with
        | 0, hj => simp at hj; subst hj; simp [Addr.add]
        | 1, hj => simp at hj; subst hj; simp [Addr.add]
        | 2, hj => simp at hj; subst hj; simp [Addr.add]
        | 3, hj => simp at hj; subst hj; simp [Addr.add]
        | 4, hj => simp at hj; subst hj; simp [Addr.add]
        | 5, hj => simp at hj; subst hj; simp [Addr.add]
        | 6, hj => simp at hj; subst hj; simp [Addr.add]
        | 7, hj => simp at hj; subst hj; simp [Addr.add]
        | 8, hj => simp at hj; subst hj; simp [Addr.add]
        | 9, hj => simp at hj; subst hj; simp [Addr.add]
        | 10, hj => simp at hj; subst hj; simp [Addr.add]
        | 11, hj => simp at hj; subst hj; simp [Addr.add]
        | 12, hj => simp at hj; subst hj; simp [Addr.add]
      case c2 => intro u hu; simp at hu; rcases hu with rfl | rfl | rfl | rfl | rfl | rfl | rfl | rfl | rfl | rfl | rfl | rfl | rfl <;> rfl
      case c3 => unfold maxLen; omega
      case c4 => omega
      case c5 => simp; omega
      intro v5 y2 hin2 hgrow _
      rw [← step_shape] at hin2
      have HU2 := Lib.hid (aft_grown (HU1.out.alloc _) (HI1.out.alloc _) hgrow (by omega))
      have HP2 := Lib.hid (rp_grown (HP1.out.new (Ve.below_n1 _ _)) (HI1.out.alloc _) hgrow (by constructor <;> first | omega | (simp; omega)))
      go_wp2_with fail
      go_roundw
      case rel => exact ⟨k + 1, by omega, by go_num, hin2, HP2, HU2⟩
      case measure => simp [intOf]; omega
    · obtain rfl : k = n := by omega
      go_wp2
      go_ret
      exact ⟨⟨_, rfl, la_own hin⟩, HP.out, HU.out⟩

end Go.Proofs.YtplcbdmiccpnnaaGreat.Jb
